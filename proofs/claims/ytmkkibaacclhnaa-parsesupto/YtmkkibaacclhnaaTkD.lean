/-
  A step of the walk of the numbers, the part named TkD: one more byte of a token. No theorem of the row.
-/
import Derived.Test.YtmkkibaacclhnaaTkB
import Derived.Test.YtmkkibaacclhnaaTkC
namespace Go.Proofs.Ytmkkibaacclhnaa
open Go.RowKit

/-- what one more byte makes of a token in memory -/
def NextPost (base B o T : Nat) (cs : Array Value) (v : Value) (w w' : World) (t' : Tk) : Prop :=
  ∃ cs' v', TkAt base w' B o T cs' v' t' ∧ Apart o cs cs' ∧ Fr (fun i => i = B ∨ v.ownBlock = some i) w w'

theorem TkAt.setCell {base : Nat} {w : World} {B o T : Nat} {cs : Array Value} {v : Value} {t : Tk} (hT : T ≠ 5) (h : TkAt base w B o T cs v t) (j : Nat) (u : Value) (t' : Tk) (hD : t'.D = t.D) (hi : TkIn (cs.setIfInBounds j u) o v t') :
    TkAt base (w.setCell ⟨B, j, none⟩ u) B o T (cs.setIfInBounds j u) v t' := by
  obtain ⟨h1, h2, h3⟩ := h
  refine ⟨heap_setCell_same w B j cs T u h1, hi, ?_⟩
  rw [hD]
  exact ownsRow_setCell_other h3 (a := ⟨B, j, none⟩) (row_other h3 h1 hT) u

theorem TkAt.drew {base : Nat} {w : World} {B o T : Nat} {cs : Array Value} {v : Value} {t : Tk} (h : TkAt base w B o T cs v t) : TkAt base w.drew B o T cs v t := h

theorem nxt_of {t : Tk} {c : UInt8} {k : Nat} (h : beh t.st c = k) (hk : k ≠ 0) : nxt t c = some (nxtTo t c k) := by
  rw [nxt, h, if_neg hk]

set_option maxRecDepth 100000 in
set_option maxHeartbeats 4000000 in
theorem next_none (base B o T : Nat) (cs : Array Value) (v : Value) (t : Tk) (c : UInt8) (w : World) (hst : t.st ≤ 8) (ht : TkAt base w B o T cs v t) (hn : beh t.st c = 0) :
    Calls Try.prog 30 #[.pointer (some ⟨B, o, none⟩), .int .u8 (c.toNat : Int)] w fun e w' => e = .returned (.bool false) ∧ w' = w := by
  have hc0 := blk_cell ht.1 ht.2.1.c0
  have HN := hid hn
  clear hn ht
  go_enter Try.func30, Try.ntmps30
  go_wp2_with (go_at_call 44; refine (behind_any t.st hst c _).mono ?_; rintro e w' ⟨rfl, rfl⟩; rw [HN.out])
  go_ret
  exact ⟨rfl, rfl⟩

set_option maxRecDepth 100000 in
set_option maxHeartbeats 8000000 in
theorem next_some (base B o T : Nat) (cs : Array Value) (v : Value) (t : Tk) (c : UInt8) (w : World) (k : Nat) (hT : T ≠ 5) (hbw : base ≤ w.heap.size) (hk : k ≤ 1000000000000000) (hok : TkOk t k) (ht : TkAt base w B o T cs v t) (hn : beh t.st c ≠ 0) :
    Calls Try.prog 30 #[.pointer (some ⟨B, o, none⟩), .int .u8 (c.toNat : Int)] w fun e w' => e = .returned (.bool true) ∧ NextPost base B o T cs v w w' (nxtTo t c (beh t.st c)) := by
  have hst := hok.st
  have hp1 := hok.p1
  have hp2 := hok.p2
  have hpw := hok.pw
  have hlen := hok.len
  have hb := beh_lt t.st c
  have hdig := @beh_digit t.st c
  obtain ⟨hh, hI, ho⟩ := ht
  have hc0 := blk_cell hh hI.c0
  have hc1 := blk_cell hh hI.c1
  have hc2 := blk_cell hh hI.c2
  have hc3 := blk_cell hh hI.c3
  have hc4 := blk_cell hh hI.c4
  have hc5 := blk_cell hh hI.c5
  have hf0 := blk_free (j := o) hh
  have hf1 := blk_free (j := o + 1) hh
  have hf2 := blk_free (j := o + 2) hh
  have hf3 := blk_free (j := o + 3) hh
  have hf4 := blk_free (j := o + 4) hh
  have hf5 := blk_free (j := o + 5) hh
  have HH := hid (show TkAt base w B o T cs v t from ⟨hh, hI, ho⟩)
  clear hok hI ho
  obtain hq | hq | hq | hq | hq | hq | hq | hq : beh t.st c = 1 ∨ beh t.st c = 2 ∨ beh t.st c = 3 ∨ beh t.st c = 4 ∨ beh t.st c = 5 ∨ beh t.st c = 6 ∨ beh t.st c = 7 ∨ beh t.st c = 8 := by omega
  · have HQ := hid hq
    rw [hq]
    clear hq hn hdig hb hh
    go_enter Try.func30, Try.ntmps30
    go_wp2_with (go_at_call 44; refine (behind_any t.st hst c _).mono ?_; rintro e w' ⟨rfl, rfl⟩; rw [HQ.out])
    go_ret
    exact ⟨rfl, _, v, TkAt.setCell hT (TkAt.setCell hT HH.out (o + 1) _ ⟨t.st, true, t.D, t.P, t.pw, t.pn⟩ rfl (HH.out.2.1.set1 true)) o _ _ rfl ((HH.out.2.1.set1 true).set0 1), ((Apart.refl o cs).set 1 (by omega) _).set00 _, ((Fr.refl _ _).setCell (.inl (.inl rfl)) _).setCell (.inl (.inl rfl)) _⟩
  · have HQ := hid hq
    have hd := hdig (by omega)
    rw [hq]
    have HF := hid (heap_setCell_same w B (o + 2 + 1) cs T (.int .i64 (t.P + 1)) hh)
    have HI1 := hid (HH.out.2.1.set3 (t.P + 1))
    have HO1 := hid (ownsRow_setCell_other HH.out.2.2 (a := ⟨B, o + 2 + 1, none⟩) (row_other HH.out.2.2 hh hT) (.int .i64 (t.P + 1)))
    clear hq hn hdig hb hh
    go_enter Try.func30, Try.ntmps30
    go_wp2_with (first | (go_at_call 44; refine (behind_any t.st hst c _).mono ?_; rintro e w' ⟨rfl, rfl⟩; rw [HQ.out]) | fail)
    refine (add_any base B (o + 2) T _ t.D (t.P + 1) c v _ hT (by simpa using hbw) HF.out HI1.out.c2 HI1.out.c3 HO1.out hlen (by omega) (by omega) hd).mono ?_
    rintro e w2 ⟨rfl, v', a1, a2, a3⟩
    have hI2 := (HI1.out.set2 v' (addD (t.D, t.P + 1) (c.toNat - 48)).1).set3 (addD (t.D, t.P + 1) (c.toNat - 48)).2
    have hT2 : TkAt base w2 B o T _ v' _ := ⟨a1, hI2, a2⟩
    have hcx := blk_cell a1 hI2.c0
    have hfx := blk_free (j := o) a1
    have HT2 := hid hT2
    have HA3 := hid a3
    have HI2 := hid hI2
    clear hT2 hI2 a1 a2 a3 hc0 hc1 hc2 hc3 hc4 hc5 hf0 hf1 hf2 hf3 hf4 hf5
    go_wp2
    go_ret
    exact ⟨rfl, _, v', TkAt.setCell hT HT2.out o _ _ rfl (HI2.out.set0 2), ((((Apart.refl o cs).set 3 (by omega) _).set 2 (by omega) _).set 3 (by omega) _).set00 _, (((Fr.refl _ _).setCell (.inl (.inl rfl)) _).trans HA3.out).setCell (.inl (.inl rfl)) _⟩
  · have HQ := hid hq
    have hd := hdig (by omega)
    rw [hq]
    have HF := hid (heap_setCell_same w B (o + 2 + 1) cs T (.int .i64 (t.P + 1)) hh)
    have HI1 := hid (HH.out.2.1.set3 (t.P + 1))
    have HO1 := hid (ownsRow_setCell_other HH.out.2.2 (a := ⟨B, o + 2 + 1, none⟩) (row_other HH.out.2.2 hh hT) (.int .i64 (t.P + 1)))
    clear hq hn hdig hb hh
    go_enter Try.func30, Try.ntmps30
    go_wp2_with (first | (go_at_call 44; refine (behind_any t.st hst c _).mono ?_; rintro e w' ⟨rfl, rfl⟩; rw [HQ.out]) | fail)
    refine (add_any base B (o + 2) T _ t.D (t.P + 1) c v _ hT (by simpa using hbw) HF.out HI1.out.c2 HI1.out.c3 HO1.out hlen (by omega) (by omega) hd).mono ?_
    rintro e w2 ⟨rfl, v', a1, a2, a3⟩
    have hI2 := (HI1.out.set2 v' (addD (t.D, t.P + 1) (c.toNat - 48)).1).set3 (addD (t.D, t.P + 1) (c.toNat - 48)).2
    have hT2 : TkAt base w2 B o T _ v' _ := ⟨a1, hI2, a2⟩
    have hcx := blk_cell a1 hI2.c0
    have hfx := blk_free (j := o) a1
    have HT2 := hid hT2
    have HA3 := hid a3
    have HI2 := hid hI2
    clear hT2 hI2 a1 a2 a3 hc0 hc1 hc2 hc3 hc4 hc5 hf0 hf1 hf2 hf3 hf4 hf5
    go_wp2
    go_ret
    exact ⟨rfl, _, v', TkAt.setCell hT HT2.out o _ _ rfl (HI2.out.set0 3), ((((Apart.refl o cs).set 3 (by omega) _).set 2 (by omega) _).set 3 (by omega) _).set00 _, (((Fr.refl _ _).setCell (.inl (.inl rfl)) _).trans HA3.out).setCell (.inl (.inl rfl)) _⟩
  · have HQ := hid hq
    rw [hq]
    clear hq hn hdig hb hh
    go_enter Try.func30, Try.ntmps30
    go_wp2_with (go_at_call 44; refine (behind_any t.st hst c _).mono ?_; rintro e w' ⟨rfl, rfl⟩; rw [HQ.out])
    go_ret
    exact ⟨rfl, _, v, TkAt.setCell hT HH.out o _ _ rfl (HH.out.2.1.set0 4), (Apart.refl o cs).set00 _, (Fr.refl _ _).setCell (.inl (.inl rfl)) _⟩
  · have HQ := hid hq
    have hd := hdig (by omega)
    rw [hq]
    have HF := hid hh
    clear hq hn hdig hb hh
    go_enter Try.func30, Try.ntmps30
    go_wp2_with (first | (go_at_call 44; refine (behind_any t.st hst c _).mono ?_; rintro e w' ⟨rfl, rfl⟩; rw [HQ.out]) | fail)
    refine (add_any base B (o + 2) T cs t.D t.P c v _ hT hbw HF.out HH.out.2.1.c2 HH.out.2.1.c3 HH.out.2.2 hlen (by omega) (by omega) hd).mono ?_
    rintro e w2 ⟨rfl, v', a1, a2, a3⟩
    have hI2 := (HH.out.2.1.set2 v' (addD (t.D, t.P) (c.toNat - 48)).1).set3 (addD (t.D, t.P) (c.toNat - 48)).2
    have hT2 : TkAt base w2 B o T _ v' _ := ⟨a1, hI2, a2⟩
    have hcx := blk_cell a1 hI2.c0
    have hfx := blk_free (j := o) a1
    have HT2 := hid hT2
    have HA3 := hid a3
    have HI2 := hid hI2
    clear hT2 hI2 a1 a2 a3 hc0 hc1 hc2 hc3 hc4 hc5 hf0 hf1 hf2 hf3 hf4 hf5
    go_wp2
    go_ret
    exact ⟨rfl, _, v', TkAt.setCell hT HT2.out o _ _ rfl (HI2.out.set0 5), (((Apart.refl o cs).set 2 (by omega) _).set 3 (by omega) _).set00 _, HA3.out.setCell (.inl (.inl rfl)) _⟩
  · have HQ := hid hq
    rw [hq]
    clear hq hn hdig hb hh
    go_enter Try.func30, Try.ntmps30
    go_wp2_with (go_at_call 44; refine (behind_any t.st hst c _).mono ?_; rintro e w' ⟨rfl, rfl⟩; rw [HQ.out])
    go_ret
    exact ⟨rfl, _, v, TkAt.setCell hT HH.out o _ _ rfl (HH.out.2.1.set0 6), (Apart.refl o cs).set00 _, (Fr.refl _ _).setCell (.inl (.inl rfl)) _⟩
  · have HQ := hid hq
    rw [hq]
    have he : (((c.toNat : Int) == 45)) = decide (c = 45) := by
      by_cases h : c = 45
      · subst h; decide
      · have := toNat_ne h
        simp at this
        rw [decide_eq_false h]
        exact beq_eq_false_iff_ne.2 (by omega)
    have HE := hid he
    clear hq hn hdig hb hh he
    go_enter Try.func30, Try.ntmps30
    go_wp2_with (go_at_call 44; refine (behind_any t.st hst c _).mono ?_; rintro e w' ⟨rfl, rfl⟩; rw [HQ.out])
    go_ret
    rw [HE.out]
    exact ⟨rfl, _, v, TkAt.setCell hT (TkAt.setCell hT HH.out (o + 5) _ ⟨t.st, t.neg, t.D, t.P, t.pw, decide (c = 45)⟩ rfl (HH.out.2.1.set5 (decide (c = 45)))) o _ _ rfl ((HH.out.2.1.set5 (decide (c = 45))).set0 7), ((Apart.refl o cs).set 5 (by omega) _).set00 _, ((Fr.refl _ _).setCell (.inl (.inl rfl)) _).setCell (.inl (.inl rfl)) _⟩
  · have HQ := hid hq
    have hd := hdig (by omega)
    rw [hq]
    clear hq hn hdig hb hh
    go_enter Try.func30, Try.ntmps30
    go_wp2_with (first | (go_at_call 44; refine (behind_any t.st hst c _).mono ?_; rintro e w' ⟨rfl, rfl⟩; rw [HQ.out]) | fail)
    refine (addToPower_any B o t.P t.pw c _ hc3 hc4 hf4 hd (by omega) (by omega) hpw).mono ?_
    rintro e w2 ⟨rfl, rfl⟩
    have hI2 := HH.out.2.1.set4 (min (t.pw * 10 + (c.toNat - 48)) (t.P.natAbs + 632))
    have hT2 := TkAt.setCell hT HH.out (o + 4) (.int .i64 ((min (t.pw * 10 + (c.toNat - 48)) (t.P.natAbs + 632) : Nat) : Int)) ⟨t.st, t.neg, t.D, t.P, min (t.pw * 10 + (c.toNat - 48)) (t.P.natAbs + 632), t.pn⟩ rfl hI2
    have hcx := blk_cell hT2.1 hI2.c0
    have hfx := blk_free (j := o) hT2.1
    have HT2 := hid hT2
    have HI2 := hid hI2
    clear hT2 hI2 hc0 hc1 hc2 hc3 hc4 hc5 hf0 hf1 hf2 hf3 hf4 hf5
    go_wp2
    go_ret
    exact ⟨rfl, _, v, TkAt.setCell hT (TkAt.drew HT2.out) o _ _ rfl (HI2.out.set0 8), ((Apart.refl o cs).set 4 (by omega) _).set00 _, (((Fr.refl _ _).setCell (p := ⟨B, o + 4, none⟩) (.inl (.inl rfl)) _).drew).setCell (.inl (.inl rfl)) _⟩
end Go.Proofs.Ytmkkibaacclhnaa
