/-
  A step of the walk of the parser, the part named Pl: one more byte of a text. No theorem of the row.
-/
import Derived.Test.YtmkkibaacclhnaaPj
import Derived.Test.YtmkkibaacclhnaaPk
namespace Go.Proofs.Ytmkkibaacclhnaa
open Go.RowKit

theorem ApartR.trans {o : Nat} {a b c : Array Value} (h : ApartR o a b) (k : ApartR o b c) : ApartR o a c := ⟨k.1.trans h.1, fun j hj => (k.2 j hj).trans (h.2 j hj)⟩
theorem TrR.trans {base B o T : Nat} {cs0 cs : Array Value} {v0 v : Value} {w0 W w' : World} {t t' : Tr} (h : TrR base B o T cs0 v0 w0 cs v W t) (k : TrPost base B o T cs v W w' t') : TrPost base B o T cs0 v0 w0 w' t' := by
  obtain ⟨cs', v', k⟩ := k
  have hs := h.fr.size
  refine ⟨cs', v', k.is, h.ap.trans k.ap, h.fr.trans' k.fr ?_, ?_⟩
  · intro i hi
    rcases hi with hi | hi
    · exact .inl (.inl hi)
    · rcases h.ow i hi with h | h
      · exact .inl (.inr h)
      · exact .inr h
  · intro g hg
    rcases k.ow g hg with h1 | h1
    · exact h.ow g h1
    · exact .inr (by omega)

set_option maxRecDepth 100000 in
set_option maxHeartbeats 8000000 in
theorem dig_4 (B o T : Nat) (cs : Array Value) (v : Value) (t : Tr) (c : UInt8) (x y : Nat) (w : World) (hD : DigH B o T cs v t c x y 4 w) (hln : t.made.length ≤ 40000000) (hhi : t.high = 0 ∨ (55296 ≤ t.high ∧ t.high < 56320)) (hlow : t.high ≠ 0 ↔ 56320 ≤ y ∧ y < 57344) :
    Calls Try.prog 116 #[.pointer (some ⟨B, o, none⟩), .int .u8 (c.toNat : Int)] w fun e w' => e = .returned (.tuple #[]) ∧ TrPost 0 B o T cs v w w' (trEnd (trAdd t x)) := by
  obtain ⟨hT, h, hc, he, hy, hd, hdl⟩ := hD
  have hx := hexV_lt he
  have hor := hex_or t.code x hc hx
  rw [← hy] at hor
  have HT := hid hT
  have H0 := hid (show TrR 0 B o T cs v w cs v w.drew t from ⟨h, ApartR.refl _ _, (Fr.refl _ _).drew, fun _ h => .inl h⟩)
  obtain ⟨hh, hI, ho⟩ := h
  have k5 := blk_cell hh hI.c5
  have k6 := blk_cell hh hI.c6
  have k7 := blk_cell hh hI.c7
  have f5 := blk_free (j := o + 5) hh
  have f6 := blk_free (j := o + 6) hh
  have hadd : (t.dg : Int) + 1 = 4 := by omega
  have HC := hid (fun w => hex_any c w)
  rw [he] at HC
  simp only at HC
  have H1 := hid ((H0.out.s6 HT.out y).s5 HT.out 4)
  have e : trAdd t x = ⟨t.st, t.made, t.lack, t.lo, t.hi, 4, y, t.high⟩ := by unfold trAdd; rw [← hy, ← hd]
  have HE := hid (trEnd_any B o T _ v ⟨t.st, t.made, t.lack, t.lo, t.hi, 4, y, t.high⟩ _ hT H1.out.is hln (by show y < 65536; omega) hhi hlow)
  rw [e]
  clear hh hI ho he hT hx hy hd hc e hhi hlow
  go_enter Try.func116, Try.ntmps116
  go_upto_region 0 with fail
  go_cut [14] (fun u wc => wc = (w.setCell ⟨B, o + 6, none⟩ (.int .i32 (y : Int))).drew)
  case first =>
    go_region_with (go_at_call 128; refine Calls.mono (HC.out _) ?_; rintro e w2 ⟨rfl, rfl⟩)
    all_goals
      go_wp2
      go_meet
      rfl
  case rest =>
    subst hcut
    go_wp2_with fail
    refine Calls.mono HE.out ?_
    rintro e w2 ⟨rfl, hp⟩
    have HP := hid (H1.out.trans hp)
    clear hp
    go_wp2
    go_end0
    exact ⟨rfl, HP.out⟩

theorem trDig_any (B o T : Nat) (cs : Array Value) (v : Value) (t : Tr) (k : Nat) (c : UInt8) (w : World) (hT : T ≠ 5) (h : TrAt 0 w B o T cs v t) (hok : TrOk t k) (hk : k ≤ 10000000) (h3 : t.st = 3) :
    Calls Try.prog 116 #[.pointer (some ⟨B, o, none⟩), .int .u8 (c.toNat : Int)] w fun e w' => match trDig t c with
      | .ok t' => e = .returned (.tuple #[]) ∧ TrPost 0 B o T cs v w w' t'
      | .error n => e = gave n ∧ TrErr B o T cs v w w' := by
  have hln : t.made.length ≤ 40000000 := by have := hok.len; omega
  have hdg := hok.dg h3
  have hcd := hok.codeD h3
  have hc : t.code < 4096 := by
    have : 16 ^ t.dg ≤ 16 ^ 3 := Nat.pow_le_pow_right (by omega) hdg
    omega
  unfold trDig
  cases he : hexV c with
  | none =>
    simp only
    exact (dig_no B o T cs v t c w h he).mono fun e w' ⟨h1, h2⟩ => ⟨h1, TrErr.same h h2⟩
  | some x =>
    simp only
    have hx := hexV_lt he
    obtain ⟨y, hy⟩ : ∃ y, y = t.code * 16 + x := ⟨_, rfl⟩
    have D : ∀ d, d = t.dg + 1 → DigH B o T cs v t c x y d w := fun d hd => ⟨hT, h, hc, he, hy, hd, hdg⟩
    rw [← hy]
    have b0 : t.high = 0 → ((t.high : Int) != 0) = false := fun h => by rw [h]; rfl
    have b1 : t.high ≠ 0 → ((t.high : Int) != 0) = true := fun h => bne_iff_ne.2 (by omega)
    by_cases d1 : t.dg + 1 = 1
    · rw [if_pos d1]
      by_cases hb : t.high ≠ 0 ∧ y ≠ 13
      · rw [if_pos hb]
        exact dig_1c B o T cs v t c x y 1 w (D 1 d1.symm) rfl (b1 hb.1) (bne_iff_ne.2 (by omega))
      · rw [if_neg hb]
        by_cases h0 : t.high = 0
        · exact dig_1a B o T cs v t c x y 1 w (D 1 d1.symm) rfl (b0 h0)
        · have hy13 : y = 13 := by
            rcases Nat.decEq y 13 with hn | hn
            · exact absurd ⟨h0, hn⟩ hb
            · exact hn
          exact dig_1b B o T cs v t c x y 1 w (D 1 d1.symm) rfl (b1 h0) (by rw [hy13]; rfl)
    rw [if_neg d1]
    by_cases d2 : t.dg + 1 = 2
    · rw [if_pos d2]
      by_cases h0 : t.high = 0
      · have e0 : decide (t.high ≠ 0) = false := decide_eq_false (fun h => h h0)
        rw [e0]
        by_cases hl : 220 ≤ y ∧ y < 224
        · rw [decide_eq_true hl, if_pos (by decide)]
          exact dig_2c B o T cs v t c x y 2 w (D 2 d2.symm) rfl (b0 h0) (by omega) (by omega)
        · rw [decide_eq_false hl, if_neg (by decide)]
          by_cases hy1 : y < 220
          · exact dig_2a B o T cs v t c x y 2 w (D 2 d2.symm) rfl (b0 h0) (by omega)
          · exact dig_2b B o T cs v t c x y 2 w (D 2 d2.symm) rfl (b0 h0) (by omega) (by omega)
      · have e0 : decide (t.high ≠ 0) = true := decide_eq_true h0
        rw [e0]
        by_cases hl : 220 ≤ y ∧ y < 224
        · rw [decide_eq_true hl, if_neg (by decide)]
          exact dig_2f B o T cs v t c x y 2 w (D 2 d2.symm) rfl (b1 h0) (by omega) (by omega)
        · rw [decide_eq_false hl, if_pos (by decide)]
          by_cases hy1 : y < 220
          · exact dig_2d B o T cs v t c x y 2 w (D 2 d2.symm) rfl (b1 h0) (by omega)
          · exact dig_2e B o T cs v t c x y 2 w (D 2 d2.symm) rfl (b1 h0) (by omega) (decide_eq_false (by omega))
    rw [if_neg d2]
    by_cases d4 : t.dg + 1 = 4
    · rw [if_pos d4]
      have hl3 := hok.low3 h3 (by omega)
      exact dig_4 B o T cs v t c x y w (D 4 d4.symm) hln hok.high (by rw [hl3]; omega)
    · rw [if_neg d4]
      exact dig_3 B o T cs v t c x y 3 w (D 3 (by omega)) rfl

set_option maxRecDepth 100000 in
set_option maxHeartbeats 4000000 in
theorem trNext_any (B o T : Nat) (cs : Array Value) (v : Value) (t : Tr) (k : Nat) (c : UInt8) (w : World) (hT : T ≠ 5) (h : TrAt 0 w B o T cs v t) (hok : TrOk t k) (hk : k ≤ 10000000) :
    Calls Try.prog 96 #[.pointer (some ⟨B, o, none⟩), .int .u8 (c.toNat : Int)] w (TrDone B o T cs v w (trNext t c)) := by
  have k0 := blk_cell h.1 h.2.1.c0
  have H := hid h
  have hst := hok.st
  unfold trNext
  have fin : ∀ (F : Nat) (r : Except Nat Tr), True := fun _ _ => trivial
  clear fin
  by_cases h1 : t.st = 1
  · rw [if_pos h1]
    have hs := trGo_any B o T cs v t k c w hT h hok hk h1
    rw [h1] at k0
    clear h1 hst h
    cases hr : trGo t c with
    | error n =>
      rw [hr] at hs
      have HQ := hid hs
      clear hs hr
      go_enter Try.func96, Try.ntmps96
      go_wp2_with fail
      refine Calls.mono HQ.out ?_
      rintro e w2 ⟨rfl, rfl⟩
      exact ⟨rfl, rfl, TrErr.same H.out (Fr.refl _ _)⟩
    | ok t' =>
      rw [hr] at hs
      have HQ := hid hs
      clear hs hr
      go_enter Try.func96, Try.ntmps96
      go_wp2_with fail
      refine Calls.mono HQ.out ?_
      rintro e w2 ⟨rfl, hp⟩
      have HP := hid hp
      clear hp
      go_wp2
      go_ret
      exact ⟨rfl, HP.out⟩
  rw [if_neg h1]
  by_cases h2 : t.st = 2
  · rw [if_pos h2]
    have hs := trEsc_any B o T cs v t k c w hT h hok hk
    rw [h2] at k0
    clear h1 h2 hst h
    cases hr : trEsc t c with
    | error n =>
      rw [hr] at hs
      have HQ := hid hs
      clear hs hr
      go_enter Try.func96, Try.ntmps96
      go_wp2_with fail
      refine Calls.mono HQ.out ?_
      rintro e w2 ⟨rfl, hF⟩
      exact ⟨rfl, rfl, TrErr.same H.out hF⟩
    | ok t' =>
      rw [hr] at hs
      have HQ := hid hs
      clear hs hr
      go_enter Try.func96, Try.ntmps96
      go_wp2_with fail
      refine Calls.mono HQ.out ?_
      rintro e w2 ⟨rfl, hp⟩
      have HP := hid hp
      clear hp
      go_wp2
      go_ret
      exact ⟨rfl, HP.out⟩
  rw [if_neg h2]
  by_cases h3 : t.st = 3
  · rw [if_pos h3]
    have hs := trDig_any B o T cs v t k c w hT h hok hk h3
    rw [h3] at k0
    clear h1 h2 h3 hst h
    cases hr : trDig t c with
    | error n =>
      rw [hr] at hs
      have HQ := hid hs
      clear hs hr
      go_enter Try.func96, Try.ntmps96
      go_wp2_with fail
      refine Calls.mono HQ.out ?_
      rintro e w2 ⟨rfl, hF⟩
      exact ⟨rfl, rfl, hF⟩
    | ok t' =>
      rw [hr] at hs
      have HQ := hid hs
      clear hs hr
      go_enter Try.func96, Try.ntmps96
      go_wp2_with fail
      refine Calls.mono HQ.out ?_
      rintro e w2 ⟨rfl, hp⟩
      have HP := hid hp
      clear hp
      go_wp2
      go_ret
      exact ⟨rfl, HP.out⟩
  rw [if_neg h3]
  have h0 : t.st = 0 := by omega
  have hs := trChar_any B o T cs v t k c w hT h hok hk
  rw [h0] at k0
  clear h1 h2 h3 h0 hst h
  cases hr : trChar t c with
  | error n =>
    rw [hr] at hs
    have HQ := hid hs
    clear hs hr
    go_enter Try.func96, Try.ntmps96
    go_wp2_with fail
    refine Calls.mono HQ.out ?_
    rintro e w2 ⟨rfl, hF⟩
    exact ⟨rfl, rfl, hF⟩
  | ok tb =>
    obtain ⟨t', b⟩ := tb
    rw [hr] at hs
    have HQ := hid hs
    clear hs hr
    go_enter Try.func96, Try.ntmps96
    go_wp2_with fail
    refine Calls.mono HQ.out ?_
    rintro e w2 ⟨rfl, hp⟩
    have HP := hid hp
    clear hp
    go_wp2
    go_ret
    exact ⟨rfl, HP.out⟩
end Go.Proofs.Ytmkkibaacclhnaa
