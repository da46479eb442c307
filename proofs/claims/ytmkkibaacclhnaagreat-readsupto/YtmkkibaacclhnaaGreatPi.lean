/-
  A step of the walk, the part named Pi. No theorem of the row.
-/
import Derived.Test.YtmkkibaacclhnaaGreatPg
import Derived.Deep.RegionHeld3
import Derived.Deep.RegionLaw
import Derived.RegionDies
namespace Go.Proofs.YtmkkibaacclhnaaGreat
open Go.RowKit

/-- append to a row of one's own, as one step of a region that draws its order -/
theorem step_append_d {P : Program} {ops : Array Oper} {o : Oper} {a : Act} {w : World} {K : Act → World → Prop} {Q : Exit → Act → World → Prop} {E : Prop}
    (hg : o.guard = none) (s x : Operand) (t : TypeId) (hop : o.op = Op.call { callee := Callee.builtin Builtin.append, args := #[s, x], argTypes := #[t, t] })
    (e : TypeId) (i : TypeInfo) (z : Value) (size bytes : Nat) (h1 : P.underlying t = some (.slice e)) (h2 : P.info? e = some i) (h3 : i.zero = some z) (h4 : i.size = size) (h5 : i.bytes = bytes) (h6 : z.cells.size = size) (h7 : 0 < size)
    (v : Value) (n : Nat) (xs : List Value) (hs : a.eval s = v) (hown : w.ownsRow 0 e size v n xs)
    (ad : Addr) (m c : Nat) (news : List Value) (hx : a.eval x = .slice (some ad) m c) (hn : news.length = m * size) (hc : ∀ j u, news[j]? = some u → w.cell? (ad.add j) = some u) (h1c : ∀ u ∈ news, u.oneCell' = true)
    (b1 : n + m ≤ maxLen) (b2 : (n + m) * bytes ≤ 140737488355328)
    (hK : ∀ v' w', w'.ownsRow 0 e size v' (n + m) (xs ++ news) → w.grownBy w' v.ownBlock → (∀ g', v'.ownBlock = some g' → v.ownBlock = some g' ∨ w.heap.size ≤ g') → K (a.put o.dst v') w') :
    if Region.wanted o (yielded ops a.tmps) = true then Oper.wp P o a w K Q else E := by
  have hw : Region.wanted o (yielded ops a.tmps) = true := by simp [Region.wanted, hg]
  rw [if_pos hw]
  obtain ⟨v', w', hr, h2, h3, h4⟩ := run_append_d (P := P) w t o.type e i z size bytes h1 h2 h3 h4 h5 h6 h7 v n xs hown ad m c news hn hc h1c b1 b2
  unfold Oper.wp
  simp [execOp, hop, resolve, invoke, builtin, hs, hx, hr, Result.andThen]
  exact hK v' w' h2 h3 h4
set_option maxRecDepth 100000 in
set_option maxHeartbeats 4000000 in
theorem esc_no (B o T : Nat) (cs : Array Value) (v : Value) (t : Tr) (c : UInt8) (w : World) (h : TrAt 0 w B o T cs v t) (hu : ((c.toNat : Int) == 117) = false) (hh0 : ((t.high : Int) == 0) = true) (he : escV c = none) :
    Calls Tryz.prog 90 #[.pointer (some ⟨B, o, none⟩), .int .u8 (c.toNat : Int)] w fun e w' => e = gave 3 ∧ Fr (fun _ => False) w w' := by
  obtain ⟨hh, hI, ho⟩ := h
  obtain ⟨a, cap, rfl⟩ := row_shape ho
  have k1 := blk_cell hh hI.c1
  have k7 := blk_cell hh hI.c7
  have HC := hid (fun w => escaped_any c w)
  rw [he] at HC
  simp only at HC
  clear hh hI ho he
  go_enter Tryz.func90, Tryz.ntmps90
  go_wp2
  go_region_dies
  all_goals
    refine Calls.mono (HC.out _) ?_
    rintro e w2 ⟨rfl, rfl⟩
    exact ⟨rfl, rfl, (Fr.refl _ _).drew⟩
set_option maxRecDepth 100000 in
set_option maxHeartbeats 8000000 in
theorem esc_yes (B o T : Nat) (cs : Array Value) (v : Value) (t : Tr) (c x : UInt8) (w : World) (hT : T ≠ 5) (h : TrAt 0 w B o T cs v t) (hln : t.made.length ≤ 40000000) (hu : ((c.toNat : Int) == 117) = false) (hh0 : ((t.high : Int) == 0) = true) (he : escV c = some x) :
    Calls Tryz.prog 90 #[.pointer (some ⟨B, o, none⟩), .int .u8 (c.toNat : Int)] w fun e w' => e = .returned (.tuple #[]) ∧ TrPost 0 B o T cs v w w' ⟨0, t.made ++ [x], t.lack, t.lo, t.hi, t.dg, t.code, t.high⟩ := by
  have H := hid h
  have HT := hid hT
  obtain ⟨hh, hI, ho⟩ := h
  obtain ⟨a, cap, rfl⟩ := row_shape ho
  have k1 := blk_cell hh hI.c1
  have k7 := blk_cell hh hI.c7
  have HI := hid hI
  have HC := hid (fun w => escaped_any c w)
  rw [he] at HC
  simp only at HC
  obtain ⟨i0, hi, hz0, hz1, hz2⟩ := info_parts Tryz.info5
  have HO := hid (show (w.drew).ownsRow 0 5 1 (.slice a t.made.length cap) t.made.length (us t.made) from ho)
  have H0 := hid (show TrR 0 B o T cs (.slice a t.made.length cap) w cs (.slice a t.made.length cap) w.drew t from ⟨H.out, ApartR.refl _ _, (Fr.refl _ _).drew, fun _ h => .inl h⟩)
  have kd := (show w.drew.cell? ⟨B, o + 1, none⟩ = some (.slice a t.made.length cap) from k1)
  have fd := (show w.drew.frozen? ⟨B, o + 1, none⟩ = false from blk_free (j := o + 1) hh)
  have hBl := lt_of_block hh
  have ka : ∀ ob, (w.alloc ob).cell? ⟨B, o + 1, none⟩ = some (.slice a t.made.length cap) := fun ob => (World.cell?_of_block (w := w) (Below.heap_alloc _ _ _ hBl)).trans k1
  clear hh hI ho he hT hBl
  go_enter Tryz.func90, Tryz.ntmps90
  go_wp2
  go_region_law (first
    | (refine step_append_d rfl _ _ 66 rfl 5 i0 (.int .u8 0) 1 1 Tryz.underlying66 hi hz0 hz1 hz2 rfl (by decide) (.slice a t.made.length cap) _ _ rfl (HO.out.alloc _) ⟨w.drew.heap.size, 0, none⟩ 1 1 [.int .u8 (x.toNat : Int)] rfl rfl (cell_one_new _ _ _) (by intro u hu; simp at hu; subst hu; rfl) (by unfold maxLen; omega) (by omega) ?_; intro v' w1 hown' hgrow hnew; obtain ⟨g', cap', rfl⟩ := row_succ hown'; obtain ⟨hh1, hR⟩ := H0.out.grow HT.out hown' hgrow (by simpa using hnew) (us_one x) rfl; have q0 := blk_cell hh1 HI.out.c0; have q1 := blk_cell hh1 HI.out.c1; have p0 := blk_free (j := o) hh1; have p1 := blk_free (j := o + 1) hh1; have HR := hid hR; clear hown' hgrow hnew hh1 hR)
    | (go_simp; go_at_call 111; refine Calls.mono (HC.out _) ?_; rintro e w2 ⟨rfl, rfl⟩))
  all_goals
    go_wp2
    go_end0
    have := HR.out.s0 HT.out 0
    exact ⟨rfl, _, _, this⟩
set_option maxRecDepth 100000 in
set_option maxHeartbeats 4000000 in
theorem trEsc_any (B o T : Nat) (cs : Array Value) (v : Value) (t : Tr) (k : Nat) (c : UInt8) (w : World) (hT : T ≠ 5) (h : TrAt 0 w B o T cs v t) (hok : TrOk t k) (hk : k ≤ 10000000) :
    Calls Tryz.prog 90 #[.pointer (some ⟨B, o, none⟩), .int .u8 (c.toNat : Int)] w fun e w' => match trEsc t c with
      | .ok t' => e = .returned (.tuple #[]) ∧ TrPost 0 B o T cs v w w' t'
      | .error n => e = gave n ∧ Fr (fun _ => False) w w' := by
  have hln : t.made.length ≤ 40000000 := by have := hok.len; omega
  unfold trEsc
  by_cases hu : c = 117
  · rw [if_pos hu]
    simp only
    have H := hid h
    have HT := hid hT
    obtain ⟨hh, hI, ho⟩ := h
    have q0 := blk_cell hh hI.c0
    have q5 := blk_cell hh hI.c5
    have q6 := blk_cell hh hI.c6
    have p0 := blk_free (j := o) hh
    have p5 := blk_free (j := o + 5) hh
    have p6 := blk_free (j := o + 6) hh
    subst hu
    clear hh hI ho hT
    show Calls Tryz.prog 90 #[.pointer (some ⟨B, o, none⟩), .int .u8 (117 : Int)] w _
    go_enter Tryz.func90, Tryz.ntmps90
    go_wp2
    go_end0
    have := (((TrR.start H.out).s5 HT.out 0).s6 HT.out 0).s0 HT.out 3
    exact ⟨rfl, _, _, this⟩
  · rw [if_neg hu]
    have hq : ((c.toNat : Int) == 117) = false := beq_eq_false_iff_ne.2 (by have := toNat_neP hu; simp at this; omega)
    by_cases hh0 : t.high ≠ 0
    · rw [if_pos hh0]
      simp only
      have q7 := blk_cell h.1 h.2.1.c7
      have hx : ((t.high : Int) == 0) = false := beq_eq_false_iff_ne.2 (by omega)
      have hx2 : ((t.high : Int) != 0) = true := bne_iff_ne.2 (by omega)
      clear h hu hh0
      go_enter Tryz.func90, Tryz.ntmps90
      go_wp2
      exact ⟨rfl, rfl, Fr.refl _ _⟩
    · rw [if_neg hh0]
      have hx : ((t.high : Int) == 0) = true := beq_iff_eq.2 (by omega)
      cases he : escV c with
      | none => exact esc_no B o T cs v t c w h hq hx he
      | some x => exact esc_yes B o T cs v t c x w hT h hln hq hx he
end Go.Proofs.YtmkkibaacclhnaaGreat

namespace Go.Proofs.YtmkkibaacclhnaaGreat
open Go.RowKit

/-- what a call that lays bytes behind leaves -/
theorem TrR.rune {base B o T : Nat} {cs0 cs : Array Value} {v0 v v' : Value} {w0 W w1 : World} {t : Tr} {e : List UInt8} (hT : T ≠ 5) (h : TrR base B o T cs0 v0 w0 cs v W t)
    (hown : w1.ownsRow base 5 1 v' (t.made ++ e).length (us (t.made ++ e))) (hF : Fr (fun i => v.ownBlock = some i) W w1) (hn : ∀ g, v'.ownBlock = some g → v.ownBlock = some g ∨ W.heap.size ≤ g) :
    w1.heap[B]? = some (.cells cs T (0, 0)) ∧ TrR base B o T cs0 v0 w0 (cs.setIfInBounds (o + 1) v') v' (w1.setCell ⟨B, o + 1, none⟩ v') ⟨t.st, t.made ++ e, t.lack, t.lo, t.hi, t.dg, t.code, t.high⟩ := by
  obtain ⟨⟨a, b, c⟩, d, f, ow⟩ := h
  have hro := row_other c a hT
  have hh : w1.heap[B]? = some (.cells cs T (0, 0)) := hF.heap a (fun h => hro h)
  have hs := b.size
  have hro1 := row_other hown hh hT
  have hfs := f.size
  refine ⟨hh, ⟨heap_setCell_same w1 B (o + 1) cs T v' hh, ⟨by rw [set_get_ne (by omega)]; exact b.c0, get_setP (by omega), by rw [set_get_ne (by omega)]; exact b.c2, by rw [set_get_ne (by omega)]; exact b.c3, by rw [set_get_ne (by omega)]; exact b.c4, by rw [set_get_ne (by omega)]; exact b.c5, by rw [set_get_ne (by omega)]; exact b.c6, by rw [set_get_ne (by omega)]; exact b.c7⟩, ownsRow_setCell_other hown (a := ⟨B, o + 1, none⟩) hro1 v'⟩, d.set 1 (by omega) _, ?_, ?_⟩
  · refine (f.trans' hF ?_).setCell (.inl (.inl rfl)) _
    intro i hi
    rcases ow i hi with h | h
    · exact .inl (.inr h)
    · exact .inr h
  · intro g hg'
    rcases hn g hg' with h | h
    · exact ow g h
    · exact .inr (by omega)
theorem row_shape3 {w : World} {base e size n : Nat} {v : Value} {xs : List Value} (h : w.ownsRow base e size v n xs) : ∃ a m c, v = .slice a m c := by
  rcases h.2 with ⟨h, _⟩ | ⟨g, c, cur, h, _⟩
  · exact ⟨_, _, _, h⟩
  · exact ⟨_, _, _, h⟩
set_option maxRecDepth 100000 in
set_option maxHeartbeats 4000000 in
theorem end_b (B o T : Nat) (cs : Array Value) (v : Value) (t : Tr) (w : World) (hT : T ≠ 5) (h : TrAt 0 w B o T cs v t) (hh0 : t.high = 0) (h1 : 55296 ≤ t.code) (h2 : t.code < 56320) :
    Calls Tryz.prog 113 #[.pointer (some ⟨B, o, none⟩)] w fun e w' => e = .returned (.tuple #[]) ∧ TrPost 0 B o T cs v w w' ⟨0, t.made, t.lack, t.lo, t.hi, t.dg, t.code, t.code⟩ := by
  have H := hid h
  have HT := hid hT
  obtain ⟨hh, hI, ho⟩ := h
  have q0 := blk_cell hh hI.c0
  have q6 := blk_cell hh hI.c6
  have q7 := blk_cell hh hI.c7
  rw [hh0] at q7
  have p0 := blk_free (j := o) hh
  have p7 := blk_free (j := o + 7) hh
  have g1 : (55296 : Int) ≤ (t.code : Int) := by omega
  have g2 : (t.code : Int) < 56320 := by omega
  clear hh hI ho hT hh0 h1 h2
  go_enter Tryz.func113, Tryz.ntmps113
  go_wp2
  go_end0
  have := ((TrR.start H.out).s7 HT.out t.code).s0 HT.out 0
  exact ⟨rfl, _, _, this⟩
set_option maxRecDepth 100000 in
set_option maxHeartbeats 8000000 in
theorem end_c (B o T : Nat) (cs : Array Value) (v : Value) (t : Tr) (w : World) (hT : T ≠ 5) (h : TrAt 0 w B o T cs v t) (hln : t.made.length ≤ 40000000) (hh0 : t.high = 0) (h1 : t.code < 55296 ∨ (57344 ≤ t.code ∧ t.code < 65536)) :
    Calls Tryz.prog 113 #[.pointer (some ⟨B, o, none⟩)] w fun e w' => e = .returned (.tuple #[]) ∧ TrPost 0 B o T cs v w w' ⟨0, t.made ++ encR t.code, t.lack, t.lo, t.hi, t.dg, t.code, t.high⟩ := by
  have HT := hid hT
  have H0 := hid (show TrR 0 B o T cs v w cs v w.drew t from ⟨h, ApartR.refl _ _, (Fr.refl _ _).drew, fun _ h => .inl h⟩)
  obtain ⟨hh, hI, ho⟩ := h
  have HR := hid (fun w ho => rune_any v t.made t.code w ho (by omega) (by omega))
  have HO := hid ho
  obtain ⟨a, cap, rfl⟩ := row_shape ho
  have q1 := blk_cell hh hI.c1
  have q6 := blk_cell hh hI.c6
  have q7 := blk_cell hh hI.c7
  rw [hh0] at q7
  have HI := hid hI
  obtain ⟨R, hR⟩ : ∃ R : Int, (t.code : Int) = R := ⟨_, rfl⟩
  have hg : R < 55296 ∨ (57344 ≤ R ∧ R < 65536) := by omega
  have hR0 : 0 ≤ R := by omega
  rw [hR] at q6 HR
  clear hh hI ho hT hh0 h1 hR
  rcases hg with g1 | ⟨g1, g2⟩
  all_goals
    go_enter Tryz.func113, Tryz.ntmps113
    go_wp2
    go_region_with (go_at_call 123; refine Calls.mono (HR.out _ HO.out) ?_; rintro e w2 ⟨v2, rfl, hown, hF, hnew⟩; obtain ⟨hh1, hR⟩ := H0.out.rune HT.out hown hF hnew; obtain ⟨a2, n2, cap2, rfl⟩ := row_shape3 hown; have r1 := blk_cell hh1 HI.out.c1; have r0 := blk_cell hh1 HI.out.c0; have s0 := blk_free (j := o) hh1; have s1 := blk_free (j := o + 1) hh1; have HRR := hid hR; clear hown hF hnew hh1 hR)
  all_goals
    go_wp2
    go_end0
    have := HRR.out.s0 HT.out 0
    exact ⟨rfl, _, _, this⟩
set_option maxRecDepth 100000 in
set_option maxHeartbeats 8000000 in
theorem end_a (B o T : Nat) (cs : Array Value) (v : Value) (t : Tr) (w : World) (hT : T ≠ 5) (h : TrAt 0 w B o T cs v t) (hln : t.made.length ≤ 40000000) (h1 : 55296 ≤ t.high) (h2 : t.high < 56320) (h3 : 56320 ≤ t.code) (h4 : t.code < 57344) :
    Calls Tryz.prog 113 #[.pointer (some ⟨B, o, none⟩)] w fun e w' => e = .returned (.tuple #[]) ∧ TrPost 0 B o T cs v w w' ⟨0, t.made ++ encR (65536 + (t.high - 55296) * 1024 + (t.code - 56320)), t.lack, t.lo, t.hi, t.dg, t.code, 0⟩ := by
  have HT := hid hT
  have H0 := hid (show TrR 0 B o T cs v w cs v w.drew t from ⟨h, ApartR.refl _ _, (Fr.refl _ _).drew, fun _ h => .inl h⟩)
  obtain ⟨hh, hI, ho⟩ := h
  obtain ⟨N, hN⟩ : ∃ N, 65536 + (t.high - 55296) * 1024 + (t.code - 56320) = N := ⟨_, rfl⟩
  rw [hN]
  have HR := hid (fun w ho => rune_any v t.made N w ho (by omega) (by omega))
  have HO := hid ho
  obtain ⟨a, cap, rfl⟩ := row_shape ho
  have q1 := blk_cell hh hI.c1
  have q6 := blk_cell hh hI.c6
  have q7 := blk_cell hh hI.c7
  have HI := hid hI
  obtain ⟨R, hR⟩ : ∃ R : Int, (t.code : Int) = R := ⟨_, rfl⟩
  obtain ⟨G, hG⟩ : ∃ G : Int, (t.high : Int) = G := ⟨_, rfl⟩
  have g1 : 55296 ≤ G := by omega
  have g2 : G < 56320 := by omega
  have g3 : 56320 ≤ R := by omega
  have g4 : R < 57344 := by omega
  have HN := hid (show 65536 + (G - 55296) * 1024 + R - 56320 = (N : Int) by omega)
  rw [hR] at q6
  rw [hG] at q7
  clear hh hI ho hT h1 h2 h3 h4 hR hG hN
  go_enter Tryz.func113, Tryz.ntmps113
  go_wp2
  go_region
  all_goals
    go_wp2_with fail
    rw [HN.out]
    refine Calls.mono (HR.out _ HO.out) ?_
    rintro e w2 ⟨v2, rfl, hown, hF, hnew⟩
    obtain ⟨hh1, hR⟩ := H0.out.rune HT.out hown hF hnew
    obtain ⟨a2, n2, cap2, rfl⟩ := row_shape3 hown
    have r1 := blk_cell hh1 HI.out.c1
    have r0 := blk_cell hh1 HI.out.c0
    have r7 := blk_cell hh1 HI.out.c7
    have s0 := blk_free (j := o) hh1
    have s1 := blk_free (j := o + 1) hh1
    have s7 := blk_free (j := o + 7) hh1
    have HRR := hid hR
    clear hown hF hnew hh1 hR
    go_wp2
    go_end0
    have := (HRR.out.s7 HT.out 0).s0 HT.out 0
    exact ⟨rfl, _, _, this⟩
theorem trEnd_any (B o T : Nat) (cs : Array Value) (v : Value) (t : Tr) (w : World) (hT : T ≠ 5) (h : TrAt 0 w B o T cs v t) (hln : t.made.length ≤ 40000000) (hc : t.code < 65536) (hhi : t.high = 0 ∨ (55296 ≤ t.high ∧ t.high < 56320)) (hlow : t.high ≠ 0 ↔ 56320 ≤ t.code ∧ t.code < 57344) :
    Calls Tryz.prog 113 #[.pointer (some ⟨B, o, none⟩)] w fun e w' => e = .returned (.tuple #[]) ∧ TrPost 0 B o T cs v w w' (trEnd t) := by
  unfold trEnd
  by_cases h0 : t.high ≠ 0
  · rw [if_pos h0]
    have := hlow.1 h0
    exact end_a B o T cs v t w hT h hln (by omega) (by omega) this.1 this.2
  · rw [if_neg h0]
    have h0' : t.high = 0 := by omega
    have hn : ¬ (56320 ≤ t.code ∧ t.code < 57344) := fun h => h0 (hlow.2 h)
    by_cases h1 : 55296 ≤ t.code ∧ t.code < 56320
    · rw [if_pos h1]
      exact end_b B o T cs v t w hT h h0' h1.1 h1.2
    · rw [if_neg h1]
      exact end_c B o T cs v t w hT h hln h0' (by omega)
end Go.Proofs.YtmkkibaacclhnaaGreat
