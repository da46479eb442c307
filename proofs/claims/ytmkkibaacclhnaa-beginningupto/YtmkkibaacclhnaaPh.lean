/-
  A step of the walk of the parser, the part named Ph: the byte behind a backslash. No theorem of the row.
-/
import Derived.Test.YtmkkibaacclhnaaPg
import Derived.Deep.RegionHeld3
import Derived.Deep.RegionLaw
import Derived.RegionDies
namespace Go.Proofs.Ytmkkibaacclhnaa
open Go.RowKit

/-- append to a row of one's own, as one step of a region that draws its order -/
theorem step_append_d {P : Program} {ops : Array Oper} {o : Oper} {a : Act} {w : World} {K : Act → World → Prop} {Q : Exit → Act → World → Prop} {E : Prop}
    (hg : o.guard = none) (s x : Operand) (t : TypeId) (hop : o.op = Op.call { callee := Callee.builtin Builtin.append, args := #[s, x], argTypes := #[t, t] })
    (e : TypeId) (i : TypeInfo) (z : Value) (size bytes : Nat) (h1 : P.underlying t = some (.slice e)) (h2 : P.info? e = some i) (h3 : i.zero = some z) (h4 : i.size = size) (h5 : i.bytes = bytes) (h6 : z.cells.size = size) (h7 : 0 < size)
    (v : Value) (n : Nat) (xs : List Value) (hs : a.eval s = v) (hown : w.ownsRow 0 e size v n xs)
    (ad : Addr) (m c : Nat) (news : List Value) (hx : a.eval x = .slice (some ad) m c) (hn : news.length = m * size) (hc : ∀ j u, news[j]? = some u → w.cell? (ad.add j) = some u) (h1c : ∀ u ∈ news, u.oneCell' = true)
    (b1 : n + m ≤ maxLen) (b2 : (n + m) * bytes ≤ 140737488355328)
    (hK : ∀ v' w', w'.ownsRow 0 e size v' (n + m) (xs ++ news) → w.grownBy w' v.ownBlock → (∀ g', v'.ownBlock = some g' → v.ownBlock = some g' ∨ w.heap.size ≤ g') → K (a.put o.dst v') w') :
    if Region.wanted o (yielded ops a.tmps) = true then Oper.wp P o a w K Q else E := by
  have hw : Region.wanted o (yielded ops a.tmps) = true := by simp [Region.wanted, hg]
  rw [if_pos hw]
  obtain ⟨v', w', hr, h2, h3, h4⟩ := run_append_d (P := P) w t o.type e i z size bytes h1 h2 h3 h4 h5 h6 h7 v n xs hown ad m c news hn hc h1c b1 b2
  unfold Oper.wp
  simp [execOp, hop, resolve, invoke, builtin, hs, hx, hr, Result.andThen]
  exact hK v' w' h2 h3 h4

set_option maxRecDepth 100000 in
set_option maxHeartbeats 4000000 in
theorem esc_no (B o T : Nat) (cs : Array Value) (v : Value) (t : Tr) (c : UInt8) (w : World) (h : TrAt 0 w B o T cs v t) (hu : ((c.toNat : Int) == 117) = false) (hh0 : ((t.high : Int) == 0) = true) (he : escV c = none) :
    Calls Try.prog 115 #[.pointer (some ⟨B, o, none⟩), .int .u8 (c.toNat : Int)] w fun e w' => e = gave 3 ∧ Fr (fun _ => False) w w' := by
  obtain ⟨hh, hI, ho⟩ := h
  obtain ⟨a, cap, rfl⟩ := row_shape ho
  have k1 := blk_cell hh hI.c1
  have k7 := blk_cell hh hI.c7
  have HC := hid (fun w => escaped_any c w)
  rw [he] at HC
  simp only at HC
  clear hh hI ho he
  go_enter Try.func115, Try.ntmps115
  go_wp2
  go_region_dies
  all_goals
    refine Calls.mono (HC.out _) ?_
    rintro e w2 ⟨rfl, rfl⟩
    exact ⟨rfl, rfl, (Fr.refl _ _).drew⟩

set_option maxRecDepth 100000 in
set_option maxHeartbeats 8000000 in
theorem esc_yes (B o T : Nat) (cs : Array Value) (v : Value) (t : Tr) (c x : UInt8) (w : World) (hT : T ≠ 5) (h : TrAt 0 w B o T cs v t) (hln : t.made.length ≤ 40000000) (hu : ((c.toNat : Int) == 117) = false) (hh0 : ((t.high : Int) == 0) = true) (he : escV c = some x) :
    Calls Try.prog 115 #[.pointer (some ⟨B, o, none⟩), .int .u8 (c.toNat : Int)] w fun e w' => e = .returned (.tuple #[]) ∧ TrPost 0 B o T cs v w w' ⟨0, t.made ++ [x], t.lack, t.lo, t.hi, t.dg, t.code, t.high⟩ := by
  have H := hid h
  have HT := hid hT
  obtain ⟨hh, hI, ho⟩ := h
  obtain ⟨a, cap, rfl⟩ := row_shape ho
  have k1 := blk_cell hh hI.c1
  have k7 := blk_cell hh hI.c7
  have HI := hid hI
  have HC := hid (fun w => escaped_any c w)
  rw [he] at HC
  simp only at HC
  obtain ⟨i0, hi, hz0, hz1, hz2⟩ := info_parts Try.info5
  have HO := hid (show (w.drew).ownsRow 0 5 1 (.slice a t.made.length cap) t.made.length (us t.made) from ho)
  have H0 := hid (show TrR 0 B o T cs (.slice a t.made.length cap) w cs (.slice a t.made.length cap) w.drew t from ⟨H.out, ApartR.refl _ _, (Fr.refl _ _).drew, fun _ h => .inl h⟩)
  have kd := (show w.drew.cell? ⟨B, o + 1, none⟩ = some (.slice a t.made.length cap) from k1)
  have fd := (show w.drew.frozen? ⟨B, o + 1, none⟩ = false from blk_free (j := o + 1) hh)
  have hBl := lt_of_block hh
  have ka : ∀ ob, (w.alloc ob).cell? ⟨B, o + 1, none⟩ = some (.slice a t.made.length cap) := fun ob => (World.cell?_of_block (w := w) (Below.heap_alloc _ _ _ hBl)).trans k1
  clear hh hI ho he hT hBl
  go_enter Try.func115, Try.ntmps115
  go_wp2
  go_region_law (first
    | (refine step_append_d rfl _ _ 52 rfl 5 i0 (.int .u8 0) 1 1 Try.underlying52 hi hz0 hz1 hz2 rfl (by decide) (.slice a t.made.length cap) _ _ rfl (HO.out.alloc _) ⟨w.drew.heap.size, 0, none⟩ 1 1 [.int .u8 (x.toNat : Int)] rfl rfl (cell_one_new _ _ _) (by intro u hu; simp at hu; subst hu; rfl) (by unfold maxLen; omega) (by omega) ?_; intro v' w1 hown' hgrow hnew; obtain ⟨g', cap', rfl⟩ := row_succ hown'; obtain ⟨hh1, hR⟩ := H0.out.grow HT.out hown' hgrow (by simpa using hnew) (us_one x) rfl; have q0 := blk_cell hh1 HI.out.c0; have q1 := blk_cell hh1 HI.out.c1; have p0 := blk_free (j := o) hh1; have p1 := blk_free (j := o + 1) hh1; have HR := hid hR; clear hown' hgrow hnew hh1 hR)
    | (go_simp; go_at_call 127; refine Calls.mono (HC.out _) ?_; rintro e w2 ⟨rfl, rfl⟩))
  all_goals
    go_wp2
    go_end0
    have := HR.out.s0 HT.out 0
    exact ⟨rfl, _, _, this⟩

set_option maxRecDepth 100000 in
set_option maxHeartbeats 4000000 in
theorem trEsc_any (B o T : Nat) (cs : Array Value) (v : Value) (t : Tr) (k : Nat) (c : UInt8) (w : World) (hT : T ≠ 5) (h : TrAt 0 w B o T cs v t) (hok : TrOk t k) (hk : k ≤ 10000000) :
    Calls Try.prog 115 #[.pointer (some ⟨B, o, none⟩), .int .u8 (c.toNat : Int)] w fun e w' => match trEsc t c with
      | .ok t' => e = .returned (.tuple #[]) ∧ TrPost 0 B o T cs v w w' t'
      | .error n => e = gave n ∧ Fr (fun _ => False) w w' := by
  have hln : t.made.length ≤ 40000000 := by have := hok.len; omega
  unfold trEsc
  by_cases hu : c = 117
  · rw [if_pos hu]
    simp only
    have H := hid h
    have HT := hid hT
    obtain ⟨hh, hI, ho⟩ := h
    have q0 := blk_cell hh hI.c0
    have q5 := blk_cell hh hI.c5
    have q6 := blk_cell hh hI.c6
    have p0 := blk_free (j := o) hh
    have p5 := blk_free (j := o + 5) hh
    have p6 := blk_free (j := o + 6) hh
    subst hu
    clear hh hI ho hT
    show Calls Try.prog 115 #[.pointer (some ⟨B, o, none⟩), .int .u8 (117 : Int)] w _
    go_enter Try.func115, Try.ntmps115
    go_wp2
    go_end0
    have := (((TrR.start H.out).s5 HT.out 0).s6 HT.out 0).s0 HT.out 3
    exact ⟨rfl, _, _, this⟩
  · rw [if_neg hu]
    have hq : ((c.toNat : Int) == 117) = false := beq_eq_false_iff_ne.2 (by have := toNat_neP hu; simp at this; omega)
    by_cases hh0 : t.high ≠ 0
    · rw [if_pos hh0]
      simp only
      have q7 := blk_cell h.1 h.2.1.c7
      have hx : ((t.high : Int) == 0) = false := beq_eq_false_iff_ne.2 (by omega)
      have hx2 : ((t.high : Int) != 0) = true := bne_iff_ne.2 (by omega)
      clear h hu hh0
      go_enter Try.func115, Try.ntmps115
      go_wp2
      exact ⟨rfl, rfl, Fr.refl _ _⟩
    · rw [if_neg hh0]
      have hx : ((t.high : Int) == 0) = true := beq_iff_eq.2 (by omega)
      cases he : escV c with
      | none => exact esc_no B o T cs v t c w h hq hx he
      | some x => exact esc_yes B o T cs v t c x w hT h hln hq hx he
end Go.Proofs.Ytmkkibaacclhnaa
