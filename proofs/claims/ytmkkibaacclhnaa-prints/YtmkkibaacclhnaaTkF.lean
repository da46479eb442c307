/-
  A step of the walk of the numbers, the part named TkF: the number that a token is. No theorem of the row.
-/
import Derived.Test.YtmkkibaacclhnaaTkD
import Derived.Test.YtmkkibaacclhnaaTkE
namespace Go.Proofs.Ytmkkibaacclhnaa
open Go.RowKit

theorem ownsRow_fr {w w' : World} {base e size : Nat} {v : Value} {n : Nat} {xs : List Value} (h : w.ownsRow base e size v n xs) (hF : Fr (fun _ => False) w w') : w'.ownsRow base e size v n xs := by
  obtain ⟨h1, h2⟩ := h
  refine ⟨h1, ?_⟩
  rcases h2 with h2 | ⟨g, cap, cur, hv, hg, hh, hr⟩
  · exact .inl h2
  · exact .inr ⟨g, cap, cur, hv, hg, (hF.block g (lt_of_block hh) id).trans hh, hr⟩

set_option maxRecDepth 100000 in
set_option maxHeartbeats 4000000 in
theorem value_none (base B o T : Nat) (cs : Array Value) (v : Value) (t : Tk) (w : World) (ht : TkAt base w B o T cs v t) (hE : ¬ Ends t.st) :
    Calls Try.prog 31 #[.pointer (some ⟨B, o, none⟩)] w fun e w' => e = .returned (.tuple #[.int .u64 0, .int .i64 3]) ∧ w' = w := by
  have hc0 := blk_cell ht.1 ht.2.1.c0
  unfold Ends at hE
  have e2 : ((t.st : Int) == 2) = false := beq_eq_false_iff_ne.2 (by omega)
  have e3 : ((t.st : Int) == 3) = false := beq_eq_false_iff_ne.2 (by omega)
  have e5 : ((t.st : Int) == 5) = false := beq_eq_false_iff_ne.2 (by omega)
  have e8 : ((t.st : Int) == 8) = false := beq_eq_false_iff_ne.2 (by omega)
  clear ht hE
  go_enter Try.func31, Try.ntmps31
  go_wp2
  go_ret2
  exact ⟨rfl, rfl⟩

/-- the place of what a token says -/
def Tk.at (t : Tk) : Int := if t.pn then t.P - t.pw else t.P + t.pw

set_option maxRecDepth 100000 in
set_option maxHeartbeats 8000000 in
theorem value_some (base B o T : Nat) (cs : Array Value) (v : Value) (t : Tk) (w : World) (k : Nat) (hk : k ≤ 1000000000000000) (hok : TkOk t k) (ht : TkAt base w B o T cs v t) (hE : Ends t.st) :
    Calls Try.prog 31 #[.pointer (some ⟨B, o, none⟩)] w fun e w' => ∃ r, NearV t.D t.at r ∧ e = .returned (.tuple #[.int .u64 ((parseV t.neg r).1 : Nat), .int .i64 ((parseV t.neg r).2 : Nat)]) ∧ Fr (fun _ => False) w w' := by
  have hp1 := hok.p1
  have hp2 := hok.p2
  have hpw := hok.pw
  have hlen := hok.len
  obtain ⟨hh, hI, ho⟩ := ht
  have hc0 := blk_cell hh hI.c0
  have hc1 := blk_cell hh hI.c1
  have hc2 := blk_cell hh hI.c2
  have hc3 := blk_cell hh hI.c3
  have hc4 := blk_cell hh hI.c4
  have hc5 := blk_cell hh hI.c5
  have hBl := lt_of_block hh
  obtain ⟨a, cap, rfl⟩ := row_shape ho
  have hat : -3000000000000000 ≤ t.at ∧ t.at ≤ 3000000000000000 := by
    unfold Tk.at
    split <;> omega
  have HO := hid (ownsRow_base ho)
  have HD := hid hok.digs
  have HH := hid hok.head
  have HE : Hid (∀ q : Int, (q = 2 ∨ q = 3 ∨ q = 5 ∨ q = 8) ∨ True) := fun _ => .inr trivial
  clear hok hI ho hh HE
  rcases hE with hq | hq | hq | hq
  all_goals
    rw [hq] at hc0
    clear hq
    have hcall : ∀ w1 : World, Fr (fun _ => False) w w1 → w1.cell? ⟨B, o + 1, none⟩ = some (.bool t.neg) := fun w1 hF => (hF.cell (p := ⟨B, o + 1, none⟩) hBl id).trans hc1
    have HC := hid hcall
    clear hcall
    go_enter Try.func31, Try.ntmps31
    go_wp2_with fail
    refine (decimalOf_any B o _ t.P t.pw t.pn _ hc2 hc3 hc4 hc5 hBl a t.D.length cap rfl (by omega) (by omega) (by omega)).mono ?_
    rintro e w1 ⟨rfl, hF1⟩
    have hat2 : (if t.pn = true then t.P - (t.pw : Int) else t.P + (t.pw : Int)) = t.at := rfl
    rw [hat2]
    have hd1 := HC.out w1 hF1
    have HF1 := hid hF1
    have HO1 := hid (ownsRow_fr HO.out (HF1.out.alloc (.cells #[.slice a t.D.length cap, .int .i64 t.at] 54)))
    clear hF1 hat2 hc0 hc1 hc2 hc3 hc4 hc5
    go_wp2_with fail
    refine (outOfRange_any _ t.D t.at _ HD.out (by omega) HO1.out).mono ?_
    rintro e w2 ⟨rfl, hF2⟩
    have hF12 := (HF1.out.alloc (.cells #[.slice a t.D.length cap, .int .i64 t.at] 54)).trans hF2
    have hd2 := HC.out w2 hF12
    have hb0 := (hF2.cell (p := ⟨w1.heap.size, 0, none⟩) (by simp) id).trans (cell_alloc_at _ _ _ _)
    have hb1 := (hF2.cell (p := ⟨w1.heap.size, 1, none⟩) (by simp) id).trans (cell_alloc_at _ _ _ _)
    simp only [List.getElem?_toArray, List.getElem?_cons_zero, List.getElem?_cons_succ] at hb0 hb1
    have HF2 := hid hF12
    have HO2 := hid (ownsRow_fr HO1.out hF2)
    clear hF2 hF12 hd1
    by_cases hr : oor t.D t.at = true
    · rw [hr]
      have HR := hid hr
      clear hr
      go_wp2
      go_ret2
      exact ⟨9218868437227405312, ⟨fun _ => rfl, fun h => (by rw [HR.out] at h; cases h)⟩, rfl, HF2.out⟩
    · have hr' : oor t.D t.at = false := by simpa using hr
      rw [hr']
      have hP9 : t.D ≠ [] → t.at ≤ 309 := by
        intro h1
        unfold oor at hr'
        by_cases h2 : 309 < t.at
        · rw [if_neg (by intro h; rcases h with h | h; exact h1 h; omega), if_pos h2] at hr'
          cases hr'
        · omega
      have HR := hid hr'
      have HP9 := hid hP9
      clear hr hr' hP9
      go_wp2_with fail
      refine (nearest_any _ t.D t.at _ HD.out (by omega) HH.out (by omega) HP9.out HO2.out).mono ?_
      rintro e w3 ⟨r, rfl, hr, hF3⟩
      have hlt := near_lt HD.out HP9.out HR.out hr
      have HV := hid (show NearV t.D t.at r from ⟨fun h => (by rw [HR.out] at h; cases h), fun _ => ⟨hr, hlt⟩⟩)
      have hF23 := HF2.out.trans hF3
      have hd3 := HC.out w3 hF23
      have HFin := hid hF23
      have HLT := hid hlt
      clear hr hF3 hF23 hlt hd2 HF2 HO2 HO1 HO HF1 HC HR HP9 hb0 hb1 hat hBl
      cases hn : t.neg
      · have hv : Hid (parseV t.neg r = (r, 0)) := by rw [Hid, hn]; exact if_neg (by have := HLT.out; omega)
        rw [hn] at hd3
        clear hn
        go_wp2
        go_ret2
        exact ⟨r, HV.out, by rw [hv.out]; rfl, HFin.out⟩
      · have hv : Hid (parseV t.neg r = (r + 9223372036854775808, 0)) := by rw [Hid, hn]; exact if_neg (by have := HLT.out; omega)
        rw [hn] at hd3
        clear hn
        go_wp2
        go_ret2
        refine ⟨r, HV.out, ?_, HFin.out⟩
        rw [hv.out, ← or_sign r (by have := HLT.out; omega)]
        rfl
end Go.Proofs.Ytmkkibaacclhnaa
