/-
  A step of the walk of the numbers, the part named TkE: what a token says, and whether it is out of range. No theorem of the row.
-/
import Derived.Test.YtmkkibaacclhnaaTkC
import Derived.Test.YtmkkibaacclhnaaDgs
namespace Go.Proofs.Ytmkkibaacclhnaa
open Go.RowKit

/-- digits, as they are written -/
def byt (D : List Nat) : List UInt8 := D.map (fun d => UInt8.ofNat (48 + d))
theorem byt_digs {D : List Nat} (h : Digs D) : bs D = (byt D).map (fun c => Value.int .u8 ((c.toNat : Nat) : Int)) := by
  unfold bs byt
  rw [List.map_map]
  apply List.map_congr_left
  intro d hd
  have := h d hd
  have e : (UInt8.ofNat (48 + d)).toNat = 48 + d := UInt8.toNat_ofNat_of_lt' (by show _ < 256; omega)
  simp only [Function.comp]
  rw [e]

theorem byte_less {a b : Nat} (ha : a ≤ 9) (hb : b ≤ 9) : (decide (UInt8.ofNat (48 + a) < UInt8.ofNat (48 + b)) = decide (a < b)) ∧ ((UInt8.ofNat (48 + a) == UInt8.ofNat (48 + b)) = decide (a = b)) := by
  have e1 : (UInt8.ofNat (48 + a)).toNat = 48 + a := UInt8.toNat_ofNat_of_lt' (by show _ < 256; omega)
  have e2 : (UInt8.ofNat (48 + b)).toNat = 48 + b := UInt8.toNat_ofNat_of_lt' (by show _ < 256; omega)
  constructor
  · rw [decide_eq_decide, UInt8.lt_iff_toNat_lt, e1, e2]; omega
  · by_cases h : a = b
    · subst h; simp
    · rw [decide_eq_false h]
      apply beq_eq_false_iff_ne.2
      intro e
      have := congrArg UInt8.toNat e
      rw [e1, e2] at this
      omega

theorem less_bytes (a b : List Nat) (ha : Digs a) (hb : Digs b) : Op.bytesLess (byt a) (byt b) = dLess a b := by
  induction a generalizing b with
  | nil => cases b <;> rfl
  | cons x a ih =>
    cases b with
    | nil => rfl
    | cons y b =>
      have hx := byte_less (ha x List.mem_cons_self) (hb y List.mem_cons_self)
      show (decide (UInt8.ofNat (48 + x) < UInt8.ofNat (48 + y)) || ((UInt8.ofNat (48 + x) == UInt8.ofNat (48 + y)) && Op.bytesLess (byt a) (byt b))) = _
      rw [hx.1, hx.2, ih b (fun d hd => ha d (List.mem_cons_of_mem _ hd)) (fun d hd => hb d (List.mem_cons_of_mem _ hd))]
      rfl

theorem cell_alloc2 (w : World) (a b : Value) (T : Nat) (o : Obj) : ((w.alloc (.cells #[a, b] T)).alloc o).drew.cell? ⟨w.heap.size, 0, none⟩ = some a ∧ ((w.alloc (.cells #[a, b] T)).alloc o).drew.cell? ⟨w.heap.size, 1, none⟩ = some b := by
  have h : ((w.alloc (.cells #[a, b] T)).alloc o).drew.heap[w.heap.size]? = some (.cells #[a, b] T (0, 0)) := (Below.heap_alloc _ _ _ (by simp)).trans (heap_alloc_new w _)
  exact ⟨two_cell0 h, two_cell1 h⟩

set_option maxRecDepth 100000 in
set_option maxHeartbeats 4000000 in
theorem decimalOf_any (B o : Nat) (v : Value) (P : Int) (pw : Nat) (pn : Bool) (w : World) (h2 : w.cell? ⟨B, o + 2, none⟩ = some v) (h3 : w.cell? ⟨B, o + 3, none⟩ = some (.int .i64 P)) (h4 : w.cell? ⟨B, o + 4, none⟩ = some (.int .i64 (pw : Int))) (h5 : w.cell? ⟨B, o + 5, none⟩ = some (.bool pn))
    (hB : B < w.heap.size) (a : Option Addr) (n cap : Nat) (hv : v = .slice a n cap) (hP1 : -4000000000000000 ≤ P) (hP2 : P ≤ 4000000000000000) (hpw : pw ≤ 8000000000000000) :
    Calls Try.prog 47 #[.pointer (some ⟨B, o, none⟩)] w fun e w' => e = .returned (.agg #[v, .int .i64 (if pn then P - pw else P + pw)]) ∧ Fr (fun _ => False) w w' := by
  subst hv
  cases pn
  · go_enter Try.func47, Try.ntmps47
    go_wp2
    go_region
    all_goals
      go_wp2
      refine bodyPost_ret (v := .agg #[.slice a n cap, .int .i64 (P + pw)]) ?_ rfl ?_
      · have g0 := cell_alloc2 w (.slice a n cap) (.int .i64 (P + pw)) 54 (Obj.cells #[Value.slice a n cap, Value.int IntKind.i64 (P + pw)] 54)
        simp [results, Try.results47, go_sem, g0.1, g0.2]
      · exact ⟨rfl, (((Fr.refl _ _).alloc _).alloc _).drew⟩
  · go_enter Try.func47, Try.ntmps47
    go_wp2
    go_region
    all_goals
      go_wp2
      refine bodyPost_ret (v := .agg #[.slice a n cap, .int .i64 (P - pw)]) ?_ rfl ?_
      · have g0 := cell_alloc2 w (.slice a n cap) (.int .i64 (P - pw)) 54 (Obj.cells #[Value.slice a n cap, Value.int IntKind.i64 (P - pw)] 54)
        simp [results, Try.results47, go_sem, g0.1, g0.2]
      · exact ⟨rfl, (((Fr.refl _ _).alloc _).alloc _).drew⟩

set_option maxRecDepth 100000 in
set_option maxHeartbeats 4000000 in
theorem outOfRange_any (v : Value) (D : List Nat) (P : Int) (w : World) (hD : Digs D) (hlen : D.length ≤ 800) (ho : w.ownsRow 0 5 1 v D.length (bs D)) :
    Calls Try.prog 48 #[.agg #[v, .int .i64 P]] w fun e w' => e = .returned (.bool (oor D P)) ∧ Fr (fun _ => False) w w' := by
  obtain ⟨a, cap, rfl⟩ := row_shape ho
  by_cases h0 : D.length = 0
  · have hR : Hid (oor D P = false) := if_pos (.inl (List.eq_nil_of_length_eq_zero h0))
    have hl0 : ((D.length : Int) == 0) = true := beq_iff_eq.2 (by omega)
    clear ho
    go_enter Try.func48, Try.ntmps48
    go_wp2
    go_ret
    exact ⟨by rw [hR.out]; rfl, (Fr.refl _ _).alloc _⟩
  · have hDn : D ≠ [] := by rintro rfl; exact h0 rfl
    have hl0 : ((D.length : Int) == 0) = false := beq_eq_false_iff_ne.2 (by omega)
    by_cases h1 : P < 309
    · have hR : Hid (oor D P = false) := if_pos (.inr h1)
      clear ho
      have HD := hid hDn
      clear hDn
      go_enter Try.func48, Try.ntmps48
      go_wp2
      go_ret
      exact ⟨by rw [hR.out]; rfl, (Fr.refl _ _).alloc _⟩
    · by_cases h2 : 309 < P
      · have hR : Hid (oor D P = true) := by rw [Hid, oor, if_neg (by intro h; rcases h with h | h; exact hDn h; exact h1 h), if_pos h2]
        clear ho
        have HD := hid hDn
        clear hDn
        go_enter Try.func48, Try.ntmps48
        go_wp2
        go_ret
        exact ⟨by rw [hR.out]; rfl, (Fr.refl _ _).alloc _⟩
      · have hR : Hid (oor D P = !dLess D bnd) := by rw [Hid, oor, if_neg (by intro h; rcases h with h | h; exact hDn h; exact h1 h), if_neg h2]
        obtain ⟨g, cap', hv⟩ := row_pos ho (by omega)
        simp at hv
        obtain ⟨rfl, rfl⟩ := hv
        have hg : g < w.heap.size := (ho.lt g rfl).2
        have hr : (convert 52 9 (.slice (some ⟨g, 0, none⟩) D.length cap)).run Try.prog (w.alloc (.cells #[.slice (some ⟨g, 0, none⟩) D.length cap, .int .i64 P] 54)) = .ok (.string (ofL (byt D))) (w.alloc (.cells #[.slice (some ⟨g, 0, none⟩) D.length cap, .int .i64 P] 54)) := by
          have := run_convert_bytes_arg (P := Try.prog) (w.alloc (.cells #[.slice (some ⟨g, 0, none⟩) D.length cap, .int .i64 P] 54)) 52 5 Try.underlying52 Try.underlying5 g 0 D.length cap ((byt D).map (fun c => ((c.toNat : Nat) : Int))) (by simp [byt]) (by
            intro i hi
            rw [Nat.zero_add, World.cell?_of_block (w := w) (Below.heap_alloc w _ g hg), ho.cellAt i (by omega), byt_digs hD, List.getElem?_map]
            have hi' : i < (byt D).length := by simpa [byt] using hi
            simp [List.getD, List.getElem?_eq_getElem hi']) 9 Try.underlying9
          rw [this, strOf_nums]
        have HD := hid hDn
        clear hDn ho
        go_enter Try.func48, Try.ntmps48
        go_wp2
        go_ret
        refine ⟨?_, (Fr.refl _ _).alloc _⟩
        rw [hR.out, ← less_bytes D bnd hD bnd_digs]
        have hq : Op.bytesLess (ofL (byt D)).toList (byt bnd) = Op.bytesLess (byt D) (byt bnd) := by rw [ofL_toList]
        rw [← hq]
        rfl
end Go.Proofs.Ytmkkibaacclhnaa
