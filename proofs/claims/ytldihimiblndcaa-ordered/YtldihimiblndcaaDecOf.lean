/-
  A step of the walk of the numbers, the part named DecOf. No theorem of the row.
-/
import Derived.Test.YtldihimiblndcaaPower
import Derived.Laws.ResultCell
import Derived.Deep.DeepCutAuto
namespace Go.Proofs.Ytldihimiblndcaa
open Go.RowKit

/-- the decimal that the pieces say -/
def decOf (wh fr : ByteArray) (en : Bool) (ex : ByteArray) : List Nat × Int := addDs (addDs ([], (wh.size : Int) + powI wh fr en ex) (dig wh)) (dig fr)

theorem powI_bd (wh fr : ByteArray) (en : Bool) (ex : ByteArray) : -((wh.size : Int) + fr.size + 632) ≤ powI wh fr en ex ∧ powI wh fr en ex ≤ (wh.size : Int) + fr.size + 632 := by
  have : powN wh fr ex ≤ wh.size + fr.size + 632 := Nat.min_le_right _ _
  unfold powI
  split <;> omega

theorem alloc4 (w : World) (a b c d : Obj) :
    ((((w.alloc a).alloc b).alloc c).alloc d).heap[w.heap.size]? = some a ∧ ((((w.alloc a).alloc b).alloc c).alloc d).heap[w.heap.size + 1]? = some b ∧
    ((((w.alloc a).alloc b).alloc c).alloc d).heap[w.heap.size + 1 + 1]? = some c ∧ ((((w.alloc a).alloc b).alloc c).alloc d).heap[w.heap.size + 1 + 1 + 1]? = some d := by
  have e1 : (w.alloc a).heap.size = w.heap.size + 1 := World.size_alloc _ _
  have e2 : ((w.alloc a).alloc b).heap.size = w.heap.size + 1 + 1 := by rw [World.size_alloc, e1]
  have e3 : (((w.alloc a).alloc b).alloc c).heap.size = w.heap.size + 1 + 1 + 1 := by rw [World.size_alloc, e2]
  refine ⟨?_, ?_, ?_, ?_⟩
  · rw [Below.heap_alloc _ _ _ (by omega), Below.heap_alloc _ _ _ (by omega), Below.heap_alloc _ _ _ (by omega)]; exact heap_alloc_new w a
  · rw [Below.heap_alloc _ _ _ (by omega), Below.heap_alloc _ _ _ (by omega), ← e1]; exact heap_alloc_new _ b
  · rw [Below.heap_alloc _ _ _ (by omega), ← e2]; exact heap_alloc_new _ c
  · rw [← e3]; exact heap_alloc_new _ d

set_option maxRecDepth 100000 in
set_option maxHeartbeats 4000000 in
theorem decimal_any (neg : Bool) (wh fr : ByteArray) (en : Bool) (ex : ByteArray) (w : World) (h1 : wh.size ≤ 140737488355328) (h2 : fr.size ≤ 140737488355328) (h3 : ex.size ≤ 140737488355328) (hw : AllDig wh) (hf : AllDig fr) (hd : AllDig ex) :
    Calls Try.prog 24 #[.agg #[.bool neg, .string wh, .string fr, .bool en, .string ex]] w fun e w' => ∃ dv, e = .returned (.agg #[dv, .int .i64 (decOf wh fr en ex).2]) ∧ w'.ownsRow 0 5 1 dv (decOf wh fr en ex).1.length (bs (decOf wh fr en ex).1) ∧ Fr (fun _ => False) w w' := by
  have hpb := powI_bd wh fr en ex
  go_enter Try.func24, Try.ntmps24
  go_upto_region 1 with fail
  go_cut [3] (fun dp wc => ∃ Bd : Nat, dp = .pointer (some ⟨Bd, 0, none⟩) ∧ w.heap.size + 2 ≤ Bd ∧ wc.heap[Bd]? = some (.cells #[.slice none 0 0, .int .i64 ((wh.size : Int) + powI wh fr en ex)] 45 (0, 0)) ∧ Fr (fun _ => False) w wc ∧ wc.heap[w.heap.size]? = some (.cells #[.bool neg, .string wh, .string fr, .bool en, .string ex] 40 (0, 0)) ∧ wc.heap[w.heap.size + 1]? = some (.cells #[.slice none 0 0, .int .i64 0] 45 (0, 0)))
  case first =>
    go_region_with (go_at_call 37; refine (power_any neg wh fr en ex _ h1 h2 h3 hd).mono ?_; rintro e w' ⟨rfl, rfl⟩)
    all_goals
      go_wp2_with fail
      go_meet
      rw [IntWalk.i64_in ((wh.size : Int) + powI wh fr en ex) (by omega)]
      first
        | exact ⟨_, rfl, by omega, (alloc4 w _ _ _ _).2.2.2, ((((((Fr.refl _ w).alloc _).alloc _).alloc _).alloc _).drew), (alloc4 w _ _ _ _).1, (alloc4 w _ _ _ _).2.1⟩
        | exact ⟨_, rfl, by omega, (alloc4 w _ _ _ _).2.2.1, ((((((Fr.refl _ w).alloc _).alloc _).alloc _).alloc _).drew), (alloc4 w _ _ _ _).1, (alloc4 w _ _ _ _).2.1⟩
  case rest =>
    obtain ⟨Bd, rfl, hBd, hh, hF, hbox, hres⟩ := hcut
    have hb1 : wc.cell? ⟨w.heap.size, 1, none⟩ = some (.string wh) := by simp [World.cell?, hbox]
    have hb2 : wc.cell? ⟨w.heap.size, 2, none⟩ = some (.string fr) := by simp [World.cell?, hbox]
    have HH := hid (show DecAt (w.heap.size + 2) wc Bd ([], (wh.size : Int) + powI wh fr en ex) from ⟨hBd, _, hh, World.ownsRow_nil _ _ _ _⟩)
    have HF := hid hF
    have HRes := hid hres
    have hBl := lt_of_block hh
    clear hh hF hbox hres
    go_wp2_with fail
    refine (add_any (w.heap.size + 2) Bd _ wh wc h1 hw HH.out (by simp) (by simp only; omega) (by simp only; omega)).mono ?_
    rintro e w1 ⟨rfl, hx1, hbe1⟩
    have hy1 := addDs_len ([], (wh.size : Int) + powI wh fr en ex) (dig wh) (by simp)
    have hy2 := addDs_P ([], (wh.size : Int) + powI wh fr en ex) (dig wh)
    rw [dig_length] at hy2
    simp only at hy2
    have hb3 := (hbe1.cell (p := ⟨w.heap.size, 2, none⟩) (by simp)).trans hb2
    have HX1 := hid hx1
    have HB1 := hid hbe1
    clear hx1 hbe1 hb1 hb2
    go_wp2_with fail
    refine (add_any (w.heap.size + 2) Bd _ fr w1 h2 hf HX1.out hy1 (by omega) (by omega)).mono ?_
    rintro e w2 ⟨rfl, ⟨_, dv, hh2, ho2⟩, hbe2⟩
    have hdo : addDs (addDs ([], (wh.size : Int) + powI wh fr en ex) (dig wh)) (dig fr) = decOf wh fr en ex := rfl
    rw [hdo] at hh2 ho2
    have hB2 : Below (w.heap.size + 2) wc w2 := HB1.out.trans hbe2
    have hr2 : w2.heap[w.heap.size + 1]? = some (.cells #[.slice none 0 0, .int .i64 0] 45 (0, 0)) := (hB2.block _ (by omega)).trans HRes.out
    have hF2 : Fr (fun _ => False) w w2 := ⟨hB2.os.trans HF.out.os, hB2.tape.trans HF.out.tape, hB2.output.trans HF.out.output, Nat.le_trans HF.out.size hB2.size, fun k hk _ => (hB2.block k (by omega)).trans (HF.out.block k hk id)⟩
    have hc0 := two_cell0 hh2
    have hc1 := two_cell1 hh2
    have hd0 := two_cell0 hr2
    have hd1 := two_cell1 hr2
    have hf0 := two_free (j := 0) hr2
    have hf1 := two_free (j := 1) hr2
    have hro := row_other ho2 hr2
    obtain ⟨a, cap, rfl⟩ := row_shape ho2
    have HO2 := hid ho2
    have HF2 := hid hF2
    have HR2 := hid hr2
    generalize hxe : decOf wh fr en ex = x at *
    obtain ⟨D, P⟩ := x
    have HXE := hid hxe
    clear hxe
    simp only at hc0 hc1 HO2 hro
    clear hB2 hF2 hr2 hh2 ho2 hbe2 HX1 HB1 HF HRes HH hb3 hdo hy1 hy2
    go_wp2
    have hfin := two_set1 (u := .int .i64 P) (two_set0 (u := .slice a D.length cap) HR2.out)
    have g0 := two_cell0 hfin
    have g1 := two_cell1 hfin
    refine bodyPost_ret (v := .agg #[.slice a D.length cap, .int .i64 P]) (by simp [results, Try.results24, go_sem, g0, g1]) rfl ?_
    refine ⟨_, by rw [HXE.out], ?_, (HF2.out.setCell (.inr (by simp)) _).setCell (.inr (by simp)) _⟩
    rw [HXE.out]
    exact ownsRow_base (ownsRow_setCell_other (ownsRow_setCell_other HO2.out hro _) hro _)
end Go.Proofs.Ytldihimiblndcaa
