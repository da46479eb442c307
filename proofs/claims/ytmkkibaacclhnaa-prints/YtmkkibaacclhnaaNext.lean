/-
  A step of the walk of the numbers, the part named Next. No theorem of the row.
-/
import Derived.Test.YtmkkibaacclhnaaCmp
import Derived.Deep.LoopGhost
namespace Go.Proofs.Ytmkkibaacclhnaa
open Go.RowKit

theorem div_step {a u k : Nat} (h1 : k * u ≤ a) (h2 : a - k * u < u) : k = a / u ∧ a - k * u = a % u := by
  have hu : 0 < u := by omega
  have e : a / u = k := by
    rw [Nat.div_eq_iff hu]
    constructor
    · exact h1
    · omega
  refine ⟨e.symm, ?_⟩
  rw [Nat.mod_def, e, Nat.mul_comm]

set_option maxRecDepth 100000 in
set_option maxHeartbeats 4000000 in
theorem next_any {A : Nat → Prop} {w0 w : World} {B dg : Nat} {pw : Int} {R L H U br bl bh bu : Nat} {ends : Bool} (hR : R < U) (hs2 : Sm (10 * L)) (hs3 : Sm (10 * H)) (hs4 : Sm (10 * U)) (hdg : dg ≤ 100000000000000000) (hpw : -5000 ≤ pw) (hpw2 : pw ≤ 5000) (h : St A w0 w B dg pw R L H U br bl bh bu ends) :
    Calls Try.prog 60 #[.pointer (some ⟨B, 0, none⟩)] w fun e w' => e = .returned (.tuple #[]) ∧ St A w0 w' B (dg * 10 + 10 * R / U) (pw - 1) (10 * R % U) (10 * L) (10 * H) U br bl bh bu ends := by
  have HS4 := hid hs4
  have HSR := hid (Sm.mono hs4 (show R ≤ 10 * U by omega))
  have HSU := hid (Sm.mono hs4 (show U ≤ 10 * U by omega))
  have HSRT := hid (Sm.mono hs4 (show 10 * R ≤ 10 * U by omega))
  have HSL := hid (Sm.mono hs2 (show L ≤ 10 * L by omega))
  have HSH := hid (Sm.mono hs3 (show H ≤ 10 * H by omega))
  have HH := hid h
  clear hs2 hs3 hs4 h
  go_enter Try.func60, Try.ntmps60
  go_wp2_with fail
  refine (timesAll_ten HSR.out HSL.out HSH.out HH.out).mono ?_
  rintro e w1 ⟨rfl, h1, hk⟩
  have hc := h1.sv.cells
  have hc0 := hc.1
  have hc1 := hc.2.1
  have hf0 := hc.2.2.2.2.2.2.2 0
  have hf1 := hc.2.2.2.2.2.2.2 1
  have H1 := hid ((h1.set1 (pw - 1)).set0 (dg * 10))
  clear hc h1 hk HH
  go_wp2
  have hcast : (Value.int .u64 ((dg : Int) * 10)) = .int .u64 ((dg * 10 : Nat) : Int) := by rw [Int.natCast_mul]; rfl
  rw [hcast]
  generalize (w1.setCell ⟨B, 1, none⟩ (.int .i64 (pw - 1))).setCell ⟨B, 0, none⟩ (.int .u64 ((dg * 10 : Nat) : Int)) = w2 at *
  clear hc0 hc1 hf0 hf1 hcast
  go_loopg [] 10 (fun g wr => ∃ k : Nat, k + g = 10 ∧ k * U ≤ 10 * R ∧ St A w0 wr B (dg * 10 + k) (pw - 1) (10 * R - k * U) (10 * L) (10 * H) U br bl bh bu ends)
  case atStart => exact ⟨0, by omega, by omega, by simpa using H1.out⟩
  case round =>
    obtain ⟨k, hkg, hkU, hst⟩ := hrel
    have hc := hst.sv.cells
    have hc2 := hc.2.2.1
    have hc5 := hc.2.2.2.2.2.1
    have HST := hid hst
    have HKU := hid hkU
    have hSm1 := hid (Sm.mono HSRT.out (show 10 * R - k * U ≤ 10 * R by omega))
    clear hc hst
    have HK9 : Hid (U ≤ 10 * R - k * U → k ≤ 8) := by
      intro h8
      have : (k + 1) * U ≤ 10 * R := by rw [Nat.add_mul]; omega
      have h9 : (k + 1) * U < 10 * U := by omega
      have := Nat.lt_of_mul_lt_mul_right h9
      omega
    clear hkU
    go_wp2_with fail
    obtain ⟨r, hr1, hr2, hr3, hr4, hcq⟩ := compare_q br _ bu _ hSm1.out HSU.out HST.out.sx (sx_u HST.out.sx)
    have HCQ := hid hcq
    clear hcq
    go_quiet ((go_at_call 89; exact Calls.quiet_of (HCQ.out _)))
    by_cases hge : U ≤ 10 * R - k * U
    · have hr : 0 ≤ r := by omega
      have hk8 := HK9.out hge
      have hst2 := HST.out.drewN nq
      have hc2' := hst2.sv.cells.2.2.1
      have hc5' := hst2.sv.cells.2.2.2.2.2.1
      have HST2 := hid hst2
      clear hr1 hr2 HCQ hst2
      go_wp2_with fail
      go_region_with (go_at_call 87; refine (subtract_sa br _ bu _ hSm1.out HSU.out hge (Sx.drewN (sx_ru HST.out.sx) _)).mono ?_; rintro e w5 ⟨rfl, hx5, hk5⟩)
      all_goals
        have hst5 : St A w0 w5 B (dg * 10 + k) (pw - 1) (10 * R - k * U - U) (10 * L) (10 * H) U br bl bh bu ends := ⟨Seven.keep (w := wr) HST.out.sv hk5 HST.out.inA, sx_ru' hx5, HST.out.inA, HST.out.new⟩
        have hc0 := hst5.sv.cells.1
        have hf0 := hst5.sv.cells.2.2.2.2.2.2.2 0
        have H5 := hid (hst5.set0 (dg * 10 + k + 1))
        have hU2 : Hid ((k + 1) * U ≤ 10 * R) := by show _ ≤ _; rw [Nat.add_mul]; have := HKU.out; omega
        have hsub : Hid (10 * R - k * U - U = 10 * R - (k + 1) * U) := by show _ = _; rw [Nat.add_mul]; omega
        have hkb : k ≤ 8 := hk8
        clear hst5 hx5 hk5 HST2 HST HKU HK9 hge hc2 hc5 hc2' hc5'
        go_wp2
        go_roundg (gk - 1)
        case measure => omega
        case rel =>
          refine ⟨k + 1, by omega, hU2.out, ?_⟩
          rw [← hsub.out]
          have := H5.out
          rw [show ((dg * 10 + k + 1 : Nat) : Int) = ((dg * 10 + k : Nat) : Int) + 1 from by omega] at this
          exact this
    · have hr : r < 0 := by omega
      have hst2 := HST.out.drewN nq
      have hfin := div_step HKU.out (by omega : 10 * R - k * U < U)
      have HST2 := hid hst2
      have HFin := hid hfin
      clear hr1 hr2 HCQ hst2 hfin hge
      go_wp2
      go_end0
      exact ⟨rfl, by rw [← HFin.out.1, ← HFin.out.2]; exact HST2.out⟩
end Go.Proofs.Ytmkkibaacclhnaa
