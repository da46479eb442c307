/-
  A step of the walk of the numbers, the part named Pick. No theorem of the row.
-/
import Derived.Test.YtmkkibaacclhnaaCmp
namespace Go.Proofs.Ytmkkibaacclhnaa
open Go.RowKit

/-- is the lower one the one to take, if both are read as the number -/
def lowF (dg R U : Nat) : Bool := decide (R < U - R) || (decide (R = U - R) && decide (dg % 2 = 0))
/-- what 'pick' answers -/
def pickF (dg R L H U : Nat) (ends : Bool) : Nat × Bool :=
  match wi R L ends, wi (U - R) H ends with
  | true, true => if lowF dg R U then (dg, true) else (dg + 1, true)
  | true, false => (dg, true)
  | false, true => (dg + 1, true)
  | false, false => (0, false)

theorem clone_sa {S A : Nat → Prop} {w0 w : World} {l : List (Nat × Nat)} (b N : Nat) (hS : Sm N) (h0 : N ≠ 0) (h : Sx S A w0 w ((b, N) :: l)) :
    Calls Try.prog 86 #[.pointer (some ⟨b, 0, none⟩)] w fun e w' => ∃ b', e = .returned (.pointer (some ⟨b', 0, none⟩)) ∧ Sx S A w0 w' ((b', N) :: (b, N) :: l) ∧ KeepA A w w' := by
  obtain ⟨g, hg⟩ := h.head
  refine (clone_nt b g N w hS h0 hg).mono ?_
  rintro e w' ⟨b', g', rfl, r1, r2, r3, r4⟩
  exact ⟨b', rfl, h.more r1 r2 r3 r4, fun i hi => r2.block i (h.inA i hi) id⟩

theorem within_q {S A : Nat → Prop} {w0 w : World} {l l2 : List (Nat × Nat)} (B bg br G R : Nat) (ends : Bool) (hS : Sm G) (hS2 : Sm R) (h : Sx S A w0 w ((bg, G) :: l)) (h2 : Sx S A w0 w ((br, R) :: l2)) (hc : w.cell? ⟨B, 6, none⟩ = some (.bool ends)) (n : Nat) :
    Calls Try.prog 88 #[.pointer (some ⟨B, 0, none⟩), .pointer (some ⟨bg, 0, none⟩), .pointer (some ⟨br, 0, none⟩)] (w.drewN n) fun e w' => e = .returned (.bool (wi G R ends)) ∧ ∃ m, w' = (w.drewN n).drewN m :=
  within_any B bg br G R ends hS hS2 (h.drewN n) (h2.drewN n) hc

set_option maxRecDepth 100000 in
set_option maxHeartbeats 4000000 in
theorem pick_any {A : Nat → Prop} {w0 w : World} {B dg : Nat} {pw : Int} {R L H U br bl bh bu : Nat} {ends : Bool} (hR : R < U) (hs2 : Sm L) (hs3 : Sm H) (hs4 : Sm U) (hdg : dg ≤ 1000000000000000000) (h : St A w0 w B dg pw R L H U br bl bh bu ends) :
    Calls Try.prog 59 #[.pointer (some ⟨B, 0, none⟩)] w fun e w' => e = .returned (.tuple #[.int .u64 ((pickF dg R L H U ends).1 : Nat), .bool (pickF dg R L H U ends).2]) ∧ St A w0 w' B dg pw R L H U br bl bh bu ends := by
  have HSR := hid (Sm.mono hs4 (show R ≤ U by omega))
  have HSK := hid (Sm.mono hs4 (show U - R ≤ U by omega))
  have HSL := hid hs2
  have HSH := hid hs3
  have HSU := hid hs4
  have HH := hid h
  have hc5 := h.sv.cells.2.2.2.2.2.1
  clear hs2 hs3 hs4 h
  go_enter Try.func59, Try.ntmps59
  go_wp2_with fail
  refine (clone_sa bu U HSU.out (by omega) (sx_u HH.out.sx)).mono ?_
  rintro e w1 ⟨bk, rfl, hx1, hk1⟩
  have hsv1 := HH.out.sv.keep hk1 HH.out.inA
  have hc2 := hsv1.cells.2.2.1
  have hp1 : [(bk, U), (bu, U), (br, R), (bl, L), (bh, H)].Perm [(bk, U), (br, R), (bu, U), (bl, L), (bh, H)] := (List.Perm.swap _ _ _).cons _
  have HX1 := hid (hx1.perm hp1)
  have HSV1 := hid hsv1
  clear hx1 hk1 hsv1 hp1 hc5
  go_wp2_with fail
  refine (subtract_sa bk U br R HSU.out HSR.out (by omega) HX1.out).mono ?_
  rintro e w2 ⟨rfl, hx2, hk2⟩
  have hsv2 := Seven.keep HSV1.out hk2 HH.out.inA
  have hcs := hsv2.cells
  have hc0 := hcs.1
  have hc2' := hcs.2.2.1
  have hc3 := hcs.2.2.2.1
  have hc4 := hcs.2.2.2.2.1
  have hc6 := hcs.2.2.2.2.2.2.1
  have hxr : Sx (fun _ => False) A w0 w2 [(br, R), (bu, U), (bl, L), (bh, H)] := hx2.tail
  have hst2 : St A w0 w2 B dg pw R L H U br bl bh bu ends := ⟨hsv2, sx_ru' hxr, HH.out.inA, HH.out.new⟩
  have hW1 := within_q B br bl R L ends HSR.out HSL.out hxr (sx_l hst2.sx) hc6
  have hW2 := within_q B bk bh (U - R) H ends HSK.out HSH.out hx2 (sx_h hst2.sx) hc6
  have W1 := hid hW1
  have W2 := hid hW2
  have HST := hid hst2
  have HX2 := hid hx2
  clear hx2 hk2 hsv2 hcs hxr hst2 hW1 hW2 HSV1 HX1 HH hc2 hc6
  go_wp2_with fail
  go_quiet ((go_at_call 88; first | (with_reducible exact Calls.quiet_of (W1.out _)) | (with_reducible exact Calls.quiet_of (W2.out _))))
  have hpf : pickF dg R L H U ends = match wi R L ends, wi (U - R) H ends with
    | true, true => if lowF dg R U then (dg, true) else (dg + 1, true)
    | true, false => (dg, true)
    | false, true => (dg + 1, true)
    | false, false => (0, false) := rfl
  have HPF := hid hpf
  clear hpf
  generalize wi R L ends = lo at *
  generalize wi (U - R) H ends = up at *
  clear W1 W2
  cases lo
  · cases up
    · have HP2 : Hid (pickF dg R L H U ends = (0, false)) := HPF.out
      go_wp2
      go_ret2
      exact ⟨by rw [HP2.out]; rfl, HST.out.drewN _⟩
    · have HP2 : Hid (pickF dg R L H U ends = (dg + 1, true)) := HPF.out
      go_wp2
      go_ret2
      exact ⟨by rw [HP2.out]; rfl, HST.out.drewN _⟩
  · cases up
    · have HP2 : Hid (pickF dg R L H U ends = (dg, true)) := HPF.out
      go_wp2
      go_ret2
      exact ⟨by rw [HP2.out]; rfl, HST.out.drewN _⟩
    · have HP2 : Hid (pickF dg R L H U ends = if lowF dg R U then (dg, true) else (dg + 1, true)) := HPF.out
      have hxq := Sx.drewN HX2.out nq
      have hxs := Sx.drewN HST.out.sx nq
      have HXQ := hid hxq
      have HXS := hid hxs
      clear HPF hxq hxs
      go_wp2_with fail
      refine (compare_sx br R bk (U - R) HSR.out HSK.out HXS.out HXQ.out).mono ?_
      rintro e w4 ⟨r, rfl, hr1, hr2, hr3, hr4, m, rfl⟩
      rcases Nat.lt_trichotomy R (U - R) with hc | hc | hc
      · have hr : r < 0 := by omega
        have HP3 : Hid (pickF dg R L H U ends = (dg, true)) := by rw [Hid, HP2.out, show lowF dg R U = true from by simp [lowF, hc]]; rfl
        clear hr1 hr2 hc HP2
        go_wp2
        go_ret2
        exact ⟨by rw [HP3.out]; rfl, HST.out.drewN _⟩
      · have hr : r = 0 := by omega
        subst hr
        by_cases hpar : dg % 2 = 0
        · have HP3 : Hid (pickF dg R L H U ends = (dg, true)) := by rw [Hid, HP2.out, show lowF dg R U = true from by unfold lowF; rw [decide_eq_true hc, decide_eq_true hpar]; simp]; rfl
          have hpb : ((dg : Int) % 2 == 0) = true := beq_iff_eq.2 (by omega)
          have HPA := hid hpar
          have HC := hid hc
          clear hr1 hr2 hc HP2 hpar
          go_wp2
          go_ret2
          exact ⟨by rw [HP3.out]; rfl, HST.out.drewN _⟩
        · have HP3 : Hid (pickF dg R L H U ends = (dg + 1, true)) := by rw [Hid, HP2.out, show lowF dg R U = false from by unfold lowF; rw [decide_eq_false hpar, decide_eq_false (by omega)]; simp]; rfl
          have hpb : ((dg : Int) % 2 == 0) = false := beq_eq_false_iff_ne.2 (by omega)
          have HC := hid hc
          clear hr1 hr2 hc HP2 hpar
          go_wp2
          go_ret2
          exact ⟨by rw [HP3.out]; rfl, HST.out.drewN _⟩
      · have hr : 0 < r := by omega
        have hrz : (r == 0) = false := beq_eq_false_iff_ne.2 (by omega)
        have hrd : decide (r < 0) = false := by rw [decide_eq_false_iff_not]; omega
        have HP3 : Hid (pickF dg R L H U ends = (dg + 1, true)) := by rw [Hid, HP2.out, show lowF dg R U = false from by unfold lowF; rw [decide_eq_false (by omega), decide_eq_false (by omega)]; simp]; rfl
        clear hr1 hr2 hc HP2
        go_wp2
        go_ret2
        exact ⟨by rw [HP3.out]; rfl, HST.out.drewN _⟩
end Go.Proofs.Ytmkkibaacclhnaa
