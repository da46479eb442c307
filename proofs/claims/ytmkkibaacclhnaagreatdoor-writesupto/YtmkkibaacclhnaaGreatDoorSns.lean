/-
  A step of the walk, the part named Sns. No theorem of the row.
-/
import Derived.Test.YtmkkibaacclhnaaGreatDoorSrb
import Derived.Deep.LoopGhost
namespace Go.Proofs.YtmkkibaacclhnaaGreatDoor
open Go.RowKit

theorem p2_p10 (k : Nat) : p2 (3 * k) ≤ p10 k := by
  unfold p2 p10
  rw [Nat.pow_mul]
  exact Nat.pow_le_pow_left (by omega) k
theorem lt5 {x : Nat} (h : x ≤ 10 * p2 3000) : x < p2 5000 * 10 := by
  have e : p2 5000 = p2 2000 * p2 3000 := by rw [← p2_add]
  have h9 : 2 ≤ p2 2000 := Nat.le_trans (by decide : 2 ≤ p2 1) (p2_le (by omega))
  have h1 := Nat.mul_le_mul_right (p2 3000) h9
  have h2 := p2_pos 3000
  omega
/-- what 'setPower' leaves, k times raised -/
def setR (p : Int) (X : Nat) : Nat := X * p10 (-p).toNat
def setU (p : Int) (k U : Nat) : Nat := U * p10 p.toNat * p10 k
theorem St.alloc {A : Nat → Prop} {w0 w : World} {B dg : Nat} {pw : Int} {R L H U br bl bh bu : Nat} {ends : Bool} (h : St A w0 w B dg pw R L H U br bl bh bu ends) (o : Obj) : St (fun i => A i ∨ i = w.heap.size) w0 (w.alloc o) B dg pw R L H U br bl bh bu ends :=
  ⟨(Below.heap_alloc w o B (lt_of_block h.sv)).trans h.sv, h.sx.alloc o, .inl h.inA, h.new⟩
theorem St.weaken {A A' : Nat → Prop} {w0 w : World} {B dg : Nat} {pw : Int} {R L H U br bl bh bu : Nat} {ends : Bool} (h : St A w0 w B dg pw R L H U br bl bh bu ends) (hA : ∀ i, A' i → A i) (hB : A' B) : St A' w0 w B dg pw R L H U br bl bh bu ends :=
  ⟨h.sv, h.sx.weaken hA, hB, h.new⟩
theorem tdiv_bd (a : Int) (h1 : -33200000 ≤ a) (h2 : a ≤ 33200000) : -332 ≤ a.tdiv 100000 ∧ a.tdiv 100000 ≤ 332 := by
  by_cases h : 0 ≤ a
  · rw [Int.tdiv_eq_ediv_of_nonneg h]; omega
  · have e : a = -(-a) := by omega
    rw [e, Int.neg_tdiv, Int.tdiv_eq_ediv_of_nonneg (by omega)]; omega
set_option maxRecDepth 100000 in
set_option maxHeartbeats 4000000 in
theorem setPower_any {w0 w : World} {B dg : Nat} {pw : Int} {R L H U br bl bh bu : Nat} {ends : Bool} (len : Int) (hl1 : -1100 ≤ len) (hl2 : len ≤ 1100) (hU : 0 < U) (hR : R < p2 1400) (hL : L < p2 1400) (hH : H < p2 1400) (hUs : U < p2 1400) (h : St (fun i => i = B) w0 w B dg pw R L H U br bl bh bu ends) (p : Int) (hp : p = (len * 30103).tdiv 100000) :
    Calls Tryz.prog 115 #[.pointer (some ⟨B, 0, none⟩), .int .i64 len] w fun e w' => e = .returned (.tuple #[]) ∧ ∃ k : Nat, k ≤ 2000 ∧ setR p R < setU p k U ∧ setU p k U < p2 5000 * 10 ∧ St (fun i => i = B) w0 w' B dg (p + k) (setR p R) (setR p L) (setR p H) (setU p k U) br bl bh bu ends := by
  have hpb := tdiv_bd (len * 30103) (by omega) (by omega)
  rw [← hp] at hpb
  obtain ⟨hp1, hp2⟩ := hpb
  have hSm : ∀ X, X < p2 1400 → ∀ q : Nat, q ≤ 332 → X * p10 q < p2 3000 := by
    intro X hX q hq
    have a : X * p10 q < p2 1400 * p10 q := Nat.mul_lt_mul_of_pos_right hX (p10_pos _)
    have b : p2 1400 * p10 q ≤ p2 1400 * p2 (4 * q) := Nat.mul_le_mul_left _ (p10_p2 q)
    rw [← p2_add] at b
    exact Nat.lt_of_lt_of_le a (Nat.le_trans b (p2_le (by omega)))
  have hst1 : St (fun i => i = B ∨ i = w.heap.size) w0 ((w.setCell ⟨B, 1, none⟩ (.int .i64 p)).alloc (.cells #[.pointer (some ⟨B, 0, none⟩)] 137)) B dg p R L H U br bl bh bu ends := by
    have := (h.set1 p).alloc (.cells #[.pointer (some ⟨B, 0, none⟩)] 137)
    simpa [World.setCell] using this
  have hbox : ((w.setCell ⟨B, 1, none⟩ (.int .i64 p)).alloc (.cells #[.pointer (some ⟨B, 0, none⟩)] 137)).heap[w.heap.size]? = some (.cells #[.pointer (some ⟨B, 0, none⟩)] 137 (0, 0)) := by
    have := heap_alloc_new (w.setCell ⟨B, 1, none⟩ (.int .i64 p)) (.cells #[.pointer (some ⟨B, 0, none⟩)] 137)
    simpa [World.setCell] using this
  have HP := hid hp
  have HSm := hid hSm
  have HR := hid hR
  have HL := hid hL
  have HH := hid hH
  have HU := hid hUs
  have HS1 := hid hst1
  have hBl := lt_of_block h.sv
  have hc1 := h.sv.cells.2.1
  have hf1 := h.sv.cells.2.2.2.2.2.2.2 1
  have HBox := hid hbox
  clear hSm hst1 h hR hL hH hUs hp hbox
  go_enter Tryz.func115, Tryz.ntmps115
  have hbxB : w.heap.size ≠ B := by omega
  by_cases hpn : 0 ≤ p
  · have htd : decide ((0 : Int) ≤ (len * 30103).tdiv 100000) = true := by rw [← HP.out]; simpa using hpn
    go_wp2_with fail
    rw [← HP.out]
    generalize (w.setCell ⟨B, 1, none⟩ (.int .i64 p)).alloc (.cells #[.pointer (some ⟨B, 0, none⟩)] 137) = w1 at *
    generalize w.heap.size = bx at *
    clear hc1 hf1 htd HP
    obtain ⟨n, rfl⟩ := Int.eq_ofNat_of_zero_le hpn
    have hcb := cell_of_one HBox.out
    have hc1 := HS1.out.sv.cells.2.1
    have hc5 := HS1.out.sv.cells.2.2.2.2.2.1
    have hU3 := HSm.out U HU.out n (by omega)
    have HSU : Hid (Sm (U * p10 n)) := Sm_p2 hU3 (by omega)
    have HU3 := hid hU3
    have HR3 : Hid (R < p2 3000) := Nat.lt_of_lt_of_le HR.out (p2_le (by omega))
    have HU0 : Hid (0 < U * p10 n) := Nat.mul_pos hU (p10_pos n)
    clear hU3
    go_region_with (go_at_call 161; refine (timesPowerOfTen_sa bu U n HSU.out (by omega) (Sx.drewN (sx_u HS1.out.sx) 1)).mono ?_; rintro e w2 ⟨rfl, hx2, hk2⟩)
    all_goals
      have hsv2 := Seven.keep (w := w1.drewN 1) HS1.out.sv hk2 (.inl rfl)
      have HS2 := hid (show St (fun i => i = B ∨ i = bx) w0 w2 B dg n R L H (U * p10 n) br bl bh bu ends from ⟨hsv2, sx_u' hx2, .inl rfl, HS1.out.new⟩)
      have HBox2 := hid ((hk2 bx (.inr rfl)).trans HBox.out)
      have HRe : Hid (setR (n : Int) R = R) := by rw [Hid, setR, show (-(n : Int)).toNat = 0 from by omega, show p10 0 = 1 from rfl, Nat.mul_one]
      have HLe : Hid (setR (n : Int) L = L) := by rw [Hid, setR, show (-(n : Int)).toNat = 0 from by omega, show p10 0 = 1 from rfl, Nat.mul_one]
      have HHe : Hid (setR (n : Int) H = H) := by rw [Hid, setR, show (-(n : Int)).toNat = 0 from by omega, show p10 0 = 1 from rfl, Nat.mul_one]
      have e4 : Hid (∀ k, U * p10 n * p10 k = setU (n : Int) k U) := by intro k; rw [setU]; rfl
      clear hsv2 hx2 hk2 HSm HS1 HBox HR HL HH HU HSU hcb hc1 hc5 hU
      generalize U * p10 n = U' at *
      have hSmR : Hid (Sm R) := Sm_p2 HR3.out (by omega)
      go_wp2_with fail
      go_loopg [] 1000 (fun g wr => ∃ k : Nat, k + g = 1000 ∧ Hid (U' * p10 k ≤ 10 * p2 3000) ∧ Hid (R < U' * p10 k * p10 g) ∧ wr.heap[bx]? = some (.cells #[.pointer (some ⟨B, 0, none⟩)] 137 (0, 0)) ∧ St (fun i => i = B ∨ i = bx) w0 wr B dg ((n : Int) + k) R L H (U' * p10 k) br bl bh bu ends)
      case atStart =>
        refine ⟨0, by omega, ?_, ?_, HBox2.out, ?_⟩
        · show _ ≤ _
          rw [show p10 0 = 1 from rfl, Nat.mul_one]
          have := HU3.out
          omega
        · show _ < _
          rw [show p10 0 = 1 from rfl, Nat.mul_one]
          have a : R < p10 1000 := Nat.lt_of_lt_of_le HR3.out (Nat.le_trans (p2_le (show 3000 ≤ 3 * 1000 by omega)) (p2_p10 1000))
          exact Nat.lt_of_lt_of_le a (Nat.le_mul_of_pos_left _ HU0.out)
        · have := HS2.out
          rw [show p10 0 = 1 from rfl, Nat.mul_one]
          simpa using this
      case round =>
        obtain ⟨k, hkg, hUk, hRk, hbx, hst⟩ := hrel
        have hcb := cell_of_one hbx
        have hc2 := hst.sv.cells.2.2.1
        have hc5 := hst.sv.cells.2.2.2.2.2.1
        have hSmU : Hid (Sm (U' * p10 k)) := Sm_p2 (k := 3004) (Nat.lt_of_le_of_lt hUk.out (by
          have e : p2 3004 = 16 * p2 3000 := by rw [show 3004 = 4 + 3000 from rfl, p2_add, show p2 4 = 16 from rfl]
          have := p2_pos 3000
          omega)) (by omega)
        obtain ⟨r, hr1, hr2, hr3, hr4, hcq⟩ := compare_q br R bu _ hSmR.out hSmU.out hst.sx (sx_u hst.sx)
        have HCQ := hid hcq
        have HST := hid hst
        have HBX := hid hbx
        clear hcq hst hbx
        go_wp2_with fail
        go_quiet ((go_at_call 120; exact Calls.quiet_of (HCQ.out _)))
        clear HCQ
        by_cases hge : U' * p10 k ≤ R
        · have hr : 0 ≤ r := by omega
          have hg1 : Hid (gk ≠ 0) := by
            rintro rfl
            have := hRk.out
            rw [show p10 0 = 1 from rfl, Nat.mul_one] at this
            omega
          have hU2 : Hid (U' * p10 (k + 1) ≤ 10 * p2 3000) := by show _ ≤ _; rw [p10_succ, ← Nat.mul_assoc]; have := HR3.out; omega
          have e10 : Hid (10 * (U' * p10 k) + 0 = U' * p10 (k + 1)) := by show _ = _; rw [p10_succ, Nat.mul_comm (p10 k) 10, Nat.mul_left_comm, Nat.add_zero]
          have hR2 : Hid (R < U' * p10 (k + 1) * p10 (gk - 1)) := by
            show _ < _
            have h3 : p10 gk = p10 (gk - 1) * 10 := by rw [← p10_succ]; congr 1; have := hg1.out; omega
            have h4 := hRk.out
            rw [h3] at h4
            rw [p10_succ, ← Nat.mul_assoc]
            have : U' * p10 k * 10 * p10 (gk - 1) = U' * p10 k * (p10 (gk - 1) * 10) := by rw [Nat.mul_assoc (U' * p10 k), Nat.mul_comm 10]
            omega
          have hst2 := HST.out.drewN nq
          have hbx2 : (wr.drewN nq).heap[bx]? = some (.cells #[.pointer (some ⟨B, 0, none⟩)] 137 (0, 0)) := HBX.out
          have HST2 := hid hst2
          have HBX2 := hid hbx2
          clear hr1 hr2 hge hst2 hbx2
          go_wp2_with fail
          refine (timesPlus_sa bu _ 10 0 hSmU.out (by omega) (by omega) (by omega) (sx_u HST2.out.sx)).mono ?_
          rintro e w5 ⟨rfl, hx5, hk5⟩
          have hsv5 := Seven.keep HST2.out.sv hk5 (.inl rfl)
          have hbx5 := (hk5 bx (.inr rfl)).trans HBX2.out
          rw [e10.out] at hx5
          have hst5 : St (fun i => i = B ∨ i = bx) w0 w5 B dg ((n : Int) + k) R L H (U' * p10 (k + 1)) br bl bh bu ends := ⟨hsv5, sx_u' hx5, .inl rfl, HST2.out.new⟩
          have hcb5 := cell_of_one hbx5
          have hc15 := hst5.sv.cells.2.1
          have hf15 := hst5.sv.cells.2.2.2.2.2.2.2 1
          have H5 := hid (hst5.set1 ((n : Int) + k + 1))
          have HB5 := hid ((Below.heap_setCell w5 ⟨B, 1, none⟩ (.int .i64 ((n : Int) + k + 1)) bx hbxB).trans hbx5)
          clear hx5 hk5 hsv5 hst5 hbx5 HST HBX HST2 HBX2
          go_wp2
          go_roundg (gk - 1)
          case measure => have := hg1.out; omega
          case rel =>
            refine ⟨k + 1, by have := hg1.out; omega, hU2.out, hR2.out, HB5.out, ?_⟩
            rw [show (n : Int) + ((k + 1 : Nat) : Int) = (n : Int) + k + 1 from by omega]
            exact H5.out
        · have hr : r < 0 := by omega
          have HLT := hid (Nat.lt_of_not_le hge)
          have HFI := hid (HST.out.drewN nq)
          clear hr1 hr2 hge
          go_wp2
          go_end0
          refine ⟨rfl, k, by omega, by rw [HRe.out, ← e4.out k]; exact HLT.out, by rw [← e4.out k]; exact lt5 hUk.out, by rw [HRe.out, HLe.out, HHe.out, ← e4.out k]; exact St.weaken HFI.out (fun i hi => .inl hi) rfl⟩
  · have htd : decide ((0 : Int) ≤ (len * 30103).tdiv 100000) = false := by rw [← HP.out]; simpa using hpn
    go_wp2_with fail
    rw [← HP.out]
    generalize (w.setCell ⟨B, 1, none⟩ (.int .i64 p)).alloc (.cells #[.pointer (some ⟨B, 0, none⟩)] 137) = w1 at *
    generalize w.heap.size = bx at *
    clear hc1 hf1 htd HP
    obtain ⟨n, hn⟩ := Int.eq_ofNat_of_zero_le (show 0 ≤ -p by omega)
    have hpn2 : p = -(n : Int) := by omega
    have hq0 := HSm.out R HR.out n (by omega)
    have hq1 := HSm.out L HL.out n (by omega)
    have hq2 := HSm.out H HH.out n (by omega)
    refine (timesAll_tens n bx (by omega) (Sm_p2 hq0 (by omega)) (Sm_p2 hq1 (by omega)) (Sm_p2 hq2 (by omega)) HBox.out (.inr rfl) hpn2 HS1.out).mono ?_
    rintro e w2 ⟨rfl, hst2, hk2⟩
    have HS2 := hid hst2
    have HBox2 := hid ((hk2 bx (.inr rfl)).trans HBox.out)
    have HR3 := hid hq0
    have HU3 : Hid (U < p2 3000) := Nat.lt_of_lt_of_le HU.out (p2_le (by omega))
    have HU0 : Hid (0 < U) := hU
    have e1 : Hid (R * p10 n = setR p R) := by rw [Hid, setR, hn]; rfl
    have e2 : Hid (L * p10 n = setR p L) := by rw [Hid, setR, hn]; rfl
    have e3 : Hid (H * p10 n = setR p H) := by rw [Hid, setR, hn]; rfl
    have e4 : Hid (∀ k, U * p10 k = setU p k U) := by intro k; rw [setU, show p.toNat = 0 from by omega, show p10 0 = 1 from rfl, Nat.mul_one]
    rw [e1.out] at HR3 HS2
    rw [e2.out, e3.out] at HS2
    clear hst2 hk2 hq0 hq1 hq2 HR HL HH HU HSm HS1 HBox e1 e2 e3 hn hpn2 hU
    generalize hRe : setR p R = R' at *
    generalize hLe : setR p L = L' at *
    generalize hHe : setR p H = H' at *
    have HRe := hid hRe
    have HLe := hid hLe
    have HHe := hid hHe
    clear hRe hLe hHe
    have hSmR : Hid (Sm R') := Sm_p2 HR3.out (by omega)
    go_wp2_with fail
    go_loopg [] 1000 (fun g wr => ∃ k : Nat, k + g = 1000 ∧ Hid (U * p10 k ≤ 10 * p2 3000) ∧ Hid (R' < U * p10 k * p10 g) ∧ wr.heap[bx]? = some (.cells #[.pointer (some ⟨B, 0, none⟩)] 137 (0, 0)) ∧ St (fun i => i = B ∨ i = bx) w0 wr B dg (p + k) R' L' H' (U * p10 k) br bl bh bu ends)
    case atStart =>
      refine ⟨0, by omega, ?_, ?_, HBox2.out, ?_⟩
      · show _ ≤ _
        rw [show p10 0 = 1 from rfl, Nat.mul_one]
        have := HU3.out
        omega
      · show _ < _
        rw [show p10 0 = 1 from rfl, Nat.mul_one]
        have a : R' < p10 1000 := Nat.lt_of_lt_of_le HR3.out (Nat.le_trans (p2_le (show 3000 ≤ 3 * 1000 by omega)) (p2_p10 1000))
        exact Nat.lt_of_lt_of_le a (Nat.le_mul_of_pos_left _ HU0.out)
      · have := HS2.out
        rw [show p10 0 = 1 from rfl, Nat.mul_one]
        simpa using this
    case round =>
      obtain ⟨k, hkg, hUk, hRk, hbx, hst⟩ := hrel
      have hcb := cell_of_one hbx
      have hc2 := hst.sv.cells.2.2.1
      have hc5 := hst.sv.cells.2.2.2.2.2.1
      have hSmU : Hid (Sm (U * p10 k)) := Sm_p2 (k := 3004) (Nat.lt_of_le_of_lt hUk.out (by
        have e : p2 3004 = 16 * p2 3000 := by rw [show 3004 = 4 + 3000 from rfl, p2_add, show p2 4 = 16 from rfl]
        have := p2_pos 3000
        omega)) (by omega)
      obtain ⟨r, hr1, hr2, hr3, hr4, hcq⟩ := compare_q br R' bu _ hSmR.out hSmU.out hst.sx (sx_u hst.sx)
      have HCQ := hid hcq
      have HST := hid hst
      have HBX := hid hbx
      clear hcq hst hbx
      go_wp2_with fail
      go_quiet ((go_at_call 120; exact Calls.quiet_of (HCQ.out _)))
      clear HCQ
      by_cases hge : U * p10 k ≤ R'
      · have hr : 0 ≤ r := by omega
        have hg1 : Hid (gk ≠ 0) := by
          rintro rfl
          have := hRk.out
          rw [show p10 0 = 1 from rfl, Nat.mul_one] at this
          omega
        have hU2 : Hid (U * p10 (k + 1) ≤ 10 * p2 3000) := by show _ ≤ _; rw [p10_succ, ← Nat.mul_assoc]; have := HR3.out; omega
        have e10 : Hid (10 * (U * p10 k) + 0 = U * p10 (k + 1)) := by show _ = _; rw [p10_succ, Nat.mul_comm (p10 k) 10, Nat.mul_left_comm, Nat.add_zero]
        have hR2 : Hid (R' < U * p10 (k + 1) * p10 (gk - 1)) := by
          show _ < _
          have h3 : p10 gk = p10 (gk - 1) * 10 := by rw [← p10_succ]; congr 1; have := hg1.out; omega
          have h4 := hRk.out
          rw [h3] at h4
          rw [p10_succ, ← Nat.mul_assoc]
          have : U * p10 k * 10 * p10 (gk - 1) = U * p10 k * (p10 (gk - 1) * 10) := by rw [Nat.mul_assoc (U * p10 k), Nat.mul_comm 10]
          omega
        have hst2 := HST.out.drewN nq
        have hbx2 : (wr.drewN nq).heap[bx]? = some (.cells #[.pointer (some ⟨B, 0, none⟩)] 137 (0, 0)) := HBX.out
        have HST2 := hid hst2
        have HBX2 := hid hbx2
        clear hr1 hr2 hge hst2 hbx2
        go_wp2_with fail
        refine (timesPlus_sa bu _ 10 0 hSmU.out (by omega) (by omega) (by omega) (sx_u HST2.out.sx)).mono ?_
        rintro e w5 ⟨rfl, hx5, hk5⟩
        have hsv5 := Seven.keep HST2.out.sv hk5 (.inl rfl)
        have hbx5 := (hk5 bx (.inr rfl)).trans HBX2.out
        rw [e10.out] at hx5
        have hst5 : St (fun i => i = B ∨ i = bx) w0 w5 B dg (p + k) R' L' H' (U * p10 (k + 1)) br bl bh bu ends := ⟨hsv5, sx_u' hx5, .inl rfl, HST2.out.new⟩
        have hcb5 := cell_of_one hbx5
        have hc15 := hst5.sv.cells.2.1
        have hf15 := hst5.sv.cells.2.2.2.2.2.2.2 1
        have H5 := hid (hst5.set1 (p + k + 1))
        have HB5 := hid ((Below.heap_setCell w5 ⟨B, 1, none⟩ (.int .i64 (p + k + 1)) bx hbxB).trans hbx5)
        clear hx5 hk5 hsv5 hst5 hbx5 HST HBX HST2 HBX2
        go_wp2
        go_roundg (gk - 1)
        case measure => have := hg1.out; omega
        case rel =>
          refine ⟨k + 1, by have := hg1.out; omega, hU2.out, hR2.out, HB5.out, ?_⟩
          rw [show p + ((k + 1 : Nat) : Int) = p + k + 1 from by omega]
          exact H5.out
      · have hr : r < 0 := by omega
        have HLT := hid (Nat.lt_of_not_le hge)
        have HFI := hid (HST.out.drewN nq)
        clear hr1 hr2 hge
        go_wp2
        go_end0
        refine ⟨rfl, k, by omega, by rw [HRe.out, ← e4.out k]; exact HLT.out, by rw [← e4.out k]; exact lt5 hUk.out, by rw [HRe.out, HLe.out, HHe.out, ← e4.out k]; exact St.weaken HFI.out (fun i hi => .inl hi) rfl⟩
end Go.Proofs.YtmkkibaacclhnaaGreatDoor

namespace Go.Proofs.YtmkkibaacclhnaaGreatDoor
open Go.RowKit

/-- of bits that are a number, not 0, without a sign: the mantissa, and the power of two counted from 2^-1074 -/
def manE (n : Nat) : Nat × Nat := if n / 4503599627370496 = 0 then (n, 0) else (4503599627370496 + n % 4503599627370496, n / 4503599627370496 - 1)
/-- the room below, in quarters -/
def lowQ (n : Nat) : Nat := if (manE n).1 = 4503599627370496 ∧ 0 < (manE n).2 then 1 else 2
/-- the factors ahead of setPower -/
def upF (E : Nat) : Nat := p2 (E - 1074)
def dnF (E : Nat) : Nat := p2 (1074 - E)
theorem newNatural_sa {S A : Nat → Prop} {w0 w : World} {l : List (Nat × Nat)} (n : Nat) (hn : n < 18446744073709551616) (h : Sx S A w0 w l) :
    Calls Tryz.prog 111 #[.int .u64 n] w fun e w' => ∃ b, e = .returned (.pointer (some ⟨b, 0, none⟩)) ∧ Sx S A w0 w' ((b, n) :: l) ∧ KeepA A w w' := by
  refine (newNatural_sx n hn h).mono ?_
  rintro e w' ⟨b, rfl, hx, hb, hF⟩
  exact ⟨b, rfl, hx, fun i hi => hF.block i (h.inA i hi) id⟩
end Go.Proofs.YtmkkibaacclhnaaGreatDoor
