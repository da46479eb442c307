/-
  A step of the walk of the numbers, the part named SrchB. No theorem of the row.
-/
import Derived.Test.YtmkkibaacclhnaaSrch
import Derived.Deep.QuietTactic
import Derived.BigQuiet
import Derived.Deep.RegionWith
import Derived.Deep.DeepCutAuto
namespace Go.Proofs.Ytmkkibaacclhnaa
open Go.RowKit

set_option maxRecDepth 100000 in
set_option maxHeartbeats 2000000 in
theorem timesAll_ten {A : Nat → Prop} {w0 w : World} {B dg : Nat} {pw : Int} {R L H U br bl bh bu : Nat} {ends : Bool} (hs1 : Sm R) (hs2 : Sm L) (hs3 : Sm H) (h : St A w0 w B dg pw R L H U br bl bh bu ends) :
    Calls Try.prog 81 #[.pointer (some ⟨B, 0, none⟩), .func (.func 90) #[] #[]] w fun e w' => e = .returned (.tuple #[]) ∧ St A w0 w' B dg pw (10 * R) (10 * L) (10 * H) U br bl bh bu ends ∧ KeepA A w w' := by
  have HH := hid h
  have hsv := h.sv.cells
  have hc2 := hsv.2.2.1
  clear h hsv
  have HS1 := hid hs1
  have HS2 := hid hs2
  have HS3 := hid hs3
  clear hs1 hs2 hs3
  go_enter Try.func81, Try.ntmps81
  go_wp2_with fail
  refine (ten_any br R HS1.out HH.out.sx).mono ?_
  rintro e w1 ⟨rfl, hx1, hk1⟩
  have HX1 := hid (sx_l hx1)
  have hsv1 := (HH.out.sv.keep hk1 HH.out.inA)
  have hc3 := hsv1.cells.2.2.2.1
  have HSV1 := hid hsv1
  have HK1 := hid hk1
  clear hx1 hsv1 hk1 hc2
  go_wp2_with fail
  refine (ten_any bl L HS2.out HX1.out).mono ?_
  rintro e w2 ⟨rfl, hx2, hk2⟩
  have HX2 := hid (sx_h (sx_l hx2))
  have hsv2 := (Seven.keep HSV1.out hk2 HH.out.inA)
  have hc4 := hsv2.cells.2.2.2.2.1
  have HSV2 := hid hsv2
  have HK2 := hid (HK1.out.trans hk2)
  clear hx2 hsv2 hk2 hc3
  go_wp2_with fail
  refine (ten_any bh H HS3.out HX2.out).mono ?_
  rintro e w3 ⟨rfl, hx3, hk3⟩
  have HX3 := hid (sx_h' hx3)
  have HSV3 := hid (Seven.keep HSV2.out hk3 HH.out.inA)
  have HK3 := hid (HK2.out.trans hk3)
  clear hx3 hk3 hc4
  go_wp2
  go_end0
  exact ⟨rfl, ⟨HSV3.out, HX3.out, HH.out.inA, HH.out.new⟩, HK3.out⟩

set_option maxRecDepth 100000 in
set_option maxHeartbeats 2000000 in
theorem timesAll_shift {A : Nat → Prop} {w0 w : World} {B dg : Nat} {pw : Int} {R L H U br bl bh bu : Nat} {ends : Bool} (k bc : Nat) (hk : k ≤ 30000) (hs1 : Sm (p2 k * R)) (hs2 : Sm (p2 k * L)) (hs3 : Sm (p2 k * H)) (hbc : w.heap[bc]? = some (.cells #[.int .i64 k] 3 (0, 0))) (hA : A bc) (h : St A w0 w B dg pw R L H U br bl bh bu ends) :
    Calls Try.prog 81 #[.pointer (some ⟨B, 0, none⟩), .func (.func 82) #[] #[.pointer (some ⟨bc, 0, none⟩)]] w fun e w' => e = .returned (.tuple #[]) ∧ St A w0 w' B dg pw (p2 k * R) (p2 k * L) (p2 k * H) U br bl bh bu ends ∧ KeepA A w w' := by
  have HH := hid h
  have hsv := h.sv.cells
  have hc2 := hsv.2.2.1
  clear h hsv
  have HS1 := hid hs1
  have HS2 := hid hs2
  have HS3 := hid hs3
  clear hs1 hs2 hs3
  have HB1 := hid hbc
  clear hbc
  go_enter Try.func81, Try.ntmps81
  go_wp2_with fail
  refine (shiftBy_any br R k bc hk HS1.out HH.out.sx (cell_of_one HB1.out)).mono ?_
  rintro e w1 ⟨rfl, hx1, hk1⟩
  have HX1 := hid (sx_l hx1)
  have hsv1 := (HH.out.sv.keep hk1 HH.out.inA)
  have hc3 := hsv1.cells.2.2.2.1
  have HSV1 := hid hsv1
  have HK1 := hid hk1
  have HB2 := hid ((hk1 bc hA).trans HB1.out)
  clear hx1 hsv1 hk1 hc2
  go_wp2_with fail
  refine (shiftBy_any bl L k bc hk HS2.out HX1.out (cell_of_one HB2.out)).mono ?_
  rintro e w2 ⟨rfl, hx2, hk2⟩
  have HX2 := hid (sx_h (sx_l hx2))
  have hsv2 := (Seven.keep HSV1.out hk2 HH.out.inA)
  have hc4 := hsv2.cells.2.2.2.2.1
  have HSV2 := hid hsv2
  have HK2 := hid (HK1.out.trans hk2)
  have HB3 := hid ((hk2 bc hA).trans HB2.out)
  clear hx2 hsv2 hk2 hc3
  go_wp2_with fail
  refine (shiftBy_any bh H k bc hk HS3.out HX2.out (cell_of_one HB3.out)).mono ?_
  rintro e w3 ⟨rfl, hx3, hk3⟩
  have HX3 := hid (sx_h' hx3)
  have HSV3 := hid (Seven.keep HSV2.out hk3 HH.out.inA)
  have HK3 := hid (HK2.out.trans hk3)
  clear hx3 hk3 hc4
  go_wp2
  go_end0
  exact ⟨rfl, ⟨HSV3.out, HX3.out, HH.out.inA, HH.out.new⟩, HK3.out⟩

set_option maxRecDepth 100000 in
set_option maxHeartbeats 2000000 in
theorem timesAll_tens {A : Nat → Prop} {w0 w : World} {B dg : Nat} {pw : Int} {R L H U br bl bh bu : Nat} {ends : Bool} (k bc : Nat) (hk : k ≤ 30000) (hs1 : Sm (R * p10 k)) (hs2 : Sm (L * p10 k)) (hs3 : Sm (H * p10 k)) (hbc : w.heap[bc]? = some (.cells #[.pointer (some ⟨B, 0, none⟩)] 96 (0, 0))) (hA : A bc) (hpw : pw = -(k : Int)) (h : St A w0 w B dg pw R L H U br bl bh bu ends) :
    Calls Try.prog 81 #[.pointer (some ⟨B, 0, none⟩), .func (.func 111) #[] #[.pointer (some ⟨bc, 0, none⟩)]] w fun e w' => e = .returned (.tuple #[]) ∧ St A w0 w' B dg pw (R * p10 k) (L * p10 k) (H * p10 k) U br bl bh bu ends ∧ KeepA A w w' := by
  have HH := hid h
  have hsv := h.sv.cells
  have hc2 := hsv.2.2.1
  clear h hsv
  have HS1 := hid hs1
  have HS2 := hid hs2
  have HS3 := hid hs3
  clear hs1 hs2 hs3
  subst hpw
  have HB1 := hid hbc
  have HQ1 := hid HH.out.sv.cells.2.1
  clear hbc
  go_enter Try.func81, Try.ntmps81
  go_wp2_with fail
  refine (tensBy_any br R k bc B hk HS1.out HH.out.sx (cell_of_one HB1.out) HQ1.out).mono ?_
  rintro e w1 ⟨rfl, hx1, hk1⟩
  have HX1 := hid (sx_l hx1)
  have hsv1 := (HH.out.sv.keep hk1 HH.out.inA)
  have hc3 := hsv1.cells.2.2.2.1
  have HSV1 := hid hsv1
  have HK1 := hid hk1
  have HB2 := hid ((hk1 bc hA).trans HB1.out)
  have HQ2 := hid hsv1.cells.2.1
  clear hx1 hsv1 hk1 hc2
  go_wp2_with fail
  refine (tensBy_any bl L k bc B hk HS2.out HX1.out (cell_of_one HB2.out) HQ2.out).mono ?_
  rintro e w2 ⟨rfl, hx2, hk2⟩
  have HX2 := hid (sx_h (sx_l hx2))
  have hsv2 := (Seven.keep HSV1.out hk2 HH.out.inA)
  have hc4 := hsv2.cells.2.2.2.2.1
  have HSV2 := hid hsv2
  have HK2 := hid (HK1.out.trans hk2)
  have HB3 := hid ((hk2 bc hA).trans HB2.out)
  have HQ3 := hid hsv2.cells.2.1
  clear hx2 hsv2 hk2 hc3
  go_wp2_with fail
  refine (tensBy_any bh H k bc B hk HS3.out HX2.out (cell_of_one HB3.out) HQ3.out).mono ?_
  rintro e w3 ⟨rfl, hx3, hk3⟩
  have HX3 := hid (sx_h' hx3)
  have HSV3 := hid (Seven.keep HSV2.out hk3 HH.out.inA)
  have HK3 := hid (HK2.out.trans hk3)
  clear hx3 hk3 hc4
  go_wp2
  go_end0
  exact ⟨rfl, ⟨HSV3.out, HX3.out, HH.out.inA, HH.out.new⟩, HK3.out⟩

end Go.Proofs.Ytmkkibaacclhnaa
