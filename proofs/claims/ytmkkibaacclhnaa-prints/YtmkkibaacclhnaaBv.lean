/-
  A step of the walk of the numbers, the part named Bv: what the document's answer prints of 0 and of what is no number. No theorem of the row.
-/
import Derived.Test.YtmkkibaacclhnaaBu
namespace Go.Proofs.Ytmkkibaacclhnaa
open Go.RowKit

set_option maxRecDepth 100000 in
set_option maxHeartbeats 2000000 in
theorem rprint_argp (BB : Int) (w : World) (hneg : decide ((9223372036854775808 : Int) ≤ BB) = false) (hfin : decide ((9218868437227405312 : Int) ≤ BB) = true) :
    Calls Try.prog 14 #[.int .u64 BB] w fun e w' => e = .returned (.tuple #[.string (ofL []), .int .i64 1]) ∧ w' = w := by
  go_enter Try.func14, Try.ntmps14
  go_wp2
  go_ret2
  exact ⟨rfl, rfl⟩
set_option maxRecDepth 100000 in
set_option maxHeartbeats 2000000 in
theorem rprint_argn (BB MM : Int) (w : World) (hneg : decide ((9223372036854775808 : Int) ≤ BB) = true) (hsub : IntKind.u64.wrap (BB - 9223372036854775808) = MM) (hfin : decide ((9218868437227405312 : Int) ≤ MM) = true) :
    Calls Try.prog 14 #[.int .u64 BB] w fun e w' => e = .returned (.tuple #[.string (ofL []), .int .i64 1]) ∧ w' = w := by
  go_enter Try.func14, Try.ntmps14
  go_wp2
  go_ret2
  exact ⟨rfl, rfl⟩
set_option maxRecDepth 100000 in
set_option maxHeartbeats 2000000 in
theorem rprint_zerop (w : World) : Calls Try.prog 14 #[.int .u64 0] w fun e w' => e = .returned (.tuple #[.string (ofL [48]), .int .i64 0]) ∧ w' = w := by
  go_enter Try.func14, Try.ntmps14
  go_wp2
  go_ret2
  exact ⟨rfl, rfl⟩
set_option maxRecDepth 100000 in
set_option maxHeartbeats 2000000 in
theorem rprint_zeron (w : World) : Calls Try.prog 14 #[.int .u64 9223372036854775808] w fun e w' => e = .returned (.tuple #[.string (ofL [45, 48]), .int .i64 0]) ∧ w' = w := by
  go_enter Try.func14, Try.ntmps14
  go_wp2
  go_ret2
  exact ⟨rfl, rfl⟩
end Go.Proofs.Ytmkkibaacclhnaa
