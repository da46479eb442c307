/-
  A step of the walk of the numbers, the part named Keep. No theorem of the row.
-/
import Derived.Test.YtppjiegfcfaahaaKnown
namespace Go.Proofs.Ytppjiegfcfaahaa
open Go.RowKit

set_option maxRecDepth 100000 in
set_option maxHeartbeats 2000000 in
theorem same_true (s : ByteArray) (b : Nat) (w : World) (hp : Calls Try.prog 10 #[.string s] w fun e w' => e = .returned (.tuple #[.int .u64 b, .int .i64 0]) ∧ Fr (fun _ => False) w w') :
    Calls Try.prog 17 #[.string s, .int .u64 b] w fun e w' => e = .returned (.bool true) ∧ Fr (fun _ => False) w w' := by
  go_enter Try.func17, Try.ntmps17
  go_wp2_with fail
  refine hp.mono ?_
  rintro e w1 ⟨rfl, hF⟩
  go_wp2
  go_ret
  exact ⟨rfl, hF⟩

set_option maxRecDepth 100000 in
set_option maxHeartbeats 2000000 in
theorem pick_neg (c : Int) (w : World) (h1 : -9223372036854775808 ≤ c) (h2 : c < 0) :
    Calls Try.prog 22 #[.int .i64 c, .int .i64 9007199254740992] w fun e w' => e = .returned (.int .i64 (((-(c + 1)) % 9007199254740992 : Int))) ∧ w' = w := by
  have e : Int.tmod (-(c + 1)) 9007199254740992 = (-(c + 1)) % 9007199254740992 := Int.tmod_eq_emod_of_nonneg (by omega)
  go_enter Try.func22, Try.ntmps22
  go_wp2
  go_ret
  exact ⟨rfl, rfl⟩
set_option maxRecDepth 100000 in
set_option maxHeartbeats 2000000 in
theorem pick_pos (c : Int) (w : World) (h1 : 0 ≤ c) (h2 : c < 9223372036854775808) :
    Calls Try.prog 22 #[.int .i64 c, .int .i64 9007199254740992] w fun e w' => e = .returned (.int .i64 (c % 9007199254740992 : Int)) ∧ w' = w := by
  have e : Int.tmod c 9007199254740992 = c % 9007199254740992 := Int.tmod_eq_emod_of_nonneg (by omega)
  go_enter Try.func22, Try.ntmps22
  go_wp2
  go_ret
  exact ⟨rfl, rfl⟩

theorem dec_slice (m : Nat) (h : m < 10) : (ByteArray.mk #[48, 49, 50, 51, 52, 53, 54, 55, 56, 57]).extract m (m + 1) = ofL [UInt8.ofNat (48 + m)] := by
  have : m = 0 ∨ m = 1 ∨ m = 2 ∨ m = 3 ∨ m = 4 ∨ m = 5 ∨ m = 6 ∨ m = 7 ∨ m = 8 ∨ m = 9 := by omega
  rcases this with rfl | rfl | rfl | rfl | rfl | rfl | rfl | rfl | rfl | rfl <;> rfl

set_option maxRecDepth 100000 in
set_option maxHeartbeats 2000000 in
theorem decimal_nat (n : Nat) (hn : n < 9007199254740992) (w : World) :
    Calls Try.prog 23 #[.int .i64 n] w fun e w' => e = .returned (.string (ofL (dgs n))) ∧ w' = w := by
  induction n using Nat.strongRecOn generalizing w with
  | _ n ih =>
    have hsl := dec_slice (n % 10) (by omega)
    by_cases h : n < 10
    · go_enter Try.func23, Try.ntmps23
      go_wp2
      go_ret
      refine ⟨?_, rfl⟩
      rw [dgs_lt h, ← show n % 10 = n from by omega, ← hsl, show n % 10 % 10 = n % 10 from by omega]
      rfl
    · have hi := ih (n / 10) (by omega) (by omega)
      go_enter Try.func23, Try.ntmps23
      have hz1 : (ofL (dgs (n / 10))).size ≤ 20 := by rw [ofL_size]; exact dgs_len20 _ (by omega)
      have hz2 : (ofL [UInt8.ofNat (48 + n % 10)]).size = 1 := rfl
      go_wp2_with fail
      refine (hi _).mono ?_
      rintro e w1 ⟨rfl, rfl⟩
      rw [hsl]
      have hE := hid (dgs_ge h)
      clear hsl
      generalize [UInt8.ofNat (48 + n % 10)] = q at *
      go_wp2
      go_ret
      refine ⟨?_, rfl⟩
      rw [hE.out, ← ofL_append]
      rfl
end Go.Proofs.Ytppjiegfcfaahaa
