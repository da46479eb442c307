/-
  A step of the walk of the numbers, the part named Rep. No theorem of the row.
-/
import Derived.Test.YtmkkibaacclhnaaStr
namespace Go.Proofs.Ytmkkibaacclhnaa
open Go.RowKit

set_option maxRecDepth 100000 in
set_option maxHeartbeats 1000000 in
theorem hasPrefix_any (l : List UInt8) (c : UInt8) (w : World) (hl : l.length ≤ 9000000000000000000) :
    Calls Try.prog 124 #[.string (ofL l), .string ⟨#[c]⟩] w fun e w' => e = .returned (.bool (l.head? == some c)) ∧ w' = w := by
  cases l with
  | nil =>
    go_enter Try.func124, Try.ntmps124
    go_wp2
    go_ret
    exact ⟨rfl, rfl⟩
  | cons x r =>
    have hsz := ofL_size (x :: r)
    have hx := ofL_extract (x :: r) 0 1
    have hlen : (x :: r).length = r.length + 1 := rfl
    rw [hlen] at hsz hl
    clear hlen
    go_enter Try.func124, Try.ntmps124
    go_wp2
    go_ret
    refine ⟨?_, rfl⟩
    show Ending.returned (.bool ((ofL [x]).toList == [c])) = _
    rw [ofL_toList]
    simp

set_option maxRecDepth 100000 in
set_option maxHeartbeats 2000000 in
theorem mul_one_any (n : Nat) (w : World) (hn : n ≤ 64) :
    Calls Try.prog 104 #[.int .u64 1, .int .u64 n] w fun e w' => e = .returned (.tuple #[.int .u64 0, .int .u64 n]) ∧ w' = w := by
  have hb : bits BinOp.and IntKind.u64 (n : Int) 4294967295 = (n : Int) := by
    rw [show (4294967295 : Int) = ((4294967295 : Nat) : Int) from rfl, u64_and_nat n _ (by omega) (by omega)]
    have : n &&& 4294967295 = n % 4294967296 := Nat.and_two_pow_sub_one_eq_mod n 32
    rw [this]; omega
  have hb1 : bits BinOp.and IntKind.u64 1 4294967295 = 1 := by decide
  have hb0 : bits BinOp.and IntKind.u64 0 4294967295 = 0 := by decide
  have hd : (n : Int) / 4294967296 = 0 := by omega
  go_enter Try.func104, Try.ntmps104
  go_wp2
  go_ret2
  exact ⟨rfl, rfl⟩

def zeros64 : ByteArray := ⟨#[48, 48, 48, 48, 48, 48, 48, 48, 48, 48, 48, 48, 48, 48, 48, 48, 48, 48, 48, 48, 48, 48, 48, 48, 48, 48, 48, 48, 48, 48, 48, 48, 48, 48, 48, 48, 48, 48, 48, 48, 48, 48, 48, 48, 48, 48, 48, 48, 48, 48, 48, 48, 48, 48, 48, 48, 48, 48, 48, 48, 48, 48, 48, 48]⟩
theorem zeros64_eq : zeros64 = ofL (List.replicate 64 48) := rfl

set_option maxRecDepth 100000 in
set_option maxHeartbeats 2000000 in
theorem hasPre_any (l : List UInt8) (c : UInt8) (w : World) (hl : l.length ≤ 9000000000000000000) : Calls Try.prog 105 #[.string (ofL l), .string ⟨#[c]⟩] w fun e w' => e = .returned (.bool (l.head? == some c)) ∧ w' = w := by
  go_enter Try.func105, Try.ntmps105
  go_wp2_with fail
  refine (hasPrefix_any l c _ hl).mono ?_
  rintro e w' ⟨rfl, rfl⟩
  go_wp2
  go_ret
  exact ⟨rfl, rfl⟩

set_option maxRecDepth 100000 in
set_option maxHeartbeats 2000000 in
theorem repeat_any (n : Nat) (w : World) (hn : n ≤ 30) :
    Calls Try.prog 79 #[.string ⟨#[48]⟩, .int .i64 n] w fun e w' => e = .returned (.string (ofL (List.replicate n 48))) ∧ w' = w := by
  rcases Nat.lt_or_ge n 2 with h2 | h2
  · rcases Nat.lt_or_ge n 1 with h1 | h1
    · obtain rfl : n = 0 := by omega
      go_enter Try.func79, Try.ntmps79
      go_wp2
      go_ret
      exact ⟨rfl, rfl⟩
    · obtain rfl : n = 1 := by omega
      go_enter Try.func79, Try.ntmps79
      go_wp2
      go_ret
      exact ⟨rfl, rfl⟩
  · have he0 : ((n : Int) == 0) = false := beq_eq_false_iff_ne.2 (by omega)
    have he1 : ((n : Int) == 1) = false := beq_eq_false_iff_ne.2 (by omega)
    have hneg : decide ((n : Int) < 0) = false := decide_eq_false (by omega)
    go_enter Try.func79, Try.ntmps79
    go_wp2_with (go_at_call 104; refine (mul_one_any n _ (by omega)).mono ?_; rintro e w' ⟨rfl, rfl⟩)
    refine (hasPre_any _ 48 _ ?_).mono ?_
    rotate_left
    rintro e w2 ⟨rfl, rfl⟩
    go_wp2_with fail
    refine (hasPre_any _ 48 _ ?_).mono ?_
    rotate_left
    rintro e w3 ⟨rfl, rfl⟩
    go_wp2_with fail
    refine (hasPre_any _ 48 _ ?_).mono ?_
    rotate_left
    rintro e w4 ⟨rfl, rfl⟩
    go_wp2
    go_ret
    refine ⟨?_, rfl⟩
    rotate_left
    · decide
    · decide
    · decide
    show Ending.returned (Value.string (zeros64.extract 0 n)) = _
    rw [zeros64_eq, ofL_extract, List.drop_zero, List.take_replicate, Nat.min_eq_left (by omega)]

set_option maxRecDepth 100000 in
set_option maxHeartbeats 2000000 in
theorem noughts_any (n : Nat) (w : World) (hn : n ≤ 30) :
    Calls Try.prog 57 #[.int .i64 n] w fun e w' => e = .returned (.string (ofL (List.replicate n 48))) ∧ w' = w := by
  go_enter Try.func57, Try.ntmps57
  go_wp2_with fail
  refine (repeat_any n _ hn).mono ?_
  rintro e w1 ⟨rfl, rfl⟩
  go_wp2
  go_ret
  exact ⟨rfl, rfl⟩
end Go.Proofs.Ytmkkibaacclhnaa
