/-
  A step of the walk of the numbers, the part named Bits. No theorem of the row.
-/
import Derived.Test.YtmkkibaacclhnaaBase
import Derived.Lib.Walk
import Derived.Lib.BitFns
import Derived.Deep.Light
namespace Go.Proofs.Ytmkkibaacclhnaa
open Go.RowKit

set_option maxRecDepth 100000 in
theorem tab_size : (Lib.len8tab.size : Int) = 256 := by
  have : Lib.len8tab.size = 256 := by decide
  omega
theorem t8 (y : Int) (h : y.toNat < Lib.len8tab.size) (h0 : 0 ≤ y) (h1 : y ≤ 255) : ((Lib.len8tab[y.toNat]'h).toNat : Int) = (Lib.bitLen y.toNat : Int) := by
  have := Lib.len8_of y h0 h1
  unfold Lib.len8 at this
  rw [getElem?_pos Lib.len8tab y.toNat h] at this
  exact this
theorem fin8 (k : Nat) (hk : k ≤ 56) (x y a : Int) (ha : a = (Lib.bitLen y.toNat : Int)) (h0 : 0 ≤ y) (h1 : y ≤ 255) (hx : x.toNat < 18446744073709551616) (hge : 2 ^ k ≤ x.toNat) (e : y.toNat = x.toNat / 2 ^ k) :
    wrap64 ((k : Int) + wrap64 a) = (Lib.bitLen x.toNat : Int) := by
  have s : Lib.bitLen x.toNat = k + Lib.bitLen (x.toNat / 2 ^ k) := Lib.bitLen_shift k _ hge hx
  have l := Lib.bitLen_le8' y h0 h1
  rw [s, ha, ← e]
  clear s hge e hx ha
  generalize Lib.bitLen y.toNat = m at l ⊢
  unfold wrap64
  omega
theorem fin80 (x a : Int) (ha : a = (Lib.bitLen x.toNat : Int)) (h0 : 0 ≤ x) (h1 : x ≤ 255) : wrap64 (wrap64 a) = (Lib.bitLen x.toNat : Int) := by
  have l := Lib.bitLen_le8' x h0 h1
  rw [ha]
  unfold wrap64
  omega

set_option maxHeartbeats 4000000 in
set_option maxRecDepth 100000 in
theorem len64_any (x : Int) (w : World) (h0 : 0 ≤ x) (h1 : x ≤ 18446744073709551615) :
    Calls Try.prog 85 #[.int .u64 x] w fun e w' => e = .returned (.int .i64 (Lib.bitLen x.toNat)) ∧ w' = w := by
  go_enter Try.func85, Try.ntmps85
  go_wp2
  all_goals first
    | (go_ret; refine ⟨congrArg Ending.returned (congrArg (Value.int IntKind.i64) ?_), rfl⟩; go_light)
    | (exfalso; go_light; have hs := tab_size; omega)
  all_goals first
    | exact fin8 56 (by decide) x (x / 4294967296 / 65536 / 256) _ (t8 (x / 4294967296 / 65536 / 256) _ (by omega) (by omega)) (by omega) (by omega) (by omega) (by omega) (by omega)
    | exact fin8 48 (by decide) x (x / 4294967296 / 65536) _ (t8 (x / 4294967296 / 65536) _ (by omega) (by omega)) (by omega) (by omega) (by omega) (by omega) (by omega)
    | exact fin8 40 (by decide) x (x / 4294967296 / 256) _ (t8 (x / 4294967296 / 256) _ (by omega) (by omega)) (by omega) (by omega) (by omega) (by omega) (by omega)
    | exact fin8 32 (by decide) x (x / 4294967296) _ (t8 (x / 4294967296) _ (by omega) (by omega)) (by omega) (by omega) (by omega) (by omega) (by omega)
    | exact fin8 24 (by decide) x (x / 65536 / 256) _ (t8 (x / 65536 / 256) _ (by omega) (by omega)) (by omega) (by omega) (by omega) (by omega) (by omega)
    | exact fin8 16 (by decide) x (x / 65536) _ (t8 (x / 65536) _ (by omega) (by omega)) (by omega) (by omega) (by omega) (by omega) (by omega)
    | exact fin8 8 (by decide) x (x / 256) _ (t8 (x / 256) _ (by omega) (by omega)) (by omega) (by omega) (by omega) (by omega) (by omega)
    | exact fin80 x _ (t8 x _ (by omega) (by omega)) (by omega) (by omega)

set_option maxHeartbeats 4000000 in
set_option maxRecDepth 100000 in
theorem len32_any (x : Int) (w : World) (h0 : 0 ≤ x) (h1 : x ≤ 4294967295) :
    Calls Try.prog 121 #[.int .u32 x] w fun e w' => e = .returned (.int .i64 (Lib.bitLen x.toNat)) ∧ w' = w := by
  go_enter Try.func121, Try.ntmps121
  go_wp2
  all_goals first
    | (go_ret; refine ⟨congrArg Ending.returned (congrArg (Value.int IntKind.i64) ?_), rfl⟩; go_light)
    | (exfalso; go_light; have hs := tab_size; omega)
  all_goals first
    | exact fin8 24 (by decide) x (x / 65536 / 256) _ (t8 (x / 65536 / 256) _ (by omega) (by omega)) (by omega) (by omega) (by omega) (by omega) (by omega)
    | exact fin8 16 (by decide) x (x / 65536) _ (t8 (x / 65536) _ (by omega) (by omega)) (by omega) (by omega) (by omega) (by omega) (by omega)
    | exact fin8 8 (by decide) x (x / 256) _ (t8 (x / 256) _ (by omega) (by omega)) (by omega) (by omega) (by omega) (by omega) (by omega)
    | exact fin80 x _ (t8 x _ (by omega) (by omega)) (by omega) (by omega)

theorem tb31 (x : Nat) (hx : x < 4294967296) : x.testBit 31 = decide (2147483648 ≤ x) := by
  rw [Nat.testBit_eq_decide_div_mod_eq]
  by_cases h : 2147483648 ≤ x
  · simp [h]; omega
  · simp [h]; omega

/-- the borrow of x - y - c -/
def bo (x y c : Nat) : Nat := if x < y + c then 1 else 0

theorem borrow_nat (x y d : Nat) (c : Nat) (hx : x < 4294967296) (hy : y < 4294967296) (hc : c ≤ 1) (hd : d = (x + 8589934592 - y - c) % 4294967296) :
    (((4294967295 ^^^ x) &&& y) ||| ((4294967295 ^^^ (x ^^^ y)) &&& d)) / 2147483648 = bo x y c := by
  have hd2 : d < 4294967296 := by omega
  have hZ : (((4294967295 ^^^ x) &&& y) ||| ((4294967295 ^^^ (x ^^^ y)) &&& d)) < 2 ^ 32 :=
    Nat.or_lt_two_pow (Nat.lt_of_le_of_lt Nat.and_le_right hy) (Nat.lt_of_le_of_lt Nat.and_le_right hd2)
  generalize hz : (((4294967295 ^^^ x) &&& y) ||| ((4294967295 ^^^ (x ^^^ y)) &&& d)) = Z at hZ
  have ht : Z.testBit 31 = ((!(decide (2147483648 ≤ x)) && decide (2147483648 ≤ y)) || (!(decide (2147483648 ≤ x) ^^ decide (2147483648 ≤ y)) && decide (2147483648 ≤ d))) := by
    rw [← hz]
    simp only [Nat.testBit_or, Nat.testBit_and, Nat.testBit_xor, tb31 x hx, tb31 y hy, tb31 d hd2, show Nat.testBit 4294967295 31 = true from by decide, Bool.true_xor]
  rw [tb31 Z (by omega)] at ht
  clear hz
  by_cases a : 2147483648 ≤ x <;> by_cases b : 2147483648 ≤ y <;> by_cases e : 2147483648 ≤ d <;> simp [a, b, e] at ht <;> unfold bo <;> split <;> omega

set_option maxHeartbeats 400000 in
theorem sub32_any (x y c : Nat) (w : World) (hx : x < 4294967296) (hy : y < 4294967296) (hc : c ≤ 1) :
    Calls Try.prog 113 #[.int .u32 x, .int .u32 y, .int .u32 c] w fun e w' => e = .returned (.tuple #[.int .u32 ((x + 8589934592 - y - c) % 4294967296 : Nat), .int .u32 (bo x y c : Nat)]) ∧ w' = w := by
  have hb := borrow_nat x y _ c hx hy hc rfl
  have HB : Hid _ := hb
  clear hb
  go_enter Try.func113, Try.ntmps113
  go_wp2
  go_ret2
  have e0 : IntKind.u32.max = ((4294967295 : Nat) : Int) := by decide
  have e1 : ((x : Int) - y - c) % 4294967296 = (((x + 8589934592 - y - c) % 4294967296 : Nat) : Int) := by omega
  refine ⟨congrArg Ending.returned (congrArg Value.tuple ?_), rfl⟩
  show #[Value.int IntKind.u32 _, Value.int IntKind.u32 _] = _
  rw [e0, e1]
  have hxy : x ^^^ y < 4294967296 := Nat.xor_lt_two_pow (n := 32) hx hy
  rw [u32_xor_nat x y hx hy, u32_xor_nat 4294967295 _ (by omega) hxy, u32_xor_nat 4294967295 _ (by omega) hx]
  have h1 : 4294967295 ^^^ (x ^^^ y) < 4294967296 := Nat.xor_lt_two_pow (n := 32) (by omega) hxy
  have h2 : 4294967295 ^^^ x < 4294967296 := Nat.xor_lt_two_pow (n := 32) (by omega) hx
  rw [u32_and_nat _ _ h1 (by omega), u32_and_nat _ _ h2 hy, u32_or_nat _ _ (Nat.lt_of_le_of_lt Nat.and_le_right hy) (Nat.lt_of_le_of_lt Nat.and_le_right (by omega))]
  rw [← HB.out]
  rfl
end Go.Proofs.Ytmkkibaacclhnaa
