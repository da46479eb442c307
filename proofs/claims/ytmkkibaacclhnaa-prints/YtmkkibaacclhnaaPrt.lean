/-
  A step of the walk of the numbers, the part named Prt. No theorem of the row.
-/
import Derived.Test.YtmkkibaacclhnaaLay
namespace Go.Proofs.Ytmkkibaacclhnaa
open Go.RowKit
theorem u64_andNot_sign (n : Nat) (hn : n < 18446744073709551616) : bits BinOp.andNot IntKind.u64 (n : Int) 9223372036854775808 = ((n % 9223372036854775808 : Nat) : Int) := by
  rw [show (9223372036854775808 : Int) = ((9223372036854775808 : Nat) : Int) from rfl, u64_andNot_nat n _ hn (by omega), show 18446744073709551615 - 9223372036854775808 = 2 ^ 63 - 1 from by omega, Nat.and_two_pow_sub_one_eq_mod n 63]
theorem nat_bne (n m : Nat) : ((n : Int) != (m : Int)) = (n != m) := by
  by_cases h : n = m
  · subst h; simp
  · have h' : (n : Int) ≠ (m : Int) := by omega
    rw [bne_iff_ne.2 h, bne_iff_ne.2 h']
/-- Is tells whether bits are a number -/
theorem is_yes (n m : Nat) (w : World) (hb : bits BinOp.andNot IntKind.u64 (n : Int) 9223372036854775808 = (m : Int)) (hd : decide ((m : Int) < 9218868437227405312) = true) :
    Calls Try.prog 34 #[.int .u64 n] w fun e w' => e = .returned (.bool true) ∧ w' = w := by
  go_enter Try.func34, Try.ntmps34
  go_wp2
  go_ret
  exact ⟨rfl, rfl⟩
theorem is_no (n m : Nat) (w : World) (hb : bits BinOp.andNot IntKind.u64 (n : Int) 9223372036854775808 = (m : Int)) (hd : decide ((m : Int) < 9218868437227405312) = false) :
    Calls Try.prog 34 #[.int .u64 n] w fun e w' => e = .returned (.bool false) ∧ w' = w := by
  go_enter Try.func34, Try.ntmps34
  go_wp2
  go_ret
  exact ⟨rfl, rfl⟩

/-- the answer of Print -/
def printL (neg : Bool) (t : List UInt8) : List UInt8 := if neg then 45 :: t else t

set_option maxRecDepth 100000 in
set_option maxHeartbeats 2000000 in
theorem print_arg (n m : Nat) (w : World) (hb : bits BinOp.andNot IntKind.u64 (n : Int) 9223372036854775808 = (m : Int)) (hm : 9218868437227405312 ≤ m) :
    Calls Try.prog 13 #[.int .u64 n] w fun e w' => e = .returned (.tuple #[.string (ofL []), .int .i64 1]) ∧ Fr (fun _ => False) w w' := by
  have hc := hid (fun w => is_no n m w hb (decide_eq_false (by omega)))
  clear hm hb
  go_enter Try.func13, Try.ntmps13
  go_wp2_with fail
  refine (hc.out _).mono ?_
  rintro e w1 ⟨rfl, rfl⟩
  go_wp2
  go_ret2
  refine ⟨rfl, Fr.refl _ _⟩

set_option maxRecDepth 100000 in
set_option maxHeartbeats 2000000 in
theorem print_zero (n m : Nat) (w : World) (hb : bits BinOp.andNot IntKind.u64 (n : Int) 9223372036854775808 = (m : Int)) (hm : m = 0) :
    Calls Try.prog 13 #[.int .u64 n] w fun e w' => e = .returned (.tuple #[.string (ofL (printL (n != m) [48])), .int .i64 0]) ∧ Fr (fun _ => False) w w' := by
  have hc := hid (fun w => is_yes n m w hb (decide_eq_true (by omega)))
  have h0' : ((m : Int) != 0) = false := by simpa using hm
  clear hm
  by_cases hnm : ((n : Int) != (m : Int)) = true
  · have e : (n != m) = true := by rw [← nat_bne]; exact hnm
    rw [e]
    go_enter Try.func13, Try.ntmps13
    go_wp2_with fail
    refine (hc.out _).mono ?_
    rintro e w1 ⟨rfl, rfl⟩
    go_wp2
    go_ret2
    exact ⟨rfl, Fr.refl _ _⟩
  · have hnm' : ((n : Int) != (m : Int)) = false := by simpa using hnm
    have e : (n != m) = false := by rw [← nat_bne]; exact hnm'
    rw [e]
    clear hnm
    go_enter Try.func13, Try.ntmps13
    go_wp2_with fail
    refine (hc.out _).mono ?_
    rintro e w1 ⟨rfl, rfl⟩
    go_wp2
    go_ret2
    exact ⟨rfl, Fr.refl _ _⟩

theorem expL_len (l : List UInt8) (x : Int) (hl : l.length ≤ 20) (h1 : -6000 ≤ x) (h2 : x ≤ 6000) : (expL l x).length ≤ 100 := by
  unfold expL
  rw [List.length_append, List.length_append, List.length_take]
  have a1 : (if 1 < l.length then 46 :: l.drop 1 else []).length ≤ 20 := by split <;> simp; omega
  have a2 : (if x < 0 then [101, 45] ++ dgs (-x).toNat else [101, 43] ++ dgs x.toNat).length ≤ 22 := by
    split
    · have := dgs_len20 (-x).toNat (by omega); simp; omega
    · have := dgs_len20 x.toNat (by omega); simp; omega
  omega
theorem layL_len (l : List UInt8) (pw : Int) (hl : l.length ≤ 20) (h1 : -5000 ≤ pw) (h2 : pw ≤ 5000) : (layL l pw).length ≤ 100 := by
  unfold layL
  split
  · exact expL_len l _ hl (by omega) (by omega)
  · split
    · simp; omega
    · split
      · simp; omega
      · simp; omega

set_option maxRecDepth 100000 in
set_option maxHeartbeats 2000000 in
theorem print_num (n m : Nat) (w : World) (hb : bits BinOp.andNot IntKind.u64 (n : Int) 9223372036854775808 = (m : Int)) (h0 : m ≠ 0) (hm : m < 9218868437227405312) :
    Calls Try.prog 13 #[.int .u64 n] w fun e w' => ∃ (D : Nat) (pw : Int), Short m D pw ∧ D ≤ 90071992547409920 ∧ -5000 ≤ pw ∧ pw ≤ 5000 ∧ e = .returned (.tuple #[.string (ofL (printL (n != m) (layL (dgs D) pw))), .int .i64 0]) ∧ Fr (fun _ => False) w w' := by
  have hs := fun w => shortest_any m w h0 hm
  have hc := hid (fun w => is_yes n m w hb (decide_eq_true (by omega)))
  have h0' : ((m : Int) != 0) = true := by simpa using h0
  clear hm
  go_enter Try.func13, Try.ntmps13
  go_wp2_with fail
  refine (hc.out _).mono ?_
  rintro e w0 ⟨rfl, rfl⟩
  go_wp2_with fail
  refine (hs _).mono ?_
  rintro e w1 ⟨D, pw, rfl, s1, s2, s3, s4, hF⟩
  go_wp2_with fail
  refine (layOut_any D pw _ (by omega) s3 s4).mono ?_
  rintro e w2 ⟨rfl, hF2⟩
  have hz : (ofL (layL (dgs D) pw)).size ≤ 100 := by rw [ofL_size]; exact layL_len _ _ (dgs_len20 D (by omega)) s3 s4
  have S1 := hid s1
  clear s1 hs
  by_cases hnm : ((n : Int) != (m : Int)) = true
  · have e : (n != m) = true := by rw [← nat_bne]; exact hnm
    have E := hid e
    clear e
    go_wp2
    go_ret2
    refine ⟨D, pw, S1.out, s2, s3, s4, ?_, hF.trans hF2⟩
    show Ending.returned (.tuple #[.string (ofL [45] ++ ofL (layL (dgs D) pw)), .int .i64 0]) = _
    rw [ofL_append, E.out]; rfl
  · have hnm' : ((n : Int) != (m : Int)) = false := by simpa using hnm
    have e : (n != m) = false := by rw [← nat_bne]; exact hnm'
    have E := hid e
    clear e
    clear hnm
    go_wp2
    go_ret2
    exact ⟨D, pw, S1.out, s2, s3, s4, by rw [E.out]; rfl, hF.trans hF2⟩
end Go.Proofs.Ytmkkibaacclhnaa
