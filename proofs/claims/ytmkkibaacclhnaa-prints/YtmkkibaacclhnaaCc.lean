/-
  A step of the walk of the numbers, the part named Cc: the law Prints, at every number. No theorem of the row.
-/
import Derived.Test.YtmkkibaacclhnaaCb
import Derived.Test.YtmkkibaacclhnaaBuv
namespace Go.Proofs.Ytmkkibaacclhnaa
open Go.RowKit

theorem p10_342 : p2 1074 ≤ p10 342 := by decide +kernel
theorem V_pos {m : Nat} (h : m ≠ 0) : 1 ≤ V m := by
  have := V_lt (show 0 < m by omega)
  omega
theorem ten_lo (m : Nat) (h : m ≠ 0) : TenLe m (-342) := by
  unfold TenLe
  rw [show ((-342 : Int)).toNat = 0 from rfl, show (-(-342 : Int)).toNat = 342 from rfl, show p10 0 = 1 from rfl, Nat.one_mul]
  refine Nat.le_trans p10_342 (Nat.le_mul_of_pos_right _ (V_pos h))
theorem V_top (m : Nat) (hm : m < 9218868437227405312) : V m < p2 2100 := by
  rw [manE_V]
  obtain ⟨h1, h2⟩ := man_less m hm
  have e : p2 2100 = p2 53 * p2 2047 := by rw [← p2_add]
  rw [e, p2_53]
  exact Nat.lt_of_lt_of_le (Nat.mul_lt_mul_of_pos_right h1 (p2_pos _)) (Nat.mul_le_mul_left _ (p2_le (by omega)))
theorem p10_682 : p2 2100 ≤ p10 682 * p2 1074 := by
  have a : p2 2046 ≤ p10 682 := p2_p10 682
  have b : p2 2100 = p2 2046 * p2 54 := by rw [← p2_add]
  rw [b]
  exact Nat.mul_le_mul a (p2_le (by omega))
theorem ten_hi (m : Nat) (hm : m < 9218868437227405312) : ¬ TenLe m 682 := by
  unfold TenLe
  rw [show ((682 : Int)).toNat = 682 from rfl, show (-(682 : Int)).toNat = 0 from rfl, show p10 0 = 1 from rfl, Nat.one_mul]
  have := V_top m hm
  have := p10_682
  omega

set_option maxRecDepth 100000 in
set_option maxHeartbeats 2000000 in
theorem prints_walk (BB : Int) (w : World) (hP : ∀ w, Calls Try.prog 13 #[.int .u64 BB] w fun e w' => ∃ (t : List UInt8) (k : Int), e = .returned (.tuple #[.string (ofL t), .int .i64 k]) ∧
      Hid (∀ w, Calls Try.prog 14 #[.int .u64 BB] w fun e w' => e = .returned (.tuple #[.string (ofL t), .int .i64 k]) ∧ Fr (fun _ => False) w w') ∧ Fr (fun _ => False) w w') :
    Calls Try.prog 4 #[.int .u64 BB] w fun e w' => e = .returned (.bool true) ∧ Fr (fun _ => False) w w' := by
  have HP := hid hP
  clear hP
  go_enter Try.func4, Try.ntmps4
  go_wp2_with fail
  refine (shown_any _).mono ?_
  rintro e w1 ⟨rfl, hF1⟩
  go_wp2_with fail
  refine (HP.out _).mono ?_
  rintro e w2 ⟨t, k, rfl, hR, hF2⟩
  go_wp2_with fail
  refine (hR.out _).mono ?_
  rintro e w3 ⟨rfl, hF3⟩
  generalize ofL t = s at *
  go_wp2_with (go_at_call 12; refine (num_any _ _).mono ?_; rintro e w' ⟨rfl, rfl⟩)
  go_ret
  exact ⟨rfl, (hF1.trans hF2).trans hF3⟩

theorem prints_any (bits : Nat) (w : World) (hb : bits < 18446744073709551616) :
    Calls Try.prog 4 #[.int .u64 (bits : Int)] w fun e w' => e = .returned (.bool true) ∧ Fr (fun _ => False) w w' := by
  obtain ⟨m, hm⟩ : ∃ m, bits % 9223372036854775808 = m := ⟨_, rfl⟩
  have hx := u64_andNot_sign bits hb
  rw [hm] at hx
  refine prints_walk _ w (fun w => ?_)
  by_cases hneg : bits < 9223372036854775808
  · obtain rfl : bits = m := by omega
    have hn : decide ((9223372036854775808 : Int) ≤ (bits : Int)) = false := decide_eq_false (by omega)
    by_cases hf : bits < 9218868437227405312
    · have hnf : decide ((9218868437227405312 : Int) ≤ (bits : Int)) = false := decide_eq_false (by omega)
      by_cases h0 : bits = 0
      · subst h0
        refine (print_zero 0 0 w hx rfl).mono ?_
        rintro e w' ⟨rfl, hF⟩
        exact ⟨[48], 0, rfl, fun w => (rprint_zerop w).mono fun e w' ⟨h1, h2⟩ => ⟨h1, by rw [h2]; exact Fr.refl _ _⟩, hF⟩
      · refine (print_num bits bits w hx h0 hf).mono ?_
        rintro e w' ⟨D, pw, hS, hD, h1, h2, rfl, hF⟩
        refine ⟨layL (dgs D) pw, 0, by rw [bne_self_eq_false]; rfl, fun w => ?_, hF⟩
        exact rprint_p bits (dgs D) pw w hn hnf (beq_eq_false_iff_ne.2 (by omega)) (dgs_pos D) (dgs_len20 D (by omega)) h1 h2 (fun w => rshort_any bits D pw w hS h0 hf h1 (ten_lo bits h0) (ten_hi bits hf))
    · refine (print_arg bits bits w hx (by omega)).mono ?_
      rintro e w' ⟨rfl, hF⟩
      exact ⟨[], 1, rfl, fun w => (rprint_argp bits w hn (decide_eq_true (by omega))).mono fun e w' ⟨h1, h2⟩ => ⟨h1, by rw [h2]; exact Fr.refl _ _⟩, hF⟩
  · have hn : decide ((9223372036854775808 : Int) ≤ (bits : Int)) = true := decide_eq_true (by omega)
    have hsub : IntKind.u64.wrap ((bits : Int) - 9223372036854775808) = (m : Int) := by
      rw [show (bits : Int) - 9223372036854775808 = (m : Int) by omega]
      exact IntWalk.u64_in _ ⟨by omega, by clear hx; omega⟩
    have hne : (bits != m) = true := bne_iff_ne.2 (by omega)
    by_cases hf : m < 9218868437227405312
    · have hnf : decide ((9218868437227405312 : Int) ≤ (m : Int)) = false := decide_eq_false (by omega)
      by_cases h0 : m = 0
      · subst h0
        obtain rfl : bits = 9223372036854775808 := by omega
        refine (print_zero 9223372036854775808 0 w hx rfl).mono ?_
        rintro e w' ⟨rfl, hF⟩
        exact ⟨[45, 48], 0, rfl, fun w => (rprint_zeron w).mono fun e w' ⟨h1, h2⟩ => ⟨h1, by rw [h2]; exact Fr.refl _ _⟩, hF⟩
      · refine (print_num bits m w hx h0 hf).mono ?_
        rintro e w' ⟨D, pw, hS, hD, h1, h2, rfl, hF⟩
        refine ⟨[45] ++ layL (dgs D) pw, 0, by rw [hne]; rfl, fun w => ?_, hF⟩
        exact rprint_n bits m (dgs D) pw w hn hsub hnf (beq_eq_false_iff_ne.2 (by omega)) (dgs_pos D) (dgs_len20 D (by omega)) h1 h2 (fun w => rshort_any m D pw w hS h0 hf h1 (ten_lo m h0) (ten_hi m hf))
    · refine (print_arg bits m w hx (by omega)).mono ?_
      rintro e w' ⟨rfl, hF⟩
      exact ⟨[], 1, rfl, fun w => (rprint_argn bits m w hn hsub (decide_eq_true (by omega))).mono fun e w' ⟨h1, h2⟩ => ⟨h1, by rw [h2]; exact Fr.refl _ _⟩, hF⟩
end Go.Proofs.Ytmkkibaacclhnaa
