/-
  A step of the walk, the part named TkB. No theorem of the row.
-/
import Derived.Test.YtmkkibaacclhnaaGreatDoorTnr
namespace Go.Proofs.YtmkkibaacclhnaaGreatDoor
open Go.RowKit

theorem toNat_ne {c d : UInt8} (h : c ≠ d) : c.toNat ≠ d.toNat := fun e => h (UInt8.toNat_inj.1 e)
theorem ne_of_toNat {c d : UInt8} (h : c.toNat ≠ d.toNat) : c ≠ d := by rintro rfl; exact h rfl
/-- what kind of byte one is, for a token -/
theorem byte_cases (c : UInt8) : c = 45 ∨ c = 43 ∨ c = 46 ∨ c = 48 ∨ c = 101 ∨ c = 69 ∨ (49 ≤ c.toNat ∧ c.toNat ≤ 57) ∨ (c.toNat < 48 ∧ c.toNat ≠ 45 ∧ c.toNat ≠ 43 ∧ c.toNat ≠ 46) ∨ (57 < c.toNat ∧ c.toNat ≠ 101 ∧ c.toNat ≠ 69) := by
  by_cases h1 : c = 45
  · exact .inl h1
  by_cases h2 : c = 43
  · exact .inr (.inl h2)
  by_cases h3 : c = 46
  · exact .inr (.inr (.inl h3))
  by_cases h4 : c = 48
  · exact .inr (.inr (.inr (.inl h4)))
  by_cases h5 : c = 101
  · exact .inr (.inr (.inr (.inr (.inl h5))))
  by_cases h6 : c = 69
  · exact .inr (.inr (.inr (.inr (.inr (.inl h6)))))
  have k1 := toNat_ne h1
  have k2 := toNat_ne h2
  have k3 := toNat_ne h3
  have k4 := toNat_ne h4
  have k5 := toNat_ne h5
  have k6 := toNat_ne h6
  simp at k1 k2 k3 k4 k5 k6
  omega
set_option maxRecDepth 100000 in
set_option maxHeartbeats 4000000 in
theorem behind_0 (c : UInt8) (w : World) : Calls Tryz.prog 57 #[.int .i64 0, .int .u8 (c.toNat : Int)] w fun e w' => e = .returned (.int .i64 (beh 0 c : Nat)) ∧ w' = w := by
  rcases byte_cases c with rfl | rfl | rfl | rfl | rfl | rfl | ⟨h1, h2⟩ | ⟨h1, h2, h3, h4⟩ | ⟨h1, h2, h3⟩
  · have hk : Hid (beh 0 45 = 1) := by show beh 0 45 = 1; decide
    rw [hk.out]
    go_enter Tryz.func57, Tryz.ntmps57
    go_wp2
    go_ret
    exact ⟨rfl, rfl⟩
  · have hk : Hid (beh 0 43 = 0) := by show beh 0 43 = 0; decide
    rw [hk.out]
    go_enter Tryz.func57, Tryz.ntmps57
    go_wp2
    go_ret
    exact ⟨rfl, rfl⟩
  · have hk : Hid (beh 0 46 = 0) := by show beh 0 46 = 0; decide
    rw [hk.out]
    go_enter Tryz.func57, Tryz.ntmps57
    go_wp2
    go_ret
    exact ⟨rfl, rfl⟩
  · have hk : Hid (beh 0 48 = 2) := by show beh 0 48 = 2; decide
    rw [hk.out]
    go_enter Tryz.func57, Tryz.ntmps57
    go_wp2
    go_ret
    exact ⟨rfl, rfl⟩
  · have hk : Hid (beh 0 101 = 0) := by show beh 0 101 = 0; decide
    rw [hk.out]
    go_enter Tryz.func57, Tryz.ntmps57
    go_wp2
    go_ret
    exact ⟨rfl, rfl⟩
  · have hk : Hid (beh 0 69 = 0) := by show beh 0 69 = 0; decide
    rw [hk.out]
    go_enter Tryz.func57, Tryz.ntmps57
    go_wp2
    go_ret
    exact ⟨rfl, rfl⟩
  · have hd : isD c = true := (isD_iff c).2 ⟨by omega, h2⟩
    have n45 : c ≠ 45 := ne_of_toNat (by simp; omega)
    have n43 : c ≠ 43 := ne_of_toNat (by simp; omega)
    have n46 : c ≠ 46 := ne_of_toNat (by simp; omega)
    have n48 : c ≠ 48 := ne_of_toNat (by simp; omega)
    have n101 : c ≠ 101 := ne_of_toNat (by simp; omega)
    have n69 : c ≠ 69 := ne_of_toNat (by simp; omega)
    have hk : Hid (beh 0 c = 3) := by show beh 0 c = 3; unfold beh; simp_all
    rw [hk.out]
    clear hk hd n45 n43 n46 n48 n101 n69
    generalize c.toNat = x at *
    have e45 : ((x : Int) == 45) = false := beq_eq_false_iff_ne.2 (by omega)
    have e43 : ((x : Int) == 43) = false := beq_eq_false_iff_ne.2 (by omega)
    have e46 : ((x : Int) == 46) = false := beq_eq_false_iff_ne.2 (by omega)
    have e48 : ((x : Int) == 48) = false := beq_eq_false_iff_ne.2 (by omega)
    have e101 : ((x : Int) == 101) = false := beq_eq_false_iff_ne.2 (by omega)
    have e69 : ((x : Int) == 69) = false := beq_eq_false_iff_ne.2 (by omega)
    go_enter Tryz.func57, Tryz.ntmps57
    go_wp2
    go_ret
    exact ⟨rfl, rfl⟩
  · have hd : isD c = false := by
      cases hh : isD c
      · rfl
      · have := (isD_iff c).1 hh; omega
    have n45 : c ≠ 45 := ne_of_toNat (by simp; omega)
    have n43 : c ≠ 43 := ne_of_toNat (by simp; omega)
    have n46 : c ≠ 46 := ne_of_toNat (by simp; omega)
    have n48 : c ≠ 48 := ne_of_toNat (by simp; omega)
    have n101 : c ≠ 101 := ne_of_toNat (by simp; omega)
    have n69 : c ≠ 69 := ne_of_toNat (by simp; omega)
    have hk : Hid (beh 0 c = 0) := by show beh 0 c = 0; unfold beh; simp_all
    rw [hk.out]
    clear hk hd n45 n43 n46 n48 n101 n69
    generalize c.toNat = x at *
    have e45 : ((x : Int) == 45) = false := beq_eq_false_iff_ne.2 (by omega)
    have e43 : ((x : Int) == 43) = false := beq_eq_false_iff_ne.2 (by omega)
    have e46 : ((x : Int) == 46) = false := beq_eq_false_iff_ne.2 (by omega)
    have e48 : ((x : Int) == 48) = false := beq_eq_false_iff_ne.2 (by omega)
    have e101 : ((x : Int) == 101) = false := beq_eq_false_iff_ne.2 (by omega)
    have e69 : ((x : Int) == 69) = false := beq_eq_false_iff_ne.2 (by omega)
    go_enter Tryz.func57, Tryz.ntmps57
    go_wp2
    go_ret
    exact ⟨rfl, rfl⟩
  · have hd : isD c = false := by
      cases hh : isD c
      · rfl
      · have := (isD_iff c).1 hh; omega
    have n45 : c ≠ 45 := ne_of_toNat (by simp; omega)
    have n43 : c ≠ 43 := ne_of_toNat (by simp; omega)
    have n46 : c ≠ 46 := ne_of_toNat (by simp; omega)
    have n48 : c ≠ 48 := ne_of_toNat (by simp; omega)
    have n101 : c ≠ 101 := ne_of_toNat (by simp; omega)
    have n69 : c ≠ 69 := ne_of_toNat (by simp; omega)
    have hk : Hid (beh 0 c = 0) := by show beh 0 c = 0; unfold beh; simp_all
    rw [hk.out]
    clear hk hd n45 n43 n46 n48 n101 n69
    generalize c.toNat = x at *
    have e45 : ((x : Int) == 45) = false := beq_eq_false_iff_ne.2 (by omega)
    have e43 : ((x : Int) == 43) = false := beq_eq_false_iff_ne.2 (by omega)
    have e46 : ((x : Int) == 46) = false := beq_eq_false_iff_ne.2 (by omega)
    have e48 : ((x : Int) == 48) = false := beq_eq_false_iff_ne.2 (by omega)
    have e101 : ((x : Int) == 101) = false := beq_eq_false_iff_ne.2 (by omega)
    have e69 : ((x : Int) == 69) = false := beq_eq_false_iff_ne.2 (by omega)
    go_enter Tryz.func57, Tryz.ntmps57
    go_wp2
    go_ret
    exact ⟨rfl, rfl⟩
set_option maxRecDepth 100000 in
set_option maxHeartbeats 4000000 in
theorem behind_1 (c : UInt8) (w : World) : Calls Tryz.prog 57 #[.int .i64 1, .int .u8 (c.toNat : Int)] w fun e w' => e = .returned (.int .i64 (beh 1 c : Nat)) ∧ w' = w := by
  rcases byte_cases c with rfl | rfl | rfl | rfl | rfl | rfl | ⟨h1, h2⟩ | ⟨h1, h2, h3, h4⟩ | ⟨h1, h2, h3⟩
  · have hk : Hid (beh 1 45 = 0) := by show beh 1 45 = 0; decide
    rw [hk.out]
    go_enter Tryz.func57, Tryz.ntmps57
    go_wp2
    go_ret
    exact ⟨rfl, rfl⟩
  · have hk : Hid (beh 1 43 = 0) := by show beh 1 43 = 0; decide
    rw [hk.out]
    go_enter Tryz.func57, Tryz.ntmps57
    go_wp2
    go_ret
    exact ⟨rfl, rfl⟩
  · have hk : Hid (beh 1 46 = 0) := by show beh 1 46 = 0; decide
    rw [hk.out]
    go_enter Tryz.func57, Tryz.ntmps57
    go_wp2
    go_ret
    exact ⟨rfl, rfl⟩
  · have hk : Hid (beh 1 48 = 2) := by show beh 1 48 = 2; decide
    rw [hk.out]
    go_enter Tryz.func57, Tryz.ntmps57
    go_wp2
    go_ret
    exact ⟨rfl, rfl⟩
  · have hk : Hid (beh 1 101 = 0) := by show beh 1 101 = 0; decide
    rw [hk.out]
    go_enter Tryz.func57, Tryz.ntmps57
    go_wp2
    go_ret
    exact ⟨rfl, rfl⟩
  · have hk : Hid (beh 1 69 = 0) := by show beh 1 69 = 0; decide
    rw [hk.out]
    go_enter Tryz.func57, Tryz.ntmps57
    go_wp2
    go_ret
    exact ⟨rfl, rfl⟩
  · have hd : isD c = true := (isD_iff c).2 ⟨by omega, h2⟩
    have n45 : c ≠ 45 := ne_of_toNat (by simp; omega)
    have n43 : c ≠ 43 := ne_of_toNat (by simp; omega)
    have n46 : c ≠ 46 := ne_of_toNat (by simp; omega)
    have n48 : c ≠ 48 := ne_of_toNat (by simp; omega)
    have n101 : c ≠ 101 := ne_of_toNat (by simp; omega)
    have n69 : c ≠ 69 := ne_of_toNat (by simp; omega)
    have hk : Hid (beh 1 c = 3) := by show beh 1 c = 3; unfold beh; simp_all
    rw [hk.out]
    clear hk hd n45 n43 n46 n48 n101 n69
    generalize c.toNat = x at *
    have e45 : ((x : Int) == 45) = false := beq_eq_false_iff_ne.2 (by omega)
    have e43 : ((x : Int) == 43) = false := beq_eq_false_iff_ne.2 (by omega)
    have e46 : ((x : Int) == 46) = false := beq_eq_false_iff_ne.2 (by omega)
    have e48 : ((x : Int) == 48) = false := beq_eq_false_iff_ne.2 (by omega)
    have e101 : ((x : Int) == 101) = false := beq_eq_false_iff_ne.2 (by omega)
    have e69 : ((x : Int) == 69) = false := beq_eq_false_iff_ne.2 (by omega)
    go_enter Tryz.func57, Tryz.ntmps57
    go_wp2
    go_ret
    exact ⟨rfl, rfl⟩
  · have hd : isD c = false := by
      cases hh : isD c
      · rfl
      · have := (isD_iff c).1 hh; omega
    have n45 : c ≠ 45 := ne_of_toNat (by simp; omega)
    have n43 : c ≠ 43 := ne_of_toNat (by simp; omega)
    have n46 : c ≠ 46 := ne_of_toNat (by simp; omega)
    have n48 : c ≠ 48 := ne_of_toNat (by simp; omega)
    have n101 : c ≠ 101 := ne_of_toNat (by simp; omega)
    have n69 : c ≠ 69 := ne_of_toNat (by simp; omega)
    have hk : Hid (beh 1 c = 0) := by show beh 1 c = 0; unfold beh; simp_all
    rw [hk.out]
    clear hk hd n45 n43 n46 n48 n101 n69
    generalize c.toNat = x at *
    have e45 : ((x : Int) == 45) = false := beq_eq_false_iff_ne.2 (by omega)
    have e43 : ((x : Int) == 43) = false := beq_eq_false_iff_ne.2 (by omega)
    have e46 : ((x : Int) == 46) = false := beq_eq_false_iff_ne.2 (by omega)
    have e48 : ((x : Int) == 48) = false := beq_eq_false_iff_ne.2 (by omega)
    have e101 : ((x : Int) == 101) = false := beq_eq_false_iff_ne.2 (by omega)
    have e69 : ((x : Int) == 69) = false := beq_eq_false_iff_ne.2 (by omega)
    go_enter Tryz.func57, Tryz.ntmps57
    go_wp2
    go_ret
    exact ⟨rfl, rfl⟩
  · have hd : isD c = false := by
      cases hh : isD c
      · rfl
      · have := (isD_iff c).1 hh; omega
    have n45 : c ≠ 45 := ne_of_toNat (by simp; omega)
    have n43 : c ≠ 43 := ne_of_toNat (by simp; omega)
    have n46 : c ≠ 46 := ne_of_toNat (by simp; omega)
    have n48 : c ≠ 48 := ne_of_toNat (by simp; omega)
    have n101 : c ≠ 101 := ne_of_toNat (by simp; omega)
    have n69 : c ≠ 69 := ne_of_toNat (by simp; omega)
    have hk : Hid (beh 1 c = 0) := by show beh 1 c = 0; unfold beh; simp_all
    rw [hk.out]
    clear hk hd n45 n43 n46 n48 n101 n69
    generalize c.toNat = x at *
    have e45 : ((x : Int) == 45) = false := beq_eq_false_iff_ne.2 (by omega)
    have e43 : ((x : Int) == 43) = false := beq_eq_false_iff_ne.2 (by omega)
    have e46 : ((x : Int) == 46) = false := beq_eq_false_iff_ne.2 (by omega)
    have e48 : ((x : Int) == 48) = false := beq_eq_false_iff_ne.2 (by omega)
    have e101 : ((x : Int) == 101) = false := beq_eq_false_iff_ne.2 (by omega)
    have e69 : ((x : Int) == 69) = false := beq_eq_false_iff_ne.2 (by omega)
    go_enter Tryz.func57, Tryz.ntmps57
    go_wp2
    go_ret
    exact ⟨rfl, rfl⟩
set_option maxRecDepth 100000 in
set_option maxHeartbeats 4000000 in
theorem behind_2 (c : UInt8) (w : World) : Calls Tryz.prog 57 #[.int .i64 2, .int .u8 (c.toNat : Int)] w fun e w' => e = .returned (.int .i64 (beh 2 c : Nat)) ∧ w' = w := by
  rcases byte_cases c with rfl | rfl | rfl | rfl | rfl | rfl | ⟨h1, h2⟩ | ⟨h1, h2, h3, h4⟩ | ⟨h1, h2, h3⟩
  · have hk : Hid (beh 2 45 = 0) := by show beh 2 45 = 0; decide
    rw [hk.out]
    go_enter Tryz.func57, Tryz.ntmps57
    go_wp2
    go_ret
    exact ⟨rfl, rfl⟩
  · have hk : Hid (beh 2 43 = 0) := by show beh 2 43 = 0; decide
    rw [hk.out]
    go_enter Tryz.func57, Tryz.ntmps57
    go_wp2
    go_ret
    exact ⟨rfl, rfl⟩
  · have hk : Hid (beh 2 46 = 4) := by show beh 2 46 = 4; decide
    rw [hk.out]
    go_enter Tryz.func57, Tryz.ntmps57
    go_wp2
    go_ret
    exact ⟨rfl, rfl⟩
  · have hk : Hid (beh 2 48 = 0) := by show beh 2 48 = 0; decide
    rw [hk.out]
    go_enter Tryz.func57, Tryz.ntmps57
    go_wp2
    go_ret
    exact ⟨rfl, rfl⟩
  · have hk : Hid (beh 2 101 = 6) := by show beh 2 101 = 6; decide
    rw [hk.out]
    go_enter Tryz.func57, Tryz.ntmps57
    go_wp2
    go_ret
    exact ⟨rfl, rfl⟩
  · have hk : Hid (beh 2 69 = 6) := by show beh 2 69 = 6; decide
    rw [hk.out]
    go_enter Tryz.func57, Tryz.ntmps57
    go_wp2
    go_ret
    exact ⟨rfl, rfl⟩
  · have hd : isD c = true := (isD_iff c).2 ⟨by omega, h2⟩
    have n45 : c ≠ 45 := ne_of_toNat (by simp; omega)
    have n43 : c ≠ 43 := ne_of_toNat (by simp; omega)
    have n46 : c ≠ 46 := ne_of_toNat (by simp; omega)
    have n48 : c ≠ 48 := ne_of_toNat (by simp; omega)
    have n101 : c ≠ 101 := ne_of_toNat (by simp; omega)
    have n69 : c ≠ 69 := ne_of_toNat (by simp; omega)
    have hk : Hid (beh 2 c = 0) := by show beh 2 c = 0; unfold beh; simp_all
    rw [hk.out]
    clear hk hd n45 n43 n46 n48 n101 n69
    generalize c.toNat = x at *
    have e45 : ((x : Int) == 45) = false := beq_eq_false_iff_ne.2 (by omega)
    have e43 : ((x : Int) == 43) = false := beq_eq_false_iff_ne.2 (by omega)
    have e46 : ((x : Int) == 46) = false := beq_eq_false_iff_ne.2 (by omega)
    have e48 : ((x : Int) == 48) = false := beq_eq_false_iff_ne.2 (by omega)
    have e101 : ((x : Int) == 101) = false := beq_eq_false_iff_ne.2 (by omega)
    have e69 : ((x : Int) == 69) = false := beq_eq_false_iff_ne.2 (by omega)
    go_enter Tryz.func57, Tryz.ntmps57
    go_wp2
    go_ret
    exact ⟨rfl, rfl⟩
  · have hd : isD c = false := by
      cases hh : isD c
      · rfl
      · have := (isD_iff c).1 hh; omega
    have n45 : c ≠ 45 := ne_of_toNat (by simp; omega)
    have n43 : c ≠ 43 := ne_of_toNat (by simp; omega)
    have n46 : c ≠ 46 := ne_of_toNat (by simp; omega)
    have n48 : c ≠ 48 := ne_of_toNat (by simp; omega)
    have n101 : c ≠ 101 := ne_of_toNat (by simp; omega)
    have n69 : c ≠ 69 := ne_of_toNat (by simp; omega)
    have hk : Hid (beh 2 c = 0) := by show beh 2 c = 0; unfold beh; simp_all
    rw [hk.out]
    clear hk hd n45 n43 n46 n48 n101 n69
    generalize c.toNat = x at *
    have e45 : ((x : Int) == 45) = false := beq_eq_false_iff_ne.2 (by omega)
    have e43 : ((x : Int) == 43) = false := beq_eq_false_iff_ne.2 (by omega)
    have e46 : ((x : Int) == 46) = false := beq_eq_false_iff_ne.2 (by omega)
    have e48 : ((x : Int) == 48) = false := beq_eq_false_iff_ne.2 (by omega)
    have e101 : ((x : Int) == 101) = false := beq_eq_false_iff_ne.2 (by omega)
    have e69 : ((x : Int) == 69) = false := beq_eq_false_iff_ne.2 (by omega)
    go_enter Tryz.func57, Tryz.ntmps57
    go_wp2
    go_ret
    exact ⟨rfl, rfl⟩
  · have hd : isD c = false := by
      cases hh : isD c
      · rfl
      · have := (isD_iff c).1 hh; omega
    have n45 : c ≠ 45 := ne_of_toNat (by simp; omega)
    have n43 : c ≠ 43 := ne_of_toNat (by simp; omega)
    have n46 : c ≠ 46 := ne_of_toNat (by simp; omega)
    have n48 : c ≠ 48 := ne_of_toNat (by simp; omega)
    have n101 : c ≠ 101 := ne_of_toNat (by simp; omega)
    have n69 : c ≠ 69 := ne_of_toNat (by simp; omega)
    have hk : Hid (beh 2 c = 0) := by show beh 2 c = 0; unfold beh; simp_all
    rw [hk.out]
    clear hk hd n45 n43 n46 n48 n101 n69
    generalize c.toNat = x at *
    have e45 : ((x : Int) == 45) = false := beq_eq_false_iff_ne.2 (by omega)
    have e43 : ((x : Int) == 43) = false := beq_eq_false_iff_ne.2 (by omega)
    have e46 : ((x : Int) == 46) = false := beq_eq_false_iff_ne.2 (by omega)
    have e48 : ((x : Int) == 48) = false := beq_eq_false_iff_ne.2 (by omega)
    have e101 : ((x : Int) == 101) = false := beq_eq_false_iff_ne.2 (by omega)
    have e69 : ((x : Int) == 69) = false := beq_eq_false_iff_ne.2 (by omega)
    go_enter Tryz.func57, Tryz.ntmps57
    go_wp2
    go_ret
    exact ⟨rfl, rfl⟩
set_option maxRecDepth 100000 in
set_option maxHeartbeats 4000000 in
theorem behind_3 (c : UInt8) (w : World) : Calls Tryz.prog 57 #[.int .i64 3, .int .u8 (c.toNat : Int)] w fun e w' => e = .returned (.int .i64 (beh 3 c : Nat)) ∧ w' = w := by
  rcases byte_cases c with rfl | rfl | rfl | rfl | rfl | rfl | ⟨h1, h2⟩ | ⟨h1, h2, h3, h4⟩ | ⟨h1, h2, h3⟩
  · have hk : Hid (beh 3 45 = 0) := by show beh 3 45 = 0; decide
    rw [hk.out]
    go_enter Tryz.func57, Tryz.ntmps57
    go_wp2
    go_ret
    exact ⟨rfl, rfl⟩
  · have hk : Hid (beh 3 43 = 0) := by show beh 3 43 = 0; decide
    rw [hk.out]
    go_enter Tryz.func57, Tryz.ntmps57
    go_wp2
    go_ret
    exact ⟨rfl, rfl⟩
  · have hk : Hid (beh 3 46 = 4) := by show beh 3 46 = 4; decide
    rw [hk.out]
    go_enter Tryz.func57, Tryz.ntmps57
    go_wp2
    go_ret
    exact ⟨rfl, rfl⟩
  · have hk : Hid (beh 3 48 = 3) := by show beh 3 48 = 3; decide
    rw [hk.out]
    go_enter Tryz.func57, Tryz.ntmps57
    go_wp2
    go_ret
    exact ⟨rfl, rfl⟩
  · have hk : Hid (beh 3 101 = 6) := by show beh 3 101 = 6; decide
    rw [hk.out]
    go_enter Tryz.func57, Tryz.ntmps57
    go_wp2
    go_ret
    exact ⟨rfl, rfl⟩
  · have hk : Hid (beh 3 69 = 6) := by show beh 3 69 = 6; decide
    rw [hk.out]
    go_enter Tryz.func57, Tryz.ntmps57
    go_wp2
    go_ret
    exact ⟨rfl, rfl⟩
  · have hd : isD c = true := (isD_iff c).2 ⟨by omega, h2⟩
    have n45 : c ≠ 45 := ne_of_toNat (by simp; omega)
    have n43 : c ≠ 43 := ne_of_toNat (by simp; omega)
    have n46 : c ≠ 46 := ne_of_toNat (by simp; omega)
    have n48 : c ≠ 48 := ne_of_toNat (by simp; omega)
    have n101 : c ≠ 101 := ne_of_toNat (by simp; omega)
    have n69 : c ≠ 69 := ne_of_toNat (by simp; omega)
    have hk : Hid (beh 3 c = 3) := by show beh 3 c = 3; unfold beh; simp_all
    rw [hk.out]
    clear hk hd n45 n43 n46 n48 n101 n69
    generalize c.toNat = x at *
    have e45 : ((x : Int) == 45) = false := beq_eq_false_iff_ne.2 (by omega)
    have e43 : ((x : Int) == 43) = false := beq_eq_false_iff_ne.2 (by omega)
    have e46 : ((x : Int) == 46) = false := beq_eq_false_iff_ne.2 (by omega)
    have e48 : ((x : Int) == 48) = false := beq_eq_false_iff_ne.2 (by omega)
    have e101 : ((x : Int) == 101) = false := beq_eq_false_iff_ne.2 (by omega)
    have e69 : ((x : Int) == 69) = false := beq_eq_false_iff_ne.2 (by omega)
    go_enter Tryz.func57, Tryz.ntmps57
    go_wp2
    go_ret
    exact ⟨rfl, rfl⟩
  · have hd : isD c = false := by
      cases hh : isD c
      · rfl
      · have := (isD_iff c).1 hh; omega
    have n45 : c ≠ 45 := ne_of_toNat (by simp; omega)
    have n43 : c ≠ 43 := ne_of_toNat (by simp; omega)
    have n46 : c ≠ 46 := ne_of_toNat (by simp; omega)
    have n48 : c ≠ 48 := ne_of_toNat (by simp; omega)
    have n101 : c ≠ 101 := ne_of_toNat (by simp; omega)
    have n69 : c ≠ 69 := ne_of_toNat (by simp; omega)
    have hk : Hid (beh 3 c = 0) := by show beh 3 c = 0; unfold beh; simp_all
    rw [hk.out]
    clear hk hd n45 n43 n46 n48 n101 n69
    generalize c.toNat = x at *
    have e45 : ((x : Int) == 45) = false := beq_eq_false_iff_ne.2 (by omega)
    have e43 : ((x : Int) == 43) = false := beq_eq_false_iff_ne.2 (by omega)
    have e46 : ((x : Int) == 46) = false := beq_eq_false_iff_ne.2 (by omega)
    have e48 : ((x : Int) == 48) = false := beq_eq_false_iff_ne.2 (by omega)
    have e101 : ((x : Int) == 101) = false := beq_eq_false_iff_ne.2 (by omega)
    have e69 : ((x : Int) == 69) = false := beq_eq_false_iff_ne.2 (by omega)
    go_enter Tryz.func57, Tryz.ntmps57
    go_wp2
    go_ret
    exact ⟨rfl, rfl⟩
  · have hd : isD c = false := by
      cases hh : isD c
      · rfl
      · have := (isD_iff c).1 hh; omega
    have n45 : c ≠ 45 := ne_of_toNat (by simp; omega)
    have n43 : c ≠ 43 := ne_of_toNat (by simp; omega)
    have n46 : c ≠ 46 := ne_of_toNat (by simp; omega)
    have n48 : c ≠ 48 := ne_of_toNat (by simp; omega)
    have n101 : c ≠ 101 := ne_of_toNat (by simp; omega)
    have n69 : c ≠ 69 := ne_of_toNat (by simp; omega)
    have hk : Hid (beh 3 c = 0) := by show beh 3 c = 0; unfold beh; simp_all
    rw [hk.out]
    clear hk hd n45 n43 n46 n48 n101 n69
    generalize c.toNat = x at *
    have e45 : ((x : Int) == 45) = false := beq_eq_false_iff_ne.2 (by omega)
    have e43 : ((x : Int) == 43) = false := beq_eq_false_iff_ne.2 (by omega)
    have e46 : ((x : Int) == 46) = false := beq_eq_false_iff_ne.2 (by omega)
    have e48 : ((x : Int) == 48) = false := beq_eq_false_iff_ne.2 (by omega)
    have e101 : ((x : Int) == 101) = false := beq_eq_false_iff_ne.2 (by omega)
    have e69 : ((x : Int) == 69) = false := beq_eq_false_iff_ne.2 (by omega)
    go_enter Tryz.func57, Tryz.ntmps57
    go_wp2
    go_ret
    exact ⟨rfl, rfl⟩
set_option maxRecDepth 100000 in
set_option maxHeartbeats 4000000 in
theorem behind_4 (c : UInt8) (w : World) : Calls Tryz.prog 57 #[.int .i64 4, .int .u8 (c.toNat : Int)] w fun e w' => e = .returned (.int .i64 (beh 4 c : Nat)) ∧ w' = w := by
  rcases byte_cases c with rfl | rfl | rfl | rfl | rfl | rfl | ⟨h1, h2⟩ | ⟨h1, h2, h3, h4⟩ | ⟨h1, h2, h3⟩
  · have hk : Hid (beh 4 45 = 0) := by show beh 4 45 = 0; decide
    rw [hk.out]
    go_enter Tryz.func57, Tryz.ntmps57
    go_wp2
    go_ret
    exact ⟨rfl, rfl⟩
  · have hk : Hid (beh 4 43 = 0) := by show beh 4 43 = 0; decide
    rw [hk.out]
    go_enter Tryz.func57, Tryz.ntmps57
    go_wp2
    go_ret
    exact ⟨rfl, rfl⟩
  · have hk : Hid (beh 4 46 = 0) := by show beh 4 46 = 0; decide
    rw [hk.out]
    go_enter Tryz.func57, Tryz.ntmps57
    go_wp2
    go_ret
    exact ⟨rfl, rfl⟩
  · have hk : Hid (beh 4 48 = 5) := by show beh 4 48 = 5; decide
    rw [hk.out]
    go_enter Tryz.func57, Tryz.ntmps57
    go_wp2
    go_ret
    exact ⟨rfl, rfl⟩
  · have hk : Hid (beh 4 101 = 0) := by show beh 4 101 = 0; decide
    rw [hk.out]
    go_enter Tryz.func57, Tryz.ntmps57
    go_wp2
    go_ret
    exact ⟨rfl, rfl⟩
  · have hk : Hid (beh 4 69 = 0) := by show beh 4 69 = 0; decide
    rw [hk.out]
    go_enter Tryz.func57, Tryz.ntmps57
    go_wp2
    go_ret
    exact ⟨rfl, rfl⟩
  · have hd : isD c = true := (isD_iff c).2 ⟨by omega, h2⟩
    have n45 : c ≠ 45 := ne_of_toNat (by simp; omega)
    have n43 : c ≠ 43 := ne_of_toNat (by simp; omega)
    have n46 : c ≠ 46 := ne_of_toNat (by simp; omega)
    have n48 : c ≠ 48 := ne_of_toNat (by simp; omega)
    have n101 : c ≠ 101 := ne_of_toNat (by simp; omega)
    have n69 : c ≠ 69 := ne_of_toNat (by simp; omega)
    have hk : Hid (beh 4 c = 5) := by show beh 4 c = 5; unfold beh; simp_all
    rw [hk.out]
    clear hk hd n45 n43 n46 n48 n101 n69
    generalize c.toNat = x at *
    have e45 : ((x : Int) == 45) = false := beq_eq_false_iff_ne.2 (by omega)
    have e43 : ((x : Int) == 43) = false := beq_eq_false_iff_ne.2 (by omega)
    have e46 : ((x : Int) == 46) = false := beq_eq_false_iff_ne.2 (by omega)
    have e48 : ((x : Int) == 48) = false := beq_eq_false_iff_ne.2 (by omega)
    have e101 : ((x : Int) == 101) = false := beq_eq_false_iff_ne.2 (by omega)
    have e69 : ((x : Int) == 69) = false := beq_eq_false_iff_ne.2 (by omega)
    go_enter Tryz.func57, Tryz.ntmps57
    go_wp2
    go_ret
    exact ⟨rfl, rfl⟩
  · have hd : isD c = false := by
      cases hh : isD c
      · rfl
      · have := (isD_iff c).1 hh; omega
    have n45 : c ≠ 45 := ne_of_toNat (by simp; omega)
    have n43 : c ≠ 43 := ne_of_toNat (by simp; omega)
    have n46 : c ≠ 46 := ne_of_toNat (by simp; omega)
    have n48 : c ≠ 48 := ne_of_toNat (by simp; omega)
    have n101 : c ≠ 101 := ne_of_toNat (by simp; omega)
    have n69 : c ≠ 69 := ne_of_toNat (by simp; omega)
    have hk : Hid (beh 4 c = 0) := by show beh 4 c = 0; unfold beh; simp_all
    rw [hk.out]
    clear hk hd n45 n43 n46 n48 n101 n69
    generalize c.toNat = x at *
    have e45 : ((x : Int) == 45) = false := beq_eq_false_iff_ne.2 (by omega)
    have e43 : ((x : Int) == 43) = false := beq_eq_false_iff_ne.2 (by omega)
    have e46 : ((x : Int) == 46) = false := beq_eq_false_iff_ne.2 (by omega)
    have e48 : ((x : Int) == 48) = false := beq_eq_false_iff_ne.2 (by omega)
    have e101 : ((x : Int) == 101) = false := beq_eq_false_iff_ne.2 (by omega)
    have e69 : ((x : Int) == 69) = false := beq_eq_false_iff_ne.2 (by omega)
    go_enter Tryz.func57, Tryz.ntmps57
    go_wp2
    go_ret
    exact ⟨rfl, rfl⟩
  · have hd : isD c = false := by
      cases hh : isD c
      · rfl
      · have := (isD_iff c).1 hh; omega
    have n45 : c ≠ 45 := ne_of_toNat (by simp; omega)
    have n43 : c ≠ 43 := ne_of_toNat (by simp; omega)
    have n46 : c ≠ 46 := ne_of_toNat (by simp; omega)
    have n48 : c ≠ 48 := ne_of_toNat (by simp; omega)
    have n101 : c ≠ 101 := ne_of_toNat (by simp; omega)
    have n69 : c ≠ 69 := ne_of_toNat (by simp; omega)
    have hk : Hid (beh 4 c = 0) := by show beh 4 c = 0; unfold beh; simp_all
    rw [hk.out]
    clear hk hd n45 n43 n46 n48 n101 n69
    generalize c.toNat = x at *
    have e45 : ((x : Int) == 45) = false := beq_eq_false_iff_ne.2 (by omega)
    have e43 : ((x : Int) == 43) = false := beq_eq_false_iff_ne.2 (by omega)
    have e46 : ((x : Int) == 46) = false := beq_eq_false_iff_ne.2 (by omega)
    have e48 : ((x : Int) == 48) = false := beq_eq_false_iff_ne.2 (by omega)
    have e101 : ((x : Int) == 101) = false := beq_eq_false_iff_ne.2 (by omega)
    have e69 : ((x : Int) == 69) = false := beq_eq_false_iff_ne.2 (by omega)
    go_enter Tryz.func57, Tryz.ntmps57
    go_wp2
    go_ret
    exact ⟨rfl, rfl⟩
set_option maxRecDepth 100000 in
set_option maxHeartbeats 4000000 in
theorem behind_5 (c : UInt8) (w : World) : Calls Tryz.prog 57 #[.int .i64 5, .int .u8 (c.toNat : Int)] w fun e w' => e = .returned (.int .i64 (beh 5 c : Nat)) ∧ w' = w := by
  rcases byte_cases c with rfl | rfl | rfl | rfl | rfl | rfl | ⟨h1, h2⟩ | ⟨h1, h2, h3, h4⟩ | ⟨h1, h2, h3⟩
  · have hk : Hid (beh 5 45 = 0) := by show beh 5 45 = 0; decide
    rw [hk.out]
    go_enter Tryz.func57, Tryz.ntmps57
    go_wp2
    go_ret
    exact ⟨rfl, rfl⟩
  · have hk : Hid (beh 5 43 = 0) := by show beh 5 43 = 0; decide
    rw [hk.out]
    go_enter Tryz.func57, Tryz.ntmps57
    go_wp2
    go_ret
    exact ⟨rfl, rfl⟩
  · have hk : Hid (beh 5 46 = 0) := by show beh 5 46 = 0; decide
    rw [hk.out]
    go_enter Tryz.func57, Tryz.ntmps57
    go_wp2
    go_ret
    exact ⟨rfl, rfl⟩
  · have hk : Hid (beh 5 48 = 5) := by show beh 5 48 = 5; decide
    rw [hk.out]
    go_enter Tryz.func57, Tryz.ntmps57
    go_wp2
    go_ret
    exact ⟨rfl, rfl⟩
  · have hk : Hid (beh 5 101 = 6) := by show beh 5 101 = 6; decide
    rw [hk.out]
    go_enter Tryz.func57, Tryz.ntmps57
    go_wp2
    go_ret
    exact ⟨rfl, rfl⟩
  · have hk : Hid (beh 5 69 = 6) := by show beh 5 69 = 6; decide
    rw [hk.out]
    go_enter Tryz.func57, Tryz.ntmps57
    go_wp2
    go_ret
    exact ⟨rfl, rfl⟩
  · have hd : isD c = true := (isD_iff c).2 ⟨by omega, h2⟩
    have n45 : c ≠ 45 := ne_of_toNat (by simp; omega)
    have n43 : c ≠ 43 := ne_of_toNat (by simp; omega)
    have n46 : c ≠ 46 := ne_of_toNat (by simp; omega)
    have n48 : c ≠ 48 := ne_of_toNat (by simp; omega)
    have n101 : c ≠ 101 := ne_of_toNat (by simp; omega)
    have n69 : c ≠ 69 := ne_of_toNat (by simp; omega)
    have hk : Hid (beh 5 c = 5) := by show beh 5 c = 5; unfold beh; simp_all
    rw [hk.out]
    clear hk hd n45 n43 n46 n48 n101 n69
    generalize c.toNat = x at *
    have e45 : ((x : Int) == 45) = false := beq_eq_false_iff_ne.2 (by omega)
    have e43 : ((x : Int) == 43) = false := beq_eq_false_iff_ne.2 (by omega)
    have e46 : ((x : Int) == 46) = false := beq_eq_false_iff_ne.2 (by omega)
    have e48 : ((x : Int) == 48) = false := beq_eq_false_iff_ne.2 (by omega)
    have e101 : ((x : Int) == 101) = false := beq_eq_false_iff_ne.2 (by omega)
    have e69 : ((x : Int) == 69) = false := beq_eq_false_iff_ne.2 (by omega)
    go_enter Tryz.func57, Tryz.ntmps57
    go_wp2
    go_ret
    exact ⟨rfl, rfl⟩
  · have hd : isD c = false := by
      cases hh : isD c
      · rfl
      · have := (isD_iff c).1 hh; omega
    have n45 : c ≠ 45 := ne_of_toNat (by simp; omega)
    have n43 : c ≠ 43 := ne_of_toNat (by simp; omega)
    have n46 : c ≠ 46 := ne_of_toNat (by simp; omega)
    have n48 : c ≠ 48 := ne_of_toNat (by simp; omega)
    have n101 : c ≠ 101 := ne_of_toNat (by simp; omega)
    have n69 : c ≠ 69 := ne_of_toNat (by simp; omega)
    have hk : Hid (beh 5 c = 0) := by show beh 5 c = 0; unfold beh; simp_all
    rw [hk.out]
    clear hk hd n45 n43 n46 n48 n101 n69
    generalize c.toNat = x at *
    have e45 : ((x : Int) == 45) = false := beq_eq_false_iff_ne.2 (by omega)
    have e43 : ((x : Int) == 43) = false := beq_eq_false_iff_ne.2 (by omega)
    have e46 : ((x : Int) == 46) = false := beq_eq_false_iff_ne.2 (by omega)
    have e48 : ((x : Int) == 48) = false := beq_eq_false_iff_ne.2 (by omega)
    have e101 : ((x : Int) == 101) = false := beq_eq_false_iff_ne.2 (by omega)
    have e69 : ((x : Int) == 69) = false := beq_eq_false_iff_ne.2 (by omega)
    go_enter Tryz.func57, Tryz.ntmps57
    go_wp2
    go_ret
    exact ⟨rfl, rfl⟩
  · have hd : isD c = false := by
      cases hh : isD c
      · rfl
      · have := (isD_iff c).1 hh; omega
    have n45 : c ≠ 45 := ne_of_toNat (by simp; omega)
    have n43 : c ≠ 43 := ne_of_toNat (by simp; omega)
    have n46 : c ≠ 46 := ne_of_toNat (by simp; omega)
    have n48 : c ≠ 48 := ne_of_toNat (by simp; omega)
    have n101 : c ≠ 101 := ne_of_toNat (by simp; omega)
    have n69 : c ≠ 69 := ne_of_toNat (by simp; omega)
    have hk : Hid (beh 5 c = 0) := by show beh 5 c = 0; unfold beh; simp_all
    rw [hk.out]
    clear hk hd n45 n43 n46 n48 n101 n69
    generalize c.toNat = x at *
    have e45 : ((x : Int) == 45) = false := beq_eq_false_iff_ne.2 (by omega)
    have e43 : ((x : Int) == 43) = false := beq_eq_false_iff_ne.2 (by omega)
    have e46 : ((x : Int) == 46) = false := beq_eq_false_iff_ne.2 (by omega)
    have e48 : ((x : Int) == 48) = false := beq_eq_false_iff_ne.2 (by omega)
    have e101 : ((x : Int) == 101) = false := beq_eq_false_iff_ne.2 (by omega)
    have e69 : ((x : Int) == 69) = false := beq_eq_false_iff_ne.2 (by omega)
    go_enter Tryz.func57, Tryz.ntmps57
    go_wp2
    go_ret
    exact ⟨rfl, rfl⟩
set_option maxRecDepth 100000 in
set_option maxHeartbeats 4000000 in
theorem behind_6 (c : UInt8) (w : World) : Calls Tryz.prog 57 #[.int .i64 6, .int .u8 (c.toNat : Int)] w fun e w' => e = .returned (.int .i64 (beh 6 c : Nat)) ∧ w' = w := by
  rcases byte_cases c with rfl | rfl | rfl | rfl | rfl | rfl | ⟨h1, h2⟩ | ⟨h1, h2, h3, h4⟩ | ⟨h1, h2, h3⟩
  · have hk : Hid (beh 6 45 = 7) := by show beh 6 45 = 7; decide
    rw [hk.out]
    go_enter Tryz.func57, Tryz.ntmps57
    go_wp2
    go_ret
    exact ⟨rfl, rfl⟩
  · have hk : Hid (beh 6 43 = 7) := by show beh 6 43 = 7; decide
    rw [hk.out]
    go_enter Tryz.func57, Tryz.ntmps57
    go_wp2
    go_ret
    exact ⟨rfl, rfl⟩
  · have hk : Hid (beh 6 46 = 0) := by show beh 6 46 = 0; decide
    rw [hk.out]
    go_enter Tryz.func57, Tryz.ntmps57
    go_wp2
    go_ret
    exact ⟨rfl, rfl⟩
  · have hk : Hid (beh 6 48 = 8) := by show beh 6 48 = 8; decide
    rw [hk.out]
    go_enter Tryz.func57, Tryz.ntmps57
    go_wp2
    go_ret
    exact ⟨rfl, rfl⟩
  · have hk : Hid (beh 6 101 = 0) := by show beh 6 101 = 0; decide
    rw [hk.out]
    go_enter Tryz.func57, Tryz.ntmps57
    go_wp2
    go_ret
    exact ⟨rfl, rfl⟩
  · have hk : Hid (beh 6 69 = 0) := by show beh 6 69 = 0; decide
    rw [hk.out]
    go_enter Tryz.func57, Tryz.ntmps57
    go_wp2
    go_ret
    exact ⟨rfl, rfl⟩
  · have hd : isD c = true := (isD_iff c).2 ⟨by omega, h2⟩
    have n45 : c ≠ 45 := ne_of_toNat (by simp; omega)
    have n43 : c ≠ 43 := ne_of_toNat (by simp; omega)
    have n46 : c ≠ 46 := ne_of_toNat (by simp; omega)
    have n48 : c ≠ 48 := ne_of_toNat (by simp; omega)
    have n101 : c ≠ 101 := ne_of_toNat (by simp; omega)
    have n69 : c ≠ 69 := ne_of_toNat (by simp; omega)
    have hk : Hid (beh 6 c = 8) := by show beh 6 c = 8; unfold beh; simp_all
    rw [hk.out]
    clear hk hd n45 n43 n46 n48 n101 n69
    generalize c.toNat = x at *
    have e45 : ((x : Int) == 45) = false := beq_eq_false_iff_ne.2 (by omega)
    have e43 : ((x : Int) == 43) = false := beq_eq_false_iff_ne.2 (by omega)
    have e46 : ((x : Int) == 46) = false := beq_eq_false_iff_ne.2 (by omega)
    have e48 : ((x : Int) == 48) = false := beq_eq_false_iff_ne.2 (by omega)
    have e101 : ((x : Int) == 101) = false := beq_eq_false_iff_ne.2 (by omega)
    have e69 : ((x : Int) == 69) = false := beq_eq_false_iff_ne.2 (by omega)
    go_enter Tryz.func57, Tryz.ntmps57
    go_wp2
    go_ret
    exact ⟨rfl, rfl⟩
  · have hd : isD c = false := by
      cases hh : isD c
      · rfl
      · have := (isD_iff c).1 hh; omega
    have n45 : c ≠ 45 := ne_of_toNat (by simp; omega)
    have n43 : c ≠ 43 := ne_of_toNat (by simp; omega)
    have n46 : c ≠ 46 := ne_of_toNat (by simp; omega)
    have n48 : c ≠ 48 := ne_of_toNat (by simp; omega)
    have n101 : c ≠ 101 := ne_of_toNat (by simp; omega)
    have n69 : c ≠ 69 := ne_of_toNat (by simp; omega)
    have hk : Hid (beh 6 c = 0) := by show beh 6 c = 0; unfold beh; simp_all
    rw [hk.out]
    clear hk hd n45 n43 n46 n48 n101 n69
    generalize c.toNat = x at *
    have e45 : ((x : Int) == 45) = false := beq_eq_false_iff_ne.2 (by omega)
    have e43 : ((x : Int) == 43) = false := beq_eq_false_iff_ne.2 (by omega)
    have e46 : ((x : Int) == 46) = false := beq_eq_false_iff_ne.2 (by omega)
    have e48 : ((x : Int) == 48) = false := beq_eq_false_iff_ne.2 (by omega)
    have e101 : ((x : Int) == 101) = false := beq_eq_false_iff_ne.2 (by omega)
    have e69 : ((x : Int) == 69) = false := beq_eq_false_iff_ne.2 (by omega)
    go_enter Tryz.func57, Tryz.ntmps57
    go_wp2
    go_ret
    exact ⟨rfl, rfl⟩
  · have hd : isD c = false := by
      cases hh : isD c
      · rfl
      · have := (isD_iff c).1 hh; omega
    have n45 : c ≠ 45 := ne_of_toNat (by simp; omega)
    have n43 : c ≠ 43 := ne_of_toNat (by simp; omega)
    have n46 : c ≠ 46 := ne_of_toNat (by simp; omega)
    have n48 : c ≠ 48 := ne_of_toNat (by simp; omega)
    have n101 : c ≠ 101 := ne_of_toNat (by simp; omega)
    have n69 : c ≠ 69 := ne_of_toNat (by simp; omega)
    have hk : Hid (beh 6 c = 0) := by show beh 6 c = 0; unfold beh; simp_all
    rw [hk.out]
    clear hk hd n45 n43 n46 n48 n101 n69
    generalize c.toNat = x at *
    have e45 : ((x : Int) == 45) = false := beq_eq_false_iff_ne.2 (by omega)
    have e43 : ((x : Int) == 43) = false := beq_eq_false_iff_ne.2 (by omega)
    have e46 : ((x : Int) == 46) = false := beq_eq_false_iff_ne.2 (by omega)
    have e48 : ((x : Int) == 48) = false := beq_eq_false_iff_ne.2 (by omega)
    have e101 : ((x : Int) == 101) = false := beq_eq_false_iff_ne.2 (by omega)
    have e69 : ((x : Int) == 69) = false := beq_eq_false_iff_ne.2 (by omega)
    go_enter Tryz.func57, Tryz.ntmps57
    go_wp2
    go_ret
    exact ⟨rfl, rfl⟩
set_option maxRecDepth 100000 in
set_option maxHeartbeats 4000000 in
theorem behind_7 (c : UInt8) (w : World) : Calls Tryz.prog 57 #[.int .i64 7, .int .u8 (c.toNat : Int)] w fun e w' => e = .returned (.int .i64 (beh 7 c : Nat)) ∧ w' = w := by
  rcases byte_cases c with rfl | rfl | rfl | rfl | rfl | rfl | ⟨h1, h2⟩ | ⟨h1, h2, h3, h4⟩ | ⟨h1, h2, h3⟩
  · have hk : Hid (beh 7 45 = 0) := by show beh 7 45 = 0; decide
    rw [hk.out]
    go_enter Tryz.func57, Tryz.ntmps57
    go_wp2
    go_ret
    exact ⟨rfl, rfl⟩
  · have hk : Hid (beh 7 43 = 0) := by show beh 7 43 = 0; decide
    rw [hk.out]
    go_enter Tryz.func57, Tryz.ntmps57
    go_wp2
    go_ret
    exact ⟨rfl, rfl⟩
  · have hk : Hid (beh 7 46 = 0) := by show beh 7 46 = 0; decide
    rw [hk.out]
    go_enter Tryz.func57, Tryz.ntmps57
    go_wp2
    go_ret
    exact ⟨rfl, rfl⟩
  · have hk : Hid (beh 7 48 = 8) := by show beh 7 48 = 8; decide
    rw [hk.out]
    go_enter Tryz.func57, Tryz.ntmps57
    go_wp2
    go_ret
    exact ⟨rfl, rfl⟩
  · have hk : Hid (beh 7 101 = 0) := by show beh 7 101 = 0; decide
    rw [hk.out]
    go_enter Tryz.func57, Tryz.ntmps57
    go_wp2
    go_ret
    exact ⟨rfl, rfl⟩
  · have hk : Hid (beh 7 69 = 0) := by show beh 7 69 = 0; decide
    rw [hk.out]
    go_enter Tryz.func57, Tryz.ntmps57
    go_wp2
    go_ret
    exact ⟨rfl, rfl⟩
  · have hd : isD c = true := (isD_iff c).2 ⟨by omega, h2⟩
    have n45 : c ≠ 45 := ne_of_toNat (by simp; omega)
    have n43 : c ≠ 43 := ne_of_toNat (by simp; omega)
    have n46 : c ≠ 46 := ne_of_toNat (by simp; omega)
    have n48 : c ≠ 48 := ne_of_toNat (by simp; omega)
    have n101 : c ≠ 101 := ne_of_toNat (by simp; omega)
    have n69 : c ≠ 69 := ne_of_toNat (by simp; omega)
    have hk : Hid (beh 7 c = 8) := by show beh 7 c = 8; unfold beh; simp_all
    rw [hk.out]
    clear hk hd n45 n43 n46 n48 n101 n69
    generalize c.toNat = x at *
    have e45 : ((x : Int) == 45) = false := beq_eq_false_iff_ne.2 (by omega)
    have e43 : ((x : Int) == 43) = false := beq_eq_false_iff_ne.2 (by omega)
    have e46 : ((x : Int) == 46) = false := beq_eq_false_iff_ne.2 (by omega)
    have e48 : ((x : Int) == 48) = false := beq_eq_false_iff_ne.2 (by omega)
    have e101 : ((x : Int) == 101) = false := beq_eq_false_iff_ne.2 (by omega)
    have e69 : ((x : Int) == 69) = false := beq_eq_false_iff_ne.2 (by omega)
    go_enter Tryz.func57, Tryz.ntmps57
    go_wp2
    go_ret
    exact ⟨rfl, rfl⟩
  · have hd : isD c = false := by
      cases hh : isD c
      · rfl
      · have := (isD_iff c).1 hh; omega
    have n45 : c ≠ 45 := ne_of_toNat (by simp; omega)
    have n43 : c ≠ 43 := ne_of_toNat (by simp; omega)
    have n46 : c ≠ 46 := ne_of_toNat (by simp; omega)
    have n48 : c ≠ 48 := ne_of_toNat (by simp; omega)
    have n101 : c ≠ 101 := ne_of_toNat (by simp; omega)
    have n69 : c ≠ 69 := ne_of_toNat (by simp; omega)
    have hk : Hid (beh 7 c = 0) := by show beh 7 c = 0; unfold beh; simp_all
    rw [hk.out]
    clear hk hd n45 n43 n46 n48 n101 n69
    generalize c.toNat = x at *
    have e45 : ((x : Int) == 45) = false := beq_eq_false_iff_ne.2 (by omega)
    have e43 : ((x : Int) == 43) = false := beq_eq_false_iff_ne.2 (by omega)
    have e46 : ((x : Int) == 46) = false := beq_eq_false_iff_ne.2 (by omega)
    have e48 : ((x : Int) == 48) = false := beq_eq_false_iff_ne.2 (by omega)
    have e101 : ((x : Int) == 101) = false := beq_eq_false_iff_ne.2 (by omega)
    have e69 : ((x : Int) == 69) = false := beq_eq_false_iff_ne.2 (by omega)
    go_enter Tryz.func57, Tryz.ntmps57
    go_wp2
    go_ret
    exact ⟨rfl, rfl⟩
  · have hd : isD c = false := by
      cases hh : isD c
      · rfl
      · have := (isD_iff c).1 hh; omega
    have n45 : c ≠ 45 := ne_of_toNat (by simp; omega)
    have n43 : c ≠ 43 := ne_of_toNat (by simp; omega)
    have n46 : c ≠ 46 := ne_of_toNat (by simp; omega)
    have n48 : c ≠ 48 := ne_of_toNat (by simp; omega)
    have n101 : c ≠ 101 := ne_of_toNat (by simp; omega)
    have n69 : c ≠ 69 := ne_of_toNat (by simp; omega)
    have hk : Hid (beh 7 c = 0) := by show beh 7 c = 0; unfold beh; simp_all
    rw [hk.out]
    clear hk hd n45 n43 n46 n48 n101 n69
    generalize c.toNat = x at *
    have e45 : ((x : Int) == 45) = false := beq_eq_false_iff_ne.2 (by omega)
    have e43 : ((x : Int) == 43) = false := beq_eq_false_iff_ne.2 (by omega)
    have e46 : ((x : Int) == 46) = false := beq_eq_false_iff_ne.2 (by omega)
    have e48 : ((x : Int) == 48) = false := beq_eq_false_iff_ne.2 (by omega)
    have e101 : ((x : Int) == 101) = false := beq_eq_false_iff_ne.2 (by omega)
    have e69 : ((x : Int) == 69) = false := beq_eq_false_iff_ne.2 (by omega)
    go_enter Tryz.func57, Tryz.ntmps57
    go_wp2
    go_ret
    exact ⟨rfl, rfl⟩
set_option maxRecDepth 100000 in
set_option maxHeartbeats 4000000 in
theorem behind_8 (c : UInt8) (w : World) : Calls Tryz.prog 57 #[.int .i64 8, .int .u8 (c.toNat : Int)] w fun e w' => e = .returned (.int .i64 (beh 8 c : Nat)) ∧ w' = w := by
  rcases byte_cases c with rfl | rfl | rfl | rfl | rfl | rfl | ⟨h1, h2⟩ | ⟨h1, h2, h3, h4⟩ | ⟨h1, h2, h3⟩
  · have hk : Hid (beh 8 45 = 0) := by show beh 8 45 = 0; decide
    rw [hk.out]
    go_enter Tryz.func57, Tryz.ntmps57
    go_wp2
    go_ret
    exact ⟨rfl, rfl⟩
  · have hk : Hid (beh 8 43 = 0) := by show beh 8 43 = 0; decide
    rw [hk.out]
    go_enter Tryz.func57, Tryz.ntmps57
    go_wp2
    go_ret
    exact ⟨rfl, rfl⟩
  · have hk : Hid (beh 8 46 = 0) := by show beh 8 46 = 0; decide
    rw [hk.out]
    go_enter Tryz.func57, Tryz.ntmps57
    go_wp2
    go_ret
    exact ⟨rfl, rfl⟩
  · have hk : Hid (beh 8 48 = 8) := by show beh 8 48 = 8; decide
    rw [hk.out]
    go_enter Tryz.func57, Tryz.ntmps57
    go_wp2
    go_ret
    exact ⟨rfl, rfl⟩
  · have hk : Hid (beh 8 101 = 0) := by show beh 8 101 = 0; decide
    rw [hk.out]
    go_enter Tryz.func57, Tryz.ntmps57
    go_wp2
    go_ret
    exact ⟨rfl, rfl⟩
  · have hk : Hid (beh 8 69 = 0) := by show beh 8 69 = 0; decide
    rw [hk.out]
    go_enter Tryz.func57, Tryz.ntmps57
    go_wp2
    go_ret
    exact ⟨rfl, rfl⟩
  · have hd : isD c = true := (isD_iff c).2 ⟨by omega, h2⟩
    have n45 : c ≠ 45 := ne_of_toNat (by simp; omega)
    have n43 : c ≠ 43 := ne_of_toNat (by simp; omega)
    have n46 : c ≠ 46 := ne_of_toNat (by simp; omega)
    have n48 : c ≠ 48 := ne_of_toNat (by simp; omega)
    have n101 : c ≠ 101 := ne_of_toNat (by simp; omega)
    have n69 : c ≠ 69 := ne_of_toNat (by simp; omega)
    have hk : Hid (beh 8 c = 8) := by show beh 8 c = 8; unfold beh; simp_all
    rw [hk.out]
    clear hk hd n45 n43 n46 n48 n101 n69
    generalize c.toNat = x at *
    have e45 : ((x : Int) == 45) = false := beq_eq_false_iff_ne.2 (by omega)
    have e43 : ((x : Int) == 43) = false := beq_eq_false_iff_ne.2 (by omega)
    have e46 : ((x : Int) == 46) = false := beq_eq_false_iff_ne.2 (by omega)
    have e48 : ((x : Int) == 48) = false := beq_eq_false_iff_ne.2 (by omega)
    have e101 : ((x : Int) == 101) = false := beq_eq_false_iff_ne.2 (by omega)
    have e69 : ((x : Int) == 69) = false := beq_eq_false_iff_ne.2 (by omega)
    go_enter Tryz.func57, Tryz.ntmps57
    go_wp2
    go_ret
    exact ⟨rfl, rfl⟩
  · have hd : isD c = false := by
      cases hh : isD c
      · rfl
      · have := (isD_iff c).1 hh; omega
    have n45 : c ≠ 45 := ne_of_toNat (by simp; omega)
    have n43 : c ≠ 43 := ne_of_toNat (by simp; omega)
    have n46 : c ≠ 46 := ne_of_toNat (by simp; omega)
    have n48 : c ≠ 48 := ne_of_toNat (by simp; omega)
    have n101 : c ≠ 101 := ne_of_toNat (by simp; omega)
    have n69 : c ≠ 69 := ne_of_toNat (by simp; omega)
    have hk : Hid (beh 8 c = 0) := by show beh 8 c = 0; unfold beh; simp_all
    rw [hk.out]
    clear hk hd n45 n43 n46 n48 n101 n69
    generalize c.toNat = x at *
    have e45 : ((x : Int) == 45) = false := beq_eq_false_iff_ne.2 (by omega)
    have e43 : ((x : Int) == 43) = false := beq_eq_false_iff_ne.2 (by omega)
    have e46 : ((x : Int) == 46) = false := beq_eq_false_iff_ne.2 (by omega)
    have e48 : ((x : Int) == 48) = false := beq_eq_false_iff_ne.2 (by omega)
    have e101 : ((x : Int) == 101) = false := beq_eq_false_iff_ne.2 (by omega)
    have e69 : ((x : Int) == 69) = false := beq_eq_false_iff_ne.2 (by omega)
    go_enter Tryz.func57, Tryz.ntmps57
    go_wp2
    go_ret
    exact ⟨rfl, rfl⟩
  · have hd : isD c = false := by
      cases hh : isD c
      · rfl
      · have := (isD_iff c).1 hh; omega
    have n45 : c ≠ 45 := ne_of_toNat (by simp; omega)
    have n43 : c ≠ 43 := ne_of_toNat (by simp; omega)
    have n46 : c ≠ 46 := ne_of_toNat (by simp; omega)
    have n48 : c ≠ 48 := ne_of_toNat (by simp; omega)
    have n101 : c ≠ 101 := ne_of_toNat (by simp; omega)
    have n69 : c ≠ 69 := ne_of_toNat (by simp; omega)
    have hk : Hid (beh 8 c = 0) := by show beh 8 c = 0; unfold beh; simp_all
    rw [hk.out]
    clear hk hd n45 n43 n46 n48 n101 n69
    generalize c.toNat = x at *
    have e45 : ((x : Int) == 45) = false := beq_eq_false_iff_ne.2 (by omega)
    have e43 : ((x : Int) == 43) = false := beq_eq_false_iff_ne.2 (by omega)
    have e46 : ((x : Int) == 46) = false := beq_eq_false_iff_ne.2 (by omega)
    have e48 : ((x : Int) == 48) = false := beq_eq_false_iff_ne.2 (by omega)
    have e101 : ((x : Int) == 101) = false := beq_eq_false_iff_ne.2 (by omega)
    have e69 : ((x : Int) == 69) = false := beq_eq_false_iff_ne.2 (by omega)
    go_enter Tryz.func57, Tryz.ntmps57
    go_wp2
    go_ret
    exact ⟨rfl, rfl⟩
theorem behind_any (s : Nat) (hs : s ≤ 8) (c : UInt8) (w : World) : Calls Tryz.prog 57 #[.int .i64 (s : Int), .int .u8 (c.toNat : Int)] w fun e w' => e = .returned (.int .i64 (beh s c : Nat)) ∧ w' = w := by
  obtain rfl | rfl | rfl | rfl | rfl | rfl | rfl | rfl | rfl : s = 0 ∨ s = 1 ∨ s = 2 ∨ s = 3 ∨ s = 4 ∨ s = 5 ∨ s = 6 ∨ s = 7 ∨ s = 8 := by omega
  · exact behind_0 c w
  · exact behind_1 c w
  · exact behind_2 c w
  · exact behind_3 c w
  · exact behind_4 c w
  · exact behind_5 c w
  · exact behind_6 c w
  · exact behind_7 c w
  · exact behind_8 c w
end Go.Proofs.YtmkkibaacclhnaaGreatDoor
