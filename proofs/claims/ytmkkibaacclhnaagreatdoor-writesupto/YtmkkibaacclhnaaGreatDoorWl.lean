/-
  A step of the walk, the part named Wl. No theorem of the row.
-/
import Derived.Test.YtmkkibaacclhnaaGreatDoorWk
namespace Go.Proofs.YtmkkibaacclhnaaGreatDoor
open Go.RowKit

/-- may an item be, by itself -/
def goodI (x : Im) : Bool :=
  if x.k = 0 ∨ x.k = 1 ∨ x.k = 2 then decide (x.n = 0) && decide (x.b = 0) && x.s.isEmpty
  else if x.k = 3 then decide (x.n = 0) && x.s.isEmpty && decide (x.b % 9223372036854775808 < 9218868437227405312)
  else if x.k = 4 then decide (x.n = 0) && decide (x.b = 0) && isU x.s
  else if x.k = 5 ∨ x.k = 6 then decide (0 ≤ x.n) && decide (x.b = 0) && x.s.isEmpty
  else false
theorem empty_list (s : List UInt8) : (ofL s).toList.isEmpty = s.isEmpty := by rw [ofL_toList]
theorem empty_beq (s : List UInt8) : ((ofL s).toList == (ByteArray.mk #[]).toList) = s.isEmpty := by
  rw [ofL_toList, show (ByteArray.mk #[]).toList = [] from ofL_toList []]
  cases s <;> rfl
set_option maxRecDepth 100000 in
set_option maxHeartbeats 8000000 in
theorem good_0 (n : Int) (b : Nat) (s : List UInt8) (w : World) : Calls Tryz.prog 76 #[.agg #[.int .i64 0, .int .i64 n, .int .u64 (b : Int), .string (ofL s)]] w fun x w' => x = .returned (.bool (decide (n = 0) && decide (b = 0) && s.isEmpty)) ∧ Fr (fun _ => False) w w' := by
  have HF := hid (fun o => (Fr.refl (fun _ => False) w).alloc o)
  have hs1 := empty_list s
  by_cases hn : n = 0
  · subst hn
    by_cases hb : b = 0
    · subst hb
      by_cases hs : s.isEmpty = true
      · have hs2 : ((ofL s).toList == (ByteArray.mk #[]).toList) = true := by rw [empty_beq]; exact hs
        go_enter Tryz.func76, Tryz.ntmps76
        go_wp2
        go_ret
        exact ⟨by simp [*], HF.out _⟩
      · have hs2 : ((ofL s).toList == (ByteArray.mk #[]).toList) = false := by rw [empty_beq]; simpa using hs
        go_enter Tryz.func76, Tryz.ntmps76
        go_wp2
        go_ret
        exact ⟨by simp [*], HF.out _⟩
    · have hb2 : ((b : Int) == 0) = false := beq_eq_false_iff_ne.2 (by omega)
      by_cases hs : s.isEmpty = true
      · have hs2 : ((ofL s).toList == (ByteArray.mk #[]).toList) = true := by rw [empty_beq]; exact hs
        go_enter Tryz.func76, Tryz.ntmps76
        go_wp2
        go_ret
        exact ⟨by simp [*], HF.out _⟩
      · have hs2 : ((ofL s).toList == (ByteArray.mk #[]).toList) = false := by rw [empty_beq]; simpa using hs
        go_enter Tryz.func76, Tryz.ntmps76
        go_wp2
        go_ret
        exact ⟨by simp [*], HF.out _⟩
  · have hn2 : (n == 0) = false := beq_eq_false_iff_ne.2 hn
    by_cases hb : b = 0
    · subst hb
      by_cases hs : s.isEmpty = true
      · have hs2 : ((ofL s).toList == (ByteArray.mk #[]).toList) = true := by rw [empty_beq]; exact hs
        go_enter Tryz.func76, Tryz.ntmps76
        go_wp2
        go_ret
        exact ⟨by simp [*], HF.out _⟩
      · have hs2 : ((ofL s).toList == (ByteArray.mk #[]).toList) = false := by rw [empty_beq]; simpa using hs
        go_enter Tryz.func76, Tryz.ntmps76
        go_wp2
        go_ret
        exact ⟨by simp [*], HF.out _⟩
    · have hb2 : ((b : Int) == 0) = false := beq_eq_false_iff_ne.2 (by omega)
      by_cases hs : s.isEmpty = true
      · have hs2 : ((ofL s).toList == (ByteArray.mk #[]).toList) = true := by rw [empty_beq]; exact hs
        go_enter Tryz.func76, Tryz.ntmps76
        go_wp2
        go_ret
        exact ⟨by simp [*], HF.out _⟩
      · have hs2 : ((ofL s).toList == (ByteArray.mk #[]).toList) = false := by rw [empty_beq]; simpa using hs
        go_enter Tryz.func76, Tryz.ntmps76
        go_wp2
        go_ret
        exact ⟨by simp [*], HF.out _⟩
set_option maxRecDepth 100000 in
set_option maxHeartbeats 8000000 in
theorem good_1 (n : Int) (b : Nat) (s : List UInt8) (w : World) : Calls Tryz.prog 76 #[.agg #[.int .i64 1, .int .i64 n, .int .u64 (b : Int), .string (ofL s)]] w fun x w' => x = .returned (.bool (decide (n = 0) && decide (b = 0) && s.isEmpty)) ∧ Fr (fun _ => False) w w' := by
  have HF := hid (fun o => (Fr.refl (fun _ => False) w).alloc o)
  have hs1 := empty_list s
  by_cases hn : n = 0
  · subst hn
    by_cases hb : b = 0
    · subst hb
      by_cases hs : s.isEmpty = true
      · have hs2 : ((ofL s).toList == (ByteArray.mk #[]).toList) = true := by rw [empty_beq]; exact hs
        go_enter Tryz.func76, Tryz.ntmps76
        go_wp2
        go_ret
        exact ⟨by simp [*], HF.out _⟩
      · have hs2 : ((ofL s).toList == (ByteArray.mk #[]).toList) = false := by rw [empty_beq]; simpa using hs
        go_enter Tryz.func76, Tryz.ntmps76
        go_wp2
        go_ret
        exact ⟨by simp [*], HF.out _⟩
    · have hb2 : ((b : Int) == 0) = false := beq_eq_false_iff_ne.2 (by omega)
      by_cases hs : s.isEmpty = true
      · have hs2 : ((ofL s).toList == (ByteArray.mk #[]).toList) = true := by rw [empty_beq]; exact hs
        go_enter Tryz.func76, Tryz.ntmps76
        go_wp2
        go_ret
        exact ⟨by simp [*], HF.out _⟩
      · have hs2 : ((ofL s).toList == (ByteArray.mk #[]).toList) = false := by rw [empty_beq]; simpa using hs
        go_enter Tryz.func76, Tryz.ntmps76
        go_wp2
        go_ret
        exact ⟨by simp [*], HF.out _⟩
  · have hn2 : (n == 0) = false := beq_eq_false_iff_ne.2 hn
    by_cases hb : b = 0
    · subst hb
      by_cases hs : s.isEmpty = true
      · have hs2 : ((ofL s).toList == (ByteArray.mk #[]).toList) = true := by rw [empty_beq]; exact hs
        go_enter Tryz.func76, Tryz.ntmps76
        go_wp2
        go_ret
        exact ⟨by simp [*], HF.out _⟩
      · have hs2 : ((ofL s).toList == (ByteArray.mk #[]).toList) = false := by rw [empty_beq]; simpa using hs
        go_enter Tryz.func76, Tryz.ntmps76
        go_wp2
        go_ret
        exact ⟨by simp [*], HF.out _⟩
    · have hb2 : ((b : Int) == 0) = false := beq_eq_false_iff_ne.2 (by omega)
      by_cases hs : s.isEmpty = true
      · have hs2 : ((ofL s).toList == (ByteArray.mk #[]).toList) = true := by rw [empty_beq]; exact hs
        go_enter Tryz.func76, Tryz.ntmps76
        go_wp2
        go_ret
        exact ⟨by simp [*], HF.out _⟩
      · have hs2 : ((ofL s).toList == (ByteArray.mk #[]).toList) = false := by rw [empty_beq]; simpa using hs
        go_enter Tryz.func76, Tryz.ntmps76
        go_wp2
        go_ret
        exact ⟨by simp [*], HF.out _⟩
set_option maxRecDepth 100000 in
set_option maxHeartbeats 8000000 in
theorem good_2 (n : Int) (b : Nat) (s : List UInt8) (w : World) : Calls Tryz.prog 76 #[.agg #[.int .i64 2, .int .i64 n, .int .u64 (b : Int), .string (ofL s)]] w fun x w' => x = .returned (.bool (decide (n = 0) && decide (b = 0) && s.isEmpty)) ∧ Fr (fun _ => False) w w' := by
  have HF := hid (fun o => (Fr.refl (fun _ => False) w).alloc o)
  have hs1 := empty_list s
  by_cases hn : n = 0
  · subst hn
    by_cases hb : b = 0
    · subst hb
      by_cases hs : s.isEmpty = true
      · have hs2 : ((ofL s).toList == (ByteArray.mk #[]).toList) = true := by rw [empty_beq]; exact hs
        go_enter Tryz.func76, Tryz.ntmps76
        go_wp2
        go_ret
        exact ⟨by simp [*], HF.out _⟩
      · have hs2 : ((ofL s).toList == (ByteArray.mk #[]).toList) = false := by rw [empty_beq]; simpa using hs
        go_enter Tryz.func76, Tryz.ntmps76
        go_wp2
        go_ret
        exact ⟨by simp [*], HF.out _⟩
    · have hb2 : ((b : Int) == 0) = false := beq_eq_false_iff_ne.2 (by omega)
      by_cases hs : s.isEmpty = true
      · have hs2 : ((ofL s).toList == (ByteArray.mk #[]).toList) = true := by rw [empty_beq]; exact hs
        go_enter Tryz.func76, Tryz.ntmps76
        go_wp2
        go_ret
        exact ⟨by simp [*], HF.out _⟩
      · have hs2 : ((ofL s).toList == (ByteArray.mk #[]).toList) = false := by rw [empty_beq]; simpa using hs
        go_enter Tryz.func76, Tryz.ntmps76
        go_wp2
        go_ret
        exact ⟨by simp [*], HF.out _⟩
  · have hn2 : (n == 0) = false := beq_eq_false_iff_ne.2 hn
    by_cases hb : b = 0
    · subst hb
      by_cases hs : s.isEmpty = true
      · have hs2 : ((ofL s).toList == (ByteArray.mk #[]).toList) = true := by rw [empty_beq]; exact hs
        go_enter Tryz.func76, Tryz.ntmps76
        go_wp2
        go_ret
        exact ⟨by simp [*], HF.out _⟩
      · have hs2 : ((ofL s).toList == (ByteArray.mk #[]).toList) = false := by rw [empty_beq]; simpa using hs
        go_enter Tryz.func76, Tryz.ntmps76
        go_wp2
        go_ret
        exact ⟨by simp [*], HF.out _⟩
    · have hb2 : ((b : Int) == 0) = false := beq_eq_false_iff_ne.2 (by omega)
      by_cases hs : s.isEmpty = true
      · have hs2 : ((ofL s).toList == (ByteArray.mk #[]).toList) = true := by rw [empty_beq]; exact hs
        go_enter Tryz.func76, Tryz.ntmps76
        go_wp2
        go_ret
        exact ⟨by simp [*], HF.out _⟩
      · have hs2 : ((ofL s).toList == (ByteArray.mk #[]).toList) = false := by rw [empty_beq]; simpa using hs
        go_enter Tryz.func76, Tryz.ntmps76
        go_wp2
        go_ret
        exact ⟨by simp [*], HF.out _⟩
set_option maxRecDepth 100000 in
set_option maxHeartbeats 8000000 in
theorem good_5 (n : Int) (b : Nat) (s : List UInt8) (w : World) : Calls Tryz.prog 76 #[.agg #[.int .i64 5, .int .i64 n, .int .u64 (b : Int), .string (ofL s)]] w fun x w' => x = .returned (.bool (decide (0 ≤ n) && decide (b = 0) && s.isEmpty)) ∧ Fr (fun _ => False) w w' := by
  have HF := hid (fun o => (Fr.refl (fun _ => False) w).alloc o)
  have hs1 := empty_list s
  by_cases hn : 0 ≤ n
  · have hn2 : decide ((0 : Int) ≤ n) = true := decide_eq_true hn
    by_cases hb : b = 0
    · subst hb
      by_cases hs : s.isEmpty = true
      · have hs2 : ((ofL s).toList == (ByteArray.mk #[]).toList) = true := by rw [empty_beq]; exact hs
        go_enter Tryz.func76, Tryz.ntmps76
        go_wp2
        go_ret
        exact ⟨by simp [*], HF.out _⟩
      · have hs2 : ((ofL s).toList == (ByteArray.mk #[]).toList) = false := by rw [empty_beq]; simpa using hs
        go_enter Tryz.func76, Tryz.ntmps76
        go_wp2
        go_ret
        exact ⟨by simp [*], HF.out _⟩
    · have hb2 : ((b : Int) == 0) = false := beq_eq_false_iff_ne.2 (by omega)
      by_cases hs : s.isEmpty = true
      · have hs2 : ((ofL s).toList == (ByteArray.mk #[]).toList) = true := by rw [empty_beq]; exact hs
        go_enter Tryz.func76, Tryz.ntmps76
        go_wp2
        go_ret
        exact ⟨by simp [*], HF.out _⟩
      · have hs2 : ((ofL s).toList == (ByteArray.mk #[]).toList) = false := by rw [empty_beq]; simpa using hs
        go_enter Tryz.func76, Tryz.ntmps76
        go_wp2
        go_ret
        exact ⟨by simp [*], HF.out _⟩
  · have hn2 : decide ((0 : Int) ≤ n) = false := decide_eq_false hn
    by_cases hb : b = 0
    · subst hb
      by_cases hs : s.isEmpty = true
      · have hs2 : ((ofL s).toList == (ByteArray.mk #[]).toList) = true := by rw [empty_beq]; exact hs
        go_enter Tryz.func76, Tryz.ntmps76
        go_wp2
        go_ret
        exact ⟨by simp [*], HF.out _⟩
      · have hs2 : ((ofL s).toList == (ByteArray.mk #[]).toList) = false := by rw [empty_beq]; simpa using hs
        go_enter Tryz.func76, Tryz.ntmps76
        go_wp2
        go_ret
        exact ⟨by simp [*], HF.out _⟩
    · have hb2 : ((b : Int) == 0) = false := beq_eq_false_iff_ne.2 (by omega)
      by_cases hs : s.isEmpty = true
      · have hs2 : ((ofL s).toList == (ByteArray.mk #[]).toList) = true := by rw [empty_beq]; exact hs
        go_enter Tryz.func76, Tryz.ntmps76
        go_wp2
        go_ret
        exact ⟨by simp [*], HF.out _⟩
      · have hs2 : ((ofL s).toList == (ByteArray.mk #[]).toList) = false := by rw [empty_beq]; simpa using hs
        go_enter Tryz.func76, Tryz.ntmps76
        go_wp2
        go_ret
        exact ⟨by simp [*], HF.out _⟩
set_option maxRecDepth 100000 in
set_option maxHeartbeats 8000000 in
theorem good_6 (n : Int) (b : Nat) (s : List UInt8) (w : World) : Calls Tryz.prog 76 #[.agg #[.int .i64 6, .int .i64 n, .int .u64 (b : Int), .string (ofL s)]] w fun x w' => x = .returned (.bool (decide (0 ≤ n) && decide (b = 0) && s.isEmpty)) ∧ Fr (fun _ => False) w w' := by
  have HF := hid (fun o => (Fr.refl (fun _ => False) w).alloc o)
  have hs1 := empty_list s
  by_cases hn : 0 ≤ n
  · have hn2 : decide ((0 : Int) ≤ n) = true := decide_eq_true hn
    by_cases hb : b = 0
    · subst hb
      by_cases hs : s.isEmpty = true
      · have hs2 : ((ofL s).toList == (ByteArray.mk #[]).toList) = true := by rw [empty_beq]; exact hs
        go_enter Tryz.func76, Tryz.ntmps76
        go_wp2
        go_ret
        exact ⟨by simp [*], HF.out _⟩
      · have hs2 : ((ofL s).toList == (ByteArray.mk #[]).toList) = false := by rw [empty_beq]; simpa using hs
        go_enter Tryz.func76, Tryz.ntmps76
        go_wp2
        go_ret
        exact ⟨by simp [*], HF.out _⟩
    · have hb2 : ((b : Int) == 0) = false := beq_eq_false_iff_ne.2 (by omega)
      by_cases hs : s.isEmpty = true
      · have hs2 : ((ofL s).toList == (ByteArray.mk #[]).toList) = true := by rw [empty_beq]; exact hs
        go_enter Tryz.func76, Tryz.ntmps76
        go_wp2
        go_ret
        exact ⟨by simp [*], HF.out _⟩
      · have hs2 : ((ofL s).toList == (ByteArray.mk #[]).toList) = false := by rw [empty_beq]; simpa using hs
        go_enter Tryz.func76, Tryz.ntmps76
        go_wp2
        go_ret
        exact ⟨by simp [*], HF.out _⟩
  · have hn2 : decide ((0 : Int) ≤ n) = false := decide_eq_false hn
    by_cases hb : b = 0
    · subst hb
      by_cases hs : s.isEmpty = true
      · have hs2 : ((ofL s).toList == (ByteArray.mk #[]).toList) = true := by rw [empty_beq]; exact hs
        go_enter Tryz.func76, Tryz.ntmps76
        go_wp2
        go_ret
        exact ⟨by simp [*], HF.out _⟩
      · have hs2 : ((ofL s).toList == (ByteArray.mk #[]).toList) = false := by rw [empty_beq]; simpa using hs
        go_enter Tryz.func76, Tryz.ntmps76
        go_wp2
        go_ret
        exact ⟨by simp [*], HF.out _⟩
    · have hb2 : ((b : Int) == 0) = false := beq_eq_false_iff_ne.2 (by omega)
      by_cases hs : s.isEmpty = true
      · have hs2 : ((ofL s).toList == (ByteArray.mk #[]).toList) = true := by rw [empty_beq]; exact hs
        go_enter Tryz.func76, Tryz.ntmps76
        go_wp2
        go_ret
        exact ⟨by simp [*], HF.out _⟩
      · have hs2 : ((ofL s).toList == (ByteArray.mk #[]).toList) = false := by rw [empty_beq]; simpa using hs
        go_enter Tryz.func76, Tryz.ntmps76
        go_wp2
        go_ret
        exact ⟨by simp [*], HF.out _⟩
set_option maxRecDepth 100000 in
set_option maxHeartbeats 8000000 in
theorem good_3 (n : Int) (b : Nat) (s : List UInt8) (w : World) : Calls Tryz.prog 76 #[.agg #[.int .i64 3, .int .i64 n, .int .u64 (b : Int), .string (ofL s)]] w fun x w' => x = .returned (.bool (decide (n = 0) && s.isEmpty && decide (b % 9223372036854775808 < 9218868437227405312))) ∧ Fr (fun _ => False) w w' := by
  have HF := hid (fun o => (Fr.refl (fun _ => False) w).alloc o)
  have hs1 := empty_list s
  obtain ⟨LL, hLL⟩ : ∃ LL : Int, ((b % 9223372036854775808 : Nat) : Int) = LL := ⟨_, rfl⟩
  have ht1 : Int.tmod (b : Int) 9223372036854775808 = LL := by rw [← hLL, Int.tmod_eq_emod_of_nonneg (by omega)]; omega
  have ht2 : (b : Int) % 9223372036854775808 = LL := by rw [← hLL]; omega
  by_cases hn : n = 0
  · have hn2 : (n == 0) = true := by simp [hn]
    by_cases hs : s.isEmpty = true
    · have hs2 : ((ofL s).toList == (ByteArray.mk #[]).toList) = true := by rw [empty_beq]; exact hs
      by_cases hm : b % 9223372036854775808 < 9218868437227405312
      · have hm2 : decide (LL < 9218868437227405312) = true := decide_eq_true (by rw [← hLL]; omega)
        have HM := hid hm
        clear hm hLL
        go_enter Tryz.func76, Tryz.ntmps76
        go_wp2
        go_ret
        refine ⟨?_, HF.out _⟩
        have hm := HM.out
        simp [hm, hn, hs]
      · have hm2 : decide (LL < 9218868437227405312) = false := decide_eq_false (by rw [← hLL]; omega)
        have HM := hid (show (b % 9223372036854775808 < 9218868437227405312) ↔ False from ⟨hm, False.elim⟩)
        clear hm hLL
        go_enter Tryz.func76, Tryz.ntmps76
        go_wp2
        go_ret
        refine ⟨?_, HF.out _⟩
        have hm := HM.out
        simp [hm, hn, hs]
    · have hs2 : ((ofL s).toList == (ByteArray.mk #[]).toList) = false := by rw [empty_beq]; simpa using hs
      by_cases hm : b % 9223372036854775808 < 9218868437227405312
      · have hm2 : decide (LL < 9218868437227405312) = true := decide_eq_true (by rw [← hLL]; omega)
        have HM := hid hm
        clear hm hLL
        go_enter Tryz.func76, Tryz.ntmps76
        go_wp2
        go_ret
        refine ⟨?_, HF.out _⟩
        have hm := HM.out
        simp [hm, hn, hs]
      · have hm2 : decide (LL < 9218868437227405312) = false := decide_eq_false (by rw [← hLL]; omega)
        have HM := hid (show (b % 9223372036854775808 < 9218868437227405312) ↔ False from ⟨hm, False.elim⟩)
        clear hm hLL
        go_enter Tryz.func76, Tryz.ntmps76
        go_wp2
        go_ret
        refine ⟨?_, HF.out _⟩
        have hm := HM.out
        simp [hm, hn, hs]
  · have hn2 : (n == 0) = false := beq_eq_false_iff_ne.2 hn
    by_cases hs : s.isEmpty = true
    · have hs2 : ((ofL s).toList == (ByteArray.mk #[]).toList) = true := by rw [empty_beq]; exact hs
      by_cases hm : b % 9223372036854775808 < 9218868437227405312
      · have hm2 : decide (LL < 9218868437227405312) = true := decide_eq_true (by rw [← hLL]; omega)
        have HM := hid hm
        clear hm hLL
        go_enter Tryz.func76, Tryz.ntmps76
        go_wp2
        go_ret
        refine ⟨?_, HF.out _⟩
        have hm := HM.out
        simp [hm, hn, hs]
      · have hm2 : decide (LL < 9218868437227405312) = false := decide_eq_false (by rw [← hLL]; omega)
        have HM := hid (show (b % 9223372036854775808 < 9218868437227405312) ↔ False from ⟨hm, False.elim⟩)
        clear hm hLL
        go_enter Tryz.func76, Tryz.ntmps76
        go_wp2
        go_ret
        refine ⟨?_, HF.out _⟩
        have hm := HM.out
        simp [hm, hn, hs]
    · have hs2 : ((ofL s).toList == (ByteArray.mk #[]).toList) = false := by rw [empty_beq]; simpa using hs
      by_cases hm : b % 9223372036854775808 < 9218868437227405312
      · have hm2 : decide (LL < 9218868437227405312) = true := decide_eq_true (by rw [← hLL]; omega)
        have HM := hid hm
        clear hm hLL
        go_enter Tryz.func76, Tryz.ntmps76
        go_wp2
        go_ret
        refine ⟨?_, HF.out _⟩
        have hm := HM.out
        simp [hm, hn, hs]
      · have hm2 : decide (LL < 9218868437227405312) = false := decide_eq_false (by rw [← hLL]; omega)
        have HM := hid (show (b % 9223372036854775808 < 9218868437227405312) ↔ False from ⟨hm, False.elim⟩)
        clear hm hLL
        go_enter Tryz.func76, Tryz.ntmps76
        go_wp2
        go_ret
        refine ⟨?_, HF.out _⟩
        have hm := HM.out
        simp [hm, hn, hs]
set_option maxRecDepth 100000 in
set_option maxHeartbeats 8000000 in
theorem good_4 (n : Int) (b : Nat) (s : List UInt8) (w : World) (hl : s.length ≤ 100000000) : Calls Tryz.prog 76 #[.agg #[.int .i64 4, .int .i64 n, .int .u64 (b : Int), .string (ofL s)]] w fun x w' => x = .returned (.bool (decide (n = 0) && decide (b = 0) && isU s)) ∧ Fr (fun _ => False) w w' := by
  have HF := hid (fun o => (Fr.refl (fun _ => False) w).alloc o)
  have HU := hid (fun w => isUtf8_any s w hl)
  obtain ⟨U, hU⟩ : ∃ U, isU s = U := ⟨_, rfl⟩
  rw [hU] at HU ⊢
  clear hU hl
  by_cases hn : n = 0
  · have hn2 : (n == 0) = true := by simp [hn]
    have HN := hid hn
    clear hn
    by_cases hb : b = 0
    · have hb2 : ((b : Int) == 0) = true := by simp [hb]
      have HB := hid hb
      clear hb
      by_cases hu : U = true
      · subst hu
        go_enter Tryz.func76, Tryz.ntmps76
        go_wp2_with fail
        refine Calls.mono (HU.out _) ?_
        rintro x w2 ⟨rfl, hf2⟩
        have HF2 := hid (Fr.trans (HF.out (.cells #[.int .i64 4, .int .i64 n, .int .u64 (b : Int), .string (ofL s)] 29)) hf2)
        have c1 : w2.cell? ⟨w.heap.size, 1, none⟩ = some (.int .i64 n) := blk_cell ((hf2.block _ (by simp) id).trans (heap_alloc_new w _)) rfl
        have c2 : w2.cell? ⟨w.heap.size, 2, none⟩ = some (.int .u64 (b : Int)) := blk_cell ((hf2.block _ (by simp) id).trans (heap_alloc_new w _)) rfl
        clear hf2
        go_wp2
        go_ret
        refine ⟨?_, HF2.out⟩
        have hn := HN.out
        have hb := HB.out
        simp [hn, hb]
      · have hu2 : U = false := by simpa using hu
        subst hu2
        go_enter Tryz.func76, Tryz.ntmps76
        go_wp2_with fail
        refine Calls.mono (HU.out _) ?_
        rintro x w2 ⟨rfl, hf2⟩
        have HF2 := hid (Fr.trans (HF.out (.cells #[.int .i64 4, .int .i64 n, .int .u64 (b : Int), .string (ofL s)] 29)) hf2)
        have c1 : w2.cell? ⟨w.heap.size, 1, none⟩ = some (.int .i64 n) := blk_cell ((hf2.block _ (by simp) id).trans (heap_alloc_new w _)) rfl
        have c2 : w2.cell? ⟨w.heap.size, 2, none⟩ = some (.int .u64 (b : Int)) := blk_cell ((hf2.block _ (by simp) id).trans (heap_alloc_new w _)) rfl
        clear hf2
        go_wp2
        go_ret
        refine ⟨?_, HF2.out⟩
        have hn := HN.out
        have hb := HB.out
        simp [hn, hb]
    · have hb2 : ((b : Int) == 0) = false := beq_eq_false_iff_ne.2 (by omega)
      have HB := hid hb
      clear hb
      by_cases hu : U = true
      · subst hu
        go_enter Tryz.func76, Tryz.ntmps76
        go_wp2_with fail
        refine Calls.mono (HU.out _) ?_
        rintro x w2 ⟨rfl, hf2⟩
        have HF2 := hid (Fr.trans (HF.out (.cells #[.int .i64 4, .int .i64 n, .int .u64 (b : Int), .string (ofL s)] 29)) hf2)
        have c1 : w2.cell? ⟨w.heap.size, 1, none⟩ = some (.int .i64 n) := blk_cell ((hf2.block _ (by simp) id).trans (heap_alloc_new w _)) rfl
        have c2 : w2.cell? ⟨w.heap.size, 2, none⟩ = some (.int .u64 (b : Int)) := blk_cell ((hf2.block _ (by simp) id).trans (heap_alloc_new w _)) rfl
        clear hf2
        go_wp2
        go_ret
        refine ⟨?_, HF2.out⟩
        have hn := HN.out
        have hb := HB.out
        simp [hn, hb]
      · have hu2 : U = false := by simpa using hu
        subst hu2
        go_enter Tryz.func76, Tryz.ntmps76
        go_wp2_with fail
        refine Calls.mono (HU.out _) ?_
        rintro x w2 ⟨rfl, hf2⟩
        have HF2 := hid (Fr.trans (HF.out (.cells #[.int .i64 4, .int .i64 n, .int .u64 (b : Int), .string (ofL s)] 29)) hf2)
        have c1 : w2.cell? ⟨w.heap.size, 1, none⟩ = some (.int .i64 n) := blk_cell ((hf2.block _ (by simp) id).trans (heap_alloc_new w _)) rfl
        have c2 : w2.cell? ⟨w.heap.size, 2, none⟩ = some (.int .u64 (b : Int)) := blk_cell ((hf2.block _ (by simp) id).trans (heap_alloc_new w _)) rfl
        clear hf2
        go_wp2
        go_ret
        refine ⟨?_, HF2.out⟩
        have hn := HN.out
        have hb := HB.out
        simp [hn, hb]
  · have hn2 : (n == 0) = false := beq_eq_false_iff_ne.2 hn
    have HN := hid hn
    clear hn
    by_cases hb : b = 0
    · have hb2 : ((b : Int) == 0) = true := by simp [hb]
      have HB := hid hb
      clear hb
      by_cases hu : U = true
      · subst hu
        go_enter Tryz.func76, Tryz.ntmps76
        go_wp2_with fail
        refine Calls.mono (HU.out _) ?_
        rintro x w2 ⟨rfl, hf2⟩
        have HF2 := hid (Fr.trans (HF.out (.cells #[.int .i64 4, .int .i64 n, .int .u64 (b : Int), .string (ofL s)] 29)) hf2)
        have c1 : w2.cell? ⟨w.heap.size, 1, none⟩ = some (.int .i64 n) := blk_cell ((hf2.block _ (by simp) id).trans (heap_alloc_new w _)) rfl
        have c2 : w2.cell? ⟨w.heap.size, 2, none⟩ = some (.int .u64 (b : Int)) := blk_cell ((hf2.block _ (by simp) id).trans (heap_alloc_new w _)) rfl
        clear hf2
        go_wp2
        go_ret
        refine ⟨?_, HF2.out⟩
        have hn := HN.out
        have hb := HB.out
        simp [hn, hb]
      · have hu2 : U = false := by simpa using hu
        subst hu2
        go_enter Tryz.func76, Tryz.ntmps76
        go_wp2_with fail
        refine Calls.mono (HU.out _) ?_
        rintro x w2 ⟨rfl, hf2⟩
        have HF2 := hid (Fr.trans (HF.out (.cells #[.int .i64 4, .int .i64 n, .int .u64 (b : Int), .string (ofL s)] 29)) hf2)
        have c1 : w2.cell? ⟨w.heap.size, 1, none⟩ = some (.int .i64 n) := blk_cell ((hf2.block _ (by simp) id).trans (heap_alloc_new w _)) rfl
        have c2 : w2.cell? ⟨w.heap.size, 2, none⟩ = some (.int .u64 (b : Int)) := blk_cell ((hf2.block _ (by simp) id).trans (heap_alloc_new w _)) rfl
        clear hf2
        go_wp2
        go_ret
        refine ⟨?_, HF2.out⟩
        have hn := HN.out
        have hb := HB.out
        simp [hn, hb]
    · have hb2 : ((b : Int) == 0) = false := beq_eq_false_iff_ne.2 (by omega)
      have HB := hid hb
      clear hb
      by_cases hu : U = true
      · subst hu
        go_enter Tryz.func76, Tryz.ntmps76
        go_wp2_with fail
        refine Calls.mono (HU.out _) ?_
        rintro x w2 ⟨rfl, hf2⟩
        have HF2 := hid (Fr.trans (HF.out (.cells #[.int .i64 4, .int .i64 n, .int .u64 (b : Int), .string (ofL s)] 29)) hf2)
        have c1 : w2.cell? ⟨w.heap.size, 1, none⟩ = some (.int .i64 n) := blk_cell ((hf2.block _ (by simp) id).trans (heap_alloc_new w _)) rfl
        have c2 : w2.cell? ⟨w.heap.size, 2, none⟩ = some (.int .u64 (b : Int)) := blk_cell ((hf2.block _ (by simp) id).trans (heap_alloc_new w _)) rfl
        clear hf2
        go_wp2
        go_ret
        refine ⟨?_, HF2.out⟩
        have hn := HN.out
        have hb := HB.out
        simp [hn, hb]
      · have hu2 : U = false := by simpa using hu
        subst hu2
        go_enter Tryz.func76, Tryz.ntmps76
        go_wp2_with fail
        refine Calls.mono (HU.out _) ?_
        rintro x w2 ⟨rfl, hf2⟩
        have HF2 := hid (Fr.trans (HF.out (.cells #[.int .i64 4, .int .i64 n, .int .u64 (b : Int), .string (ofL s)] 29)) hf2)
        have c1 : w2.cell? ⟨w.heap.size, 1, none⟩ = some (.int .i64 n) := blk_cell ((hf2.block _ (by simp) id).trans (heap_alloc_new w _)) rfl
        have c2 : w2.cell? ⟨w.heap.size, 2, none⟩ = some (.int .u64 (b : Int)) := blk_cell ((hf2.block _ (by simp) id).trans (heap_alloc_new w _)) rfl
        clear hf2
        go_wp2
        go_ret
        refine ⟨?_, HF2.out⟩
        have hn := HN.out
        have hb := HB.out
        simp [hn, hb]
set_option maxRecDepth 100000 in
set_option maxHeartbeats 8000000 in
theorem good_no (k n : Int) (b : Nat) (s : List UInt8) (w : World) (h : k < 0 ∨ 6 < k) : Calls Tryz.prog 76 #[.agg #[.int .i64 k, .int .i64 n, .int .u64 (b : Int), .string (ofL s)]] w fun x w' => x = .returned (.bool false) ∧ Fr (fun _ => False) w w' := by
  have HF := hid (fun o => (Fr.refl (fun _ => False) w).alloc o)
  have e0 : k ≠ 0 := by omega
  have e1 : k ≠ 1 := by omega
  have e2 : k ≠ 2 := by omega
  have e3 : k ≠ 3 := by omega
  have e4 : k ≠ 4 := by omega
  have e5 : k ≠ 5 := by omega
  have e6 : k ≠ 6 := by omega
  clear h
  go_enter Tryz.func76, Tryz.ntmps76
  go_wp2
  go_ret
  exact ⟨rfl, HF.out _⟩
/-- good, whatever the item -/
theorem good_any (x : Im) (w : World) (hl : x.s.length ≤ 100000000) :
    Calls Tryz.prog 76 #[.agg #[.int .i64 x.k, .int .i64 x.n, .int .u64 (x.b : Int), .string (ofL x.s)]] w fun e w' => e = .returned (.bool (goodI x)) ∧ Fr (fun _ => False) w w' := by
  obtain ⟨k, n, b, s⟩ := x
  simp only at hl ⊢
  by_cases h : k < 0 ∨ 6 < k
  · have e : goodI ⟨k, n, b, s⟩ = false := by
      unfold goodI
      rw [if_neg (by simp only; omega), if_neg (by simp only; omega), if_neg (by simp only; omega), if_neg (by simp only; omega)]
    rw [e]
    exact good_no k n b s w h
  · obtain rfl | rfl | rfl | rfl | rfl | rfl | rfl : k = 0 ∨ k = 1 ∨ k = 2 ∨ k = 3 ∨ k = 4 ∨ k = 5 ∨ k = 6 := by omega
    · exact good_0 n b s w
    · exact good_1 n b s w
    · exact good_2 n b s w
    · exact good_3 n b s w
    · exact good_4 n b s w hl
    · exact good_5 n b s w
    · exact good_6 n b s w
end Go.Proofs.YtmkkibaacclhnaaGreatDoor
