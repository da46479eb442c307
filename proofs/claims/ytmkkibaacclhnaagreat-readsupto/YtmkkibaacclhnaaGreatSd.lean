/-
  A step of the walk, the part named Sd. No theorem of the row.
-/
import Derived.Test.YtmkkibaacclhnaaGreatSb
namespace Go.Proofs.YtmkkibaacclhnaaGreat
open Go.RowKit

theorem pow64 {k a : Nat} (h : a < 64 ^ k) (hk : k ≤ 3) : a < 262144 := Nat.lt_of_lt_of_le h (Nat.pow_le_pow_right (by omega) hk)
theorem pow64_top {k a : Nat} (h : a < 64 ^ k) (hk : k ≤ 4) : a < 16777216 := Nat.lt_of_lt_of_le h (Nat.pow_le_pow_right (by omega) hk)
theorem pow64_up {k a x : Nat} (h : a < 64 ^ k) (hx : x < 64) : 64 * a + x < 64 ^ (k + 1) := by
  rw [Nat.pow_succ]
  omega
set_option maxRecDepth 100000 in
set_option maxHeartbeats 8000000 in
theorem begins_2 (c : UInt8) (r : List UInt8) (w : World) (hr : r.length ≤ 1000000000) (hc : 192 ≤ c.toNat ∧ c.toNat < 224) :
    Calls Tryz.prog 117 #[.string (ofL (c :: r))] w fun x w' => x = .returned (.int .i64 ((beginsV (c :: r) : Nat) : Int)) ∧ Fr (fun _ => False) w w' := by
  have HB := hid (show beginsV (c :: r) = begEnd 2 (begGo 1 (c.toNat - 192) (c.toNat - 192) r) from begN2 hc r)
  obtain ⟨hc1, hc2⟩ := hc
  obtain ⟨str, hstr⟩ : ∃ str, ofL (c :: r) = str := ⟨_, rfl⟩
  have hsz : str.size = r.length + 1 := by rw [← hstr]; exact ofL_size (c :: r)
  have hg0 : str[0]'(by rw [hsz]; omega) = c := by subst hstr; exact ofL_get (c :: r) 0 _
  have HG := hid (show ∀ k (hk : k < r.length), str[k + 1]'(by rw [hsz]; omega) = r[k] from fun k hk => by subst hstr; exact ofL_get (c :: r) (k + 1) _)
  rw [hstr]
  have HF := hid (show ∀ ob, Fr (fun _ => False) w (w.alloc ob) from fun ob => (Fr.refl _ _).alloc ob)
  obtain ⟨N, hN⟩ : ∃ N, c.toNat = N := ⟨_, rfl⟩
  rw [hN] at hc1 hc2 HB
  generalize hres : beginsV (c :: r) = res at *
  clear hstr hres
  have d0 : decide (192 ≤ (N : Int)) = true := decide_eq_true (by omega)
  have d1 : decide ((N : Int) < 224) = true := decide_eq_true (by omega)
  go_enter Tryz.func117, Tryz.ntmps117
  go_wp2
  go_loopw [4, 5, 7] (fun lo tp i wr => ∃ k a b : Nat, 1 ≤ k ∧ k ≤ 2 ∧ lo = .int .i64 a ∧ tp = .int .i64 b ∧ i = .int .i64 k ∧ Hid (begGo (2 - k) a b (r.drop (k - 1)) = begGo 1 (N - 192) (N - 192) r) ∧ Hid (a < 64 ^ k ∧ b < 64 ^ k) ∧ wr = w) (fun _ _ i _ => 2 - (intOf i).toNat)
  case atStart => exact ⟨1, N - 192, N - 192, by omega, by omega, by go_num, by go_num, rfl, hid rfl, hid ⟨by omega, by omega⟩, rfl⟩
  case round =>
    obtain ⟨k, a, b, hk1, hk2, rfl, rfl, rfl, hI, hP, rfl⟩ := hrel
    by_cases hk : k < 2
    · have ha := pow64 hP.out.1 (by omega)
      have hb := pow64 hP.out.2 (by omega)
      obtain ⟨j, rfl⟩ : ∃ j, k = j + 1 := ⟨k - 1, by omega⟩
      rw [Nat.add_sub_cancel, show 2 - (j + 1) = (0 - j) + 1 by omega] at hI
      by_cases hj : j < r.length
      · have hg := HG.out j hj
        have hd : r.drop j = r[j] :: r.drop (j + 1) := List.drop_eq_getElem_cons hj
        rw [hd] at hI
        generalize r[j] = x at *
        clear hd
        by_cases hx : x.toNat < 128 ∨ 191 < x.toNat
        · rw [begGo_no hx] at hI
          have HR := hid (show res = 0 by rw [HB.out, ← hI.out]; rfl)
          clear hI
          rcases hx with hx | hx
          · go_wp2
            go_ret
            rw [HR.out]
            exact ⟨rfl, Fr.refl _ _⟩
          · go_wp2
            go_ret
            rw [HR.out]
            exact ⟨rfl, Fr.refl _ _⟩
        · rw [begGo_yes hx] at hI
          have q1 := hid (pow64_up (x := x.toNat - 128) hP.out.1 (by omega))
          have q2 := hid (pow64_up (x := x.toNat - 128) hP.out.2 (by omega))
          have hx1 : ¬ x.toNat < 128 := by omega
          have hx2 : ¬ 191 < x.toNat := by omega
          clear hx
          go_wp2
          go_roundw
          case rel => exact ⟨j + 1 + 1, 64 * a + x.toNat - 128, 64 * b + x.toNat - 128, by omega, by omega, by go_num, by go_num, by go_num, hid (by rw [show 2 - (j + 1 + 1) = 0 - j by omega, show j + 1 + 1 - 1 = j + 1 by omega]; exact hI.out), hid ⟨by have := q1.out; omega, by have := q2.out; omega⟩, trivial⟩
          case measure => simp [intOf]; omega
      · rw [List.drop_eq_nil_of_le (by omega), begGo] at hI
        have q1 := hid (pow64_up (x := 0) hP.out.1 (by omega))
        have q2 := hid (pow64_up (x := 63) hP.out.2 (by omega))
        go_wp2
        go_roundw
        case rel => exact ⟨j + 1 + 1, 64 * a, 64 * b + 63, by omega, by omega, by go_num, by go_num, by go_num, hid (by rw [show 2 - (j + 1 + 1) = 0 - j by omega, show j + 1 + 1 - 1 = j + 1 by omega, List.drop_eq_nil_of_le (by omega)]; exact hI.out), hid ⟨by have := q1.out; omega, by have := q2.out; omega⟩, trivial⟩
        case measure => simp [intOf]; omega
    · obtain rfl : k = 2 := by omega
      have ha := pow64_top hP.out.1 (by omega)
      have hb := pow64_top hP.out.2 (by omega)
      rw [Nat.sub_self, begGo] at hI
      have HR := hid (show res = begOk 2 a b by rw [HB.out, ← hI.out]; rfl)
      clear hI
      by_cases hno : b < 128 ∨ 1114111 < a ∨ (55296 ≤ a ∧ b ≤ 57343)
      · have HR2 := hid (HR.out.trans (begOk_no (by rw [least2]; exact hno)))
        by_cases n1 : b < 128
        · clear hno
          go_wp2
          go_ret
          rw [HR2.out]
          exact ⟨rfl, HF.out _⟩
        · by_cases n2 : 1114111 < a
          · clear hno
            go_wp2
            go_ret
            rw [HR2.out]
            exact ⟨rfl, HF.out _⟩
          · have n3 : 55296 ≤ a := by omega
            have n4 : b ≤ 57343 := by omega
            clear hno
            go_wp2
            go_ret
            rw [HR2.out]
            exact ⟨rfl, HF.out _⟩
      · have HR2 := hid (HR.out.trans (begOk_yes (by rw [least2]; exact hno)))
        have n1 : ¬ b < 128 := by omega
        have n2 : ¬ 1114111 < a := by omega
        by_cases n3 : 55296 ≤ a
        · have n4 : ¬ b ≤ 57343 := by omega
          clear hno
          go_wp2
          go_ret
          rw [HR2.out]
          exact ⟨rfl, HF.out _⟩
        · clear hno
          go_wp2
          go_ret
          rw [HR2.out]
          exact ⟨rfl, HF.out _⟩
set_option maxRecDepth 100000 in
set_option maxHeartbeats 8000000 in
theorem begins_3 (c : UInt8) (r : List UInt8) (w : World) (hr : r.length ≤ 1000000000) (hc : 224 ≤ c.toNat ∧ c.toNat < 240) :
    Calls Tryz.prog 117 #[.string (ofL (c :: r))] w fun x w' => x = .returned (.int .i64 ((beginsV (c :: r) : Nat) : Int)) ∧ Fr (fun _ => False) w w' := by
  have HB := hid (show beginsV (c :: r) = begEnd 3 (begGo 2 (c.toNat - 224) (c.toNat - 224) r) from begN3 hc r)
  obtain ⟨hc1, hc2⟩ := hc
  obtain ⟨str, hstr⟩ : ∃ str, ofL (c :: r) = str := ⟨_, rfl⟩
  have hsz : str.size = r.length + 1 := by rw [← hstr]; exact ofL_size (c :: r)
  have hg0 : str[0]'(by rw [hsz]; omega) = c := by subst hstr; exact ofL_get (c :: r) 0 _
  have HG := hid (show ∀ k (hk : k < r.length), str[k + 1]'(by rw [hsz]; omega) = r[k] from fun k hk => by subst hstr; exact ofL_get (c :: r) (k + 1) _)
  rw [hstr]
  have HF := hid (show ∀ ob, Fr (fun _ => False) w (w.alloc ob) from fun ob => (Fr.refl _ _).alloc ob)
  obtain ⟨N, hN⟩ : ∃ N, c.toNat = N := ⟨_, rfl⟩
  rw [hN] at hc1 hc2 HB
  generalize hres : beginsV (c :: r) = res at *
  clear hstr hres
  have d0 : decide (192 ≤ (N : Int)) = true := decide_eq_true (by omega)
  have d1 : decide ((N : Int) < 224) = false := decide_eq_false (by omega)
  have d2 : decide (224 ≤ (N : Int)) = true := decide_eq_true (by omega)
  have d3 : decide ((N : Int) < 240) = true := decide_eq_true (by omega)
  go_enter Tryz.func117, Tryz.ntmps117
  go_wp2
  go_loopw [4, 5, 7] (fun lo tp i wr => ∃ k a b : Nat, 1 ≤ k ∧ k ≤ 3 ∧ lo = .int .i64 a ∧ tp = .int .i64 b ∧ i = .int .i64 k ∧ Hid (begGo (3 - k) a b (r.drop (k - 1)) = begGo 2 (N - 224) (N - 224) r) ∧ Hid (a < 64 ^ k ∧ b < 64 ^ k) ∧ wr = w) (fun _ _ i _ => 3 - (intOf i).toNat)
  case atStart => exact ⟨1, N - 224, N - 224, by omega, by omega, by go_num, by go_num, rfl, hid rfl, hid ⟨by omega, by omega⟩, rfl⟩
  case round =>
    obtain ⟨k, a, b, hk1, hk2, rfl, rfl, rfl, hI, hP, rfl⟩ := hrel
    by_cases hk : k < 3
    · have ha := pow64 hP.out.1 (by omega)
      have hb := pow64 hP.out.2 (by omega)
      obtain ⟨j, rfl⟩ : ∃ j, k = j + 1 := ⟨k - 1, by omega⟩
      rw [Nat.add_sub_cancel, show 3 - (j + 1) = (1 - j) + 1 by omega] at hI
      by_cases hj : j < r.length
      · have hg := HG.out j hj
        have hd : r.drop j = r[j] :: r.drop (j + 1) := List.drop_eq_getElem_cons hj
        rw [hd] at hI
        generalize r[j] = x at *
        clear hd
        by_cases hx : x.toNat < 128 ∨ 191 < x.toNat
        · rw [begGo_no hx] at hI
          have HR := hid (show res = 0 by rw [HB.out, ← hI.out]; rfl)
          clear hI
          rcases hx with hx | hx
          · go_wp2
            go_ret
            rw [HR.out]
            exact ⟨rfl, Fr.refl _ _⟩
          · go_wp2
            go_ret
            rw [HR.out]
            exact ⟨rfl, Fr.refl _ _⟩
        · rw [begGo_yes hx] at hI
          have q1 := hid (pow64_up (x := x.toNat - 128) hP.out.1 (by omega))
          have q2 := hid (pow64_up (x := x.toNat - 128) hP.out.2 (by omega))
          have hx1 : ¬ x.toNat < 128 := by omega
          have hx2 : ¬ 191 < x.toNat := by omega
          clear hx
          go_wp2
          go_roundw
          case rel => exact ⟨j + 1 + 1, 64 * a + x.toNat - 128, 64 * b + x.toNat - 128, by omega, by omega, by go_num, by go_num, by go_num, hid (by rw [show 3 - (j + 1 + 1) = 1 - j by omega, show j + 1 + 1 - 1 = j + 1 by omega]; exact hI.out), hid ⟨by have := q1.out; omega, by have := q2.out; omega⟩, trivial⟩
          case measure => simp [intOf]; omega
      · rw [List.drop_eq_nil_of_le (by omega), begGo] at hI
        have q1 := hid (pow64_up (x := 0) hP.out.1 (by omega))
        have q2 := hid (pow64_up (x := 63) hP.out.2 (by omega))
        go_wp2
        go_roundw
        case rel => exact ⟨j + 1 + 1, 64 * a, 64 * b + 63, by omega, by omega, by go_num, by go_num, by go_num, hid (by rw [show 3 - (j + 1 + 1) = 1 - j by omega, show j + 1 + 1 - 1 = j + 1 by omega, List.drop_eq_nil_of_le (by omega)]; exact hI.out), hid ⟨by have := q1.out; omega, by have := q2.out; omega⟩, trivial⟩
        case measure => simp [intOf]; omega
    · obtain rfl : k = 3 := by omega
      have ha := pow64_top hP.out.1 (by omega)
      have hb := pow64_top hP.out.2 (by omega)
      rw [Nat.sub_self, begGo] at hI
      have HR := hid (show res = begOk 3 a b by rw [HB.out, ← hI.out]; rfl)
      clear hI
      by_cases hno : b < 2048 ∨ 1114111 < a ∨ (55296 ≤ a ∧ b ≤ 57343)
      · have HR2 := hid (HR.out.trans (begOk_no (by rw [least3]; exact hno)))
        by_cases n1 : b < 2048
        · clear hno
          go_wp2
          go_ret
          rw [HR2.out]
          exact ⟨rfl, HF.out _⟩
        · by_cases n2 : 1114111 < a
          · clear hno
            go_wp2
            go_ret
            rw [HR2.out]
            exact ⟨rfl, HF.out _⟩
          · have n3 : 55296 ≤ a := by omega
            have n4 : b ≤ 57343 := by omega
            clear hno
            go_wp2
            go_ret
            rw [HR2.out]
            exact ⟨rfl, HF.out _⟩
      · have HR2 := hid (HR.out.trans (begOk_yes (by rw [least3]; exact hno)))
        have n1 : ¬ b < 2048 := by omega
        have n2 : ¬ 1114111 < a := by omega
        by_cases n3 : 55296 ≤ a
        · have n4 : ¬ b ≤ 57343 := by omega
          clear hno
          go_wp2
          go_ret
          rw [HR2.out]
          exact ⟨rfl, HF.out _⟩
        · clear hno
          go_wp2
          go_ret
          rw [HR2.out]
          exact ⟨rfl, HF.out _⟩
set_option maxRecDepth 100000 in
set_option maxHeartbeats 8000000 in
theorem begins_4 (c : UInt8) (r : List UInt8) (w : World) (hr : r.length ≤ 1000000000) (hc : 240 ≤ c.toNat ∧ c.toNat < 248) :
    Calls Tryz.prog 117 #[.string (ofL (c :: r))] w fun x w' => x = .returned (.int .i64 ((beginsV (c :: r) : Nat) : Int)) ∧ Fr (fun _ => False) w w' := by
  have HB := hid (show beginsV (c :: r) = begEnd 4 (begGo 3 (c.toNat - 240) (c.toNat - 240) r) from begN4 hc r)
  obtain ⟨hc1, hc2⟩ := hc
  obtain ⟨str, hstr⟩ : ∃ str, ofL (c :: r) = str := ⟨_, rfl⟩
  have hsz : str.size = r.length + 1 := by rw [← hstr]; exact ofL_size (c :: r)
  have hg0 : str[0]'(by rw [hsz]; omega) = c := by subst hstr; exact ofL_get (c :: r) 0 _
  have HG := hid (show ∀ k (hk : k < r.length), str[k + 1]'(by rw [hsz]; omega) = r[k] from fun k hk => by subst hstr; exact ofL_get (c :: r) (k + 1) _)
  rw [hstr]
  have HF := hid (show ∀ ob, Fr (fun _ => False) w (w.alloc ob) from fun ob => (Fr.refl _ _).alloc ob)
  obtain ⟨N, hN⟩ : ∃ N, c.toNat = N := ⟨_, rfl⟩
  rw [hN] at hc1 hc2 HB
  generalize hres : beginsV (c :: r) = res at *
  clear hstr hres
  have d0 : decide (192 ≤ (N : Int)) = true := decide_eq_true (by omega)
  have d1 : decide ((N : Int) < 224) = false := decide_eq_false (by omega)
  have d2 : decide (224 ≤ (N : Int)) = true := decide_eq_true (by omega)
  have d3 : decide ((N : Int) < 240) = false := decide_eq_false (by omega)
  have d4 : decide (240 ≤ (N : Int)) = true := decide_eq_true (by omega)
  have d5 : decide ((N : Int) < 248) = true := decide_eq_true (by omega)
  go_enter Tryz.func117, Tryz.ntmps117
  go_wp2
  go_loopw [4, 5, 7] (fun lo tp i wr => ∃ k a b : Nat, 1 ≤ k ∧ k ≤ 4 ∧ lo = .int .i64 a ∧ tp = .int .i64 b ∧ i = .int .i64 k ∧ Hid (begGo (4 - k) a b (r.drop (k - 1)) = begGo 3 (N - 240) (N - 240) r) ∧ Hid (a < 64 ^ k ∧ b < 64 ^ k) ∧ wr = w) (fun _ _ i _ => 4 - (intOf i).toNat)
  case atStart => exact ⟨1, N - 240, N - 240, by omega, by omega, by go_num, by go_num, rfl, hid rfl, hid ⟨by omega, by omega⟩, rfl⟩
  case round =>
    obtain ⟨k, a, b, hk1, hk2, rfl, rfl, rfl, hI, hP, rfl⟩ := hrel
    by_cases hk : k < 4
    · have ha := pow64 hP.out.1 (by omega)
      have hb := pow64 hP.out.2 (by omega)
      obtain ⟨j, rfl⟩ : ∃ j, k = j + 1 := ⟨k - 1, by omega⟩
      rw [Nat.add_sub_cancel, show 4 - (j + 1) = (2 - j) + 1 by omega] at hI
      by_cases hj : j < r.length
      · have hg := HG.out j hj
        have hd : r.drop j = r[j] :: r.drop (j + 1) := List.drop_eq_getElem_cons hj
        rw [hd] at hI
        generalize r[j] = x at *
        clear hd
        by_cases hx : x.toNat < 128 ∨ 191 < x.toNat
        · rw [begGo_no hx] at hI
          have HR := hid (show res = 0 by rw [HB.out, ← hI.out]; rfl)
          clear hI
          rcases hx with hx | hx
          · go_wp2
            go_ret
            rw [HR.out]
            exact ⟨rfl, Fr.refl _ _⟩
          · go_wp2
            go_ret
            rw [HR.out]
            exact ⟨rfl, Fr.refl _ _⟩
        · rw [begGo_yes hx] at hI
          have q1 := hid (pow64_up (x := x.toNat - 128) hP.out.1 (by omega))
          have q2 := hid (pow64_up (x := x.toNat - 128) hP.out.2 (by omega))
          have hx1 : ¬ x.toNat < 128 := by omega
          have hx2 : ¬ 191 < x.toNat := by omega
          clear hx
          go_wp2
          go_roundw
          case rel => exact ⟨j + 1 + 1, 64 * a + x.toNat - 128, 64 * b + x.toNat - 128, by omega, by omega, by go_num, by go_num, by go_num, hid (by rw [show 4 - (j + 1 + 1) = 2 - j by omega, show j + 1 + 1 - 1 = j + 1 by omega]; exact hI.out), hid ⟨by have := q1.out; omega, by have := q2.out; omega⟩, trivial⟩
          case measure => simp [intOf]; omega
      · rw [List.drop_eq_nil_of_le (by omega), begGo] at hI
        have q1 := hid (pow64_up (x := 0) hP.out.1 (by omega))
        have q2 := hid (pow64_up (x := 63) hP.out.2 (by omega))
        go_wp2
        go_roundw
        case rel => exact ⟨j + 1 + 1, 64 * a, 64 * b + 63, by omega, by omega, by go_num, by go_num, by go_num, hid (by rw [show 4 - (j + 1 + 1) = 2 - j by omega, show j + 1 + 1 - 1 = j + 1 by omega, List.drop_eq_nil_of_le (by omega)]; exact hI.out), hid ⟨by have := q1.out; omega, by have := q2.out; omega⟩, trivial⟩
        case measure => simp [intOf]; omega
    · obtain rfl : k = 4 := by omega
      have ha := pow64_top hP.out.1 (by omega)
      have hb := pow64_top hP.out.2 (by omega)
      rw [Nat.sub_self, begGo] at hI
      have HR := hid (show res = begOk 4 a b by rw [HB.out, ← hI.out]; rfl)
      clear hI
      by_cases hno : b < 65536 ∨ 1114111 < a ∨ (55296 ≤ a ∧ b ≤ 57343)
      · have HR2 := hid (HR.out.trans (begOk_no (by rw [least4]; exact hno)))
        by_cases n1 : b < 65536
        · clear hno
          go_wp2
          go_ret
          rw [HR2.out]
          exact ⟨rfl, HF.out _⟩
        · by_cases n2 : 1114111 < a
          · clear hno
            go_wp2
            go_ret
            rw [HR2.out]
            exact ⟨rfl, HF.out _⟩
          · exfalso
            omega
      · have HR2 := hid (HR.out.trans (begOk_yes (by rw [least4]; exact hno)))
        have n1 : ¬ b < 65536 := by omega
        have n2 : ¬ 1114111 < a := by omega
        by_cases n3 : 55296 ≤ a
        · have n4 : ¬ b ≤ 57343 := by omega
          clear hno
          go_wp2
          go_ret
          rw [HR2.out]
          exact ⟨rfl, HF.out _⟩
        · clear hno
          go_wp2
          go_ret
          rw [HR2.out]
          exact ⟨rfl, HF.out _⟩
set_option maxRecDepth 100000 in
set_option maxHeartbeats 8000000 in
theorem begins_any (c : UInt8) (r : List UInt8) (w : World) (hr : r.length ≤ 1000000000) :
    Calls Tryz.prog 117 #[.string (ofL (c :: r))] w fun x w' => x = .returned (.int .i64 ((beginsV (c :: r) : Nat) : Int)) ∧ Fr (fun _ => False) w w' := by
  by_cases h2 : 192 ≤ c.toNat ∧ c.toNat < 224
  · exact begins_2 c r w hr h2
  by_cases h3 : 224 ≤ c.toNat ∧ c.toNat < 240
  · exact begins_3 c r w hr h3
  by_cases h4 : 240 ≤ c.toNat ∧ c.toNat < 248
  · exact begins_4 c r w hr h4
  have HB := hid (show beginsV (c :: r) = 0 from begN0 (by omega) r)
  obtain ⟨str, hstr⟩ : ∃ str, ofL (c :: r) = str := ⟨_, rfl⟩
  have hsz : str.size = r.length + 1 := by rw [← hstr]; exact ofL_size (c :: r)
  have hg0 : str[0]'(by rw [hsz]; omega) = c := by subst hstr; exact ofL_get (c :: r) 0 _
  rw [hstr]
  have hN : c.toNat < 192 ∨ 248 ≤ c.toNat := by omega
  generalize hres : beginsV (c :: r) = res at *
  clear hstr hres h2 h3 h4
  rcases hN with hN | hN
  · have d0 : decide (192 ≤ (c.toNat : Int)) = false := decide_eq_false (by omega)
    have d1 : decide (224 ≤ (c.toNat : Int)) = false := decide_eq_false (by omega)
    have d2 : decide (240 ≤ (c.toNat : Int)) = false := decide_eq_false (by omega)
    go_enter Tryz.func117, Tryz.ntmps117
    go_wp2
    go_ret
    rw [HB.out]
    exact ⟨rfl, Fr.refl _ _⟩
  · have hlt : c.toNat < 256 := c.toNat_lt
    have d0 : decide (192 ≤ (c.toNat : Int)) = true := decide_eq_true (by omega)
    have d1 : decide ((c.toNat : Int) < 224) = false := decide_eq_false (by omega)
    have d2 : decide (224 ≤ (c.toNat : Int)) = true := decide_eq_true (by omega)
    have d3 : decide ((c.toNat : Int) < 240) = false := decide_eq_false (by omega)
    have d4 : decide (240 ≤ (c.toNat : Int)) = true := decide_eq_true (by omega)
    have d5 : decide ((c.toNat : Int) < 248) = false := decide_eq_false (by omega)
    go_enter Tryz.func117, Tryz.ntmps117
    go_wp2
    go_ret
    rw [HB.out]
    exact ⟨rfl, Fr.refl _ _⟩
end Go.Proofs.YtmkkibaacclhnaaGreat

namespace Go.Proofs.YtmkkibaacclhnaaGreat
open Go.RowKit

/-- what a rule leaves that makes no item -/
def TPost {α : Type} (B : Nat) (w0 : World) (l : List UInt8) (inn d : Nat) (vi : Value) (its : List It) (good : α → Value) (bad : Value) (U : RO α) (x : Ending) (w' : World) : Prop :=
  match U with
  | .ok a q => x = .returned (good a) ∧ SC B w0 w' l q inn d vi its 0 false false
  | .wrong n q => x = .returned bad ∧ SC B w0 w' l q inn d vi its n false false
  | .ended => x = .returned bad ∧ SC B w0 w' l [] inn d vi its 0 true false
def uGood (m : Nat) : Value := .tuple #[.int .i64 (m : Int), .bool true]
def uBad : Value := .tuple #[.int .i64 0, .bool false]
theorem unit_yes {low : Bool} {k n h : Nat} {c : UInt8} {r : List UInt8} (hv : hexV c = some h) (h1 : ¬ (low = true ∧ ((k = 3 ∧ 16 * n + h ≠ 13) ∨ (k = 2 ∧ 16 * n + h < 220)))) (h2 : ¬ (low = false ∧ k = 2 ∧ 220 ≤ 16 * n + h ∧ 16 * n + h < 224)) : unitGo low (k + 1) n (c :: r) = unitGo low k (16 * n + h) r := by
  rw [unitGo, hv]
  simp only
  rw [if_neg h1, if_neg h2]
theorem unit_bad {low : Bool} {k n h : Nat} {c : UInt8} {r : List UInt8} (hv : hexV c = some h) (h1 : (low = true ∧ ((k = 3 ∧ 16 * n + h ≠ 13) ∨ (k = 2 ∧ 16 * n + h < 220))) ∨ (low = false ∧ k = 2 ∧ 220 ≤ 16 * n + h ∧ 16 * n + h < 224)) : unitGo low (k + 1) n (c :: r) = .wrong 5 (c :: r) := by
  rw [unitGo, hv]
  simp only
  rcases h1 with h1 | h1
  · rw [if_pos h1]
  · rw [if_neg (by rintro ⟨h, _⟩; rw [h1.1] at h; cases h), if_pos h1]
theorem unit_none {low : Bool} {k n : Nat} {c : UInt8} {r : List UInt8} (hv : hexV c = none) : unitGo low (k + 1) n (c :: r) = .wrong 3 (c :: r) := by
  rw [unitGo, hv]
set_option maxRecDepth 100000 in
set_option maxHeartbeats 40000000 in
theorem unit_any (low : Bool) (B : Nat) (w0 w : World) (l p : List UInt8) (inn d : Nat) (vi : Value) (its : List It) (hl : l.length ≤ 100000000) (h : SC B w0 w l p inn d vi its 0 false false) :
    Calls Tryz.prog 115 #[.pointer (some ⟨B, 0, none⟩), .bool low] w (TPost B w0 l inn d vi its uGood uBad (unitGo low 4 0 p)) := by
  have H := hid h
  clear h
  obtain ⟨U, hU⟩ : ∃ U, unitGo low 4 0 p = U := ⟨_, rfl⟩
  rw [hU]
  have HU := hid hU
  clear hU
  go_enter Tryz.func115, Tryz.ntmps115
  go_wp2
  go_loopw [6, 7] (fun nn i wr => ∃ (k n : Nat) (p' : List UInt8), k ≤ 4 ∧ n < 65536 ∧ Hid (n < 16 ^ k) ∧ nn = .int .i64 n ∧ i = .int .i64 k ∧ Hid (SC B w0 wr l p' inn d vi its 0 false false) ∧ Hid (unitGo low (4 - k) n p' = U)) (fun _ i _ => 4 - (intOf i).toNat)
  case atStart => exact ⟨0, 0, p, by omega, by omega, hid (by decide), rfl, rfl, H, HU⟩
  case round =>
    obtain ⟨k, n, p', hk4, hn, hP, rfl, rfl, hI, hG⟩ := hrel
    by_cases hk : k < 4
    · cases p' with
      | nil =>
        rw [show 4 - k = (3 - k) + 1 by omega, unitGo] at hG
        have hM := hid (more_no B w0 wr l inn d vi its 0 false false hI.out)
        go_wp2_with fail
        refine Calls.mono hM.out ?_
        rintro x w3 ⟨rfl, hC⟩
        have HC := hid hC
        clear hC
        go_wp2
        go_ret2
        rw [← hG.out]
        exact ⟨rfl, HC.out⟩
      | cons c q =>
        have hsz := ofL_size l
        have hM := hid (more_yes B w0 wr l c q inn d vi its 0 false false hI.out)
        have HX := hid (fun w => rhex_any c w)
        rw [show 4 - k = (3 - k) + 1 by omega] at hG
        cases hv : hexV c with
        | none =>
          rw [unit_none hv] at hG
          rw [hv] at HX
          change Hid (∀ w, Calls Tryz.prog 124 #[.int .u8 (c.toNat : Int)] w fun x w' => x = .returned (.int .i64 (-1)) ∧ w' = w) at HX
          clear hv
          go_wp2_with fail
          refine Calls.mono hM.out ?_
          rintro x w2 ⟨rfl, hw2⟩
          have hI2 : SC B w0 w2 l (c :: q) inn d vi its 0 false false := hw2 ▸ hI.out.drew
          clear hw2
          obtain ⟨hkk, hg⟩ := suf_get hI2.suf
          have k0 := blk_cell hI2.blk (show (scCells l (l.length - (c :: q).length) inn d vi 0 false false)[0]? = some (.string (ofL l)) from rfl)
          have k1 := blk_cell hI2.blk (show (scCells l (l.length - (c :: q).length) inn d vi 0 false false)[1]? = some (.int .i64 ((l.length - (c :: q).length : Nat) : Int)) from rfl)
          have f1 := blk_free (j := 1) hI2.blk
          have hgc : (ofL l)[l.length - (c :: q).length]'(by rw [hsz]; exact hkk) = c := (ofL_get l _ _).trans hg
          have hst := hid (fun n => (hI2.drewN n).step)
          have hFl := hid (fun n e => fails_any B w0 (w2.drewN n) l (c :: q) inn d vi its 0 e false false (hI2.drewN n))
          generalize l.length - (c :: q).length = pos at *
          clear hg hI2
          go_wp2
          go_quiet ((go_at_call 124; exact Calls.quiet_of_same (HX.out _)))
          go_wp2_with fail
          refine Calls.mono (hFl.out _ 3) ?_
          rintro x w3 ⟨rfl, hC⟩
          have HC := hid hC
          clear hC
          go_wp2
          go_ret2
          rw [← hG.out]
          exact ⟨rfl, HC.out⟩
        | some h =>
          have hh := hexV_lt hv
          rw [hv] at HX
          change Hid (∀ w, Calls Tryz.prog 124 #[.int .u8 (c.toNat : Int)] w fun x w' => x = .returned (.int .i64 (h : Int)) ∧ w' = w) at HX
          have HV := hid hv
          clear hv
          go_wp2_with fail
          refine Calls.mono hM.out ?_
          rintro x w2 ⟨rfl, hw2⟩
          have hI2 : SC B w0 w2 l (c :: q) inn d vi its 0 false false := hw2 ▸ hI.out.drew
          clear hw2
          obtain ⟨hkk, hg⟩ := suf_get hI2.suf
          have k0 := blk_cell hI2.blk (show (scCells l (l.length - (c :: q).length) inn d vi 0 false false)[0]? = some (.string (ofL l)) from rfl)
          have k1 := blk_cell hI2.blk (show (scCells l (l.length - (c :: q).length) inn d vi 0 false false)[1]? = some (.int .i64 ((l.length - (c :: q).length : Nat) : Int)) from rfl)
          have f1 := blk_free (j := 1) hI2.blk
          have hgc : (ofL l)[l.length - (c :: q).length]'(by rw [hsz]; exact hkk) = c := (ofL_get l _ _).trans hg
          have hst := hid (fun n => (hI2.drewN n).step)
          have hFl := hid (fun n e => fails_any B w0 (w2.drewN n) l (c :: q) inn d vi its 0 e false false (hI2.drewN n))
          generalize l.length - (c :: q).length = pos at *
          clear hg hI2
          go_wp2
          go_quiet ((go_at_call 124; exact Calls.quiet_of_same (HX.out _)))
          have hm : 16 * n + h < 16 ^ (k + 1) := by rw [Nat.pow_succ]; have := hP.out; omega
          have hkk4 : k = 0 ∨ k = 1 ∨ k = 2 ∨ k = 3 := by omega
          have hm2 : 16 * n + h < 65536 := Nat.lt_of_lt_of_le hm (by rcases hkk4 with rfl | rfl | rfl | rfl <;> decide)
          clear hk hk4
          cases low with
          | true =>
            rcases hkk4 with rfl | rfl | rfl | rfl
            · by_cases hq : 16 * n + h = 13
              · have hq1 : ((16 * (n : Int) + (h : Int)) != 13) = false := by rw [show (16 * (n : Int) + (h : Int)) = 13 by omega]; rfl
                rw [unit_yes HV.out (by rintro ⟨_, ⟨_, h1⟩ | ⟨h1, _⟩⟩; exact h1 hq; omega) (by rintro ⟨h1, _⟩; cases h1)] at hG
                go_wp2
                go_roundw
                case rel => exact ⟨1, 16 * n + h, q, by omega, by omega, hid hm, by go_num, by go_num, hid (hst.out _), hG⟩
                case measure => simp [intOf]
              · have hq1 : ((16 * (n : Int) + (h : Int)) != 13) = true := bne_iff_ne.2 (by omega)
                rw [unit_bad HV.out (.inl ⟨rfl, .inl ⟨rfl, hq⟩⟩)] at hG
                go_wp2_with fail
                refine Calls.mono (hFl.out _ 5) ?_
                rintro x w3 ⟨rfl, hC⟩
                have HC := hid hC
                clear hC
                go_wp2
                go_ret2
                rw [← hG.out]
                exact ⟨rfl, HC.out⟩
            · by_cases hq : 16 * n + h < 220
              · have hq1 : decide ((16 * (n : Int) + (h : Int)) < 220) = true := decide_eq_true (by omega)
                rw [unit_bad HV.out (.inl ⟨rfl, .inr ⟨rfl, hq⟩⟩)] at hG
                go_wp2_with fail
                refine Calls.mono (hFl.out _ 5) ?_
                rintro x w3 ⟨rfl, hC⟩
                have HC := hid hC
                clear hC
                go_wp2
                go_ret2
                rw [← hG.out]
                exact ⟨rfl, HC.out⟩
              · have hq1 : decide ((16 * (n : Int) + (h : Int)) < 220) = false := decide_eq_false (by omega)
                rw [unit_yes HV.out (by rintro ⟨_, ⟨h1, _⟩ | ⟨_, h1⟩⟩; omega; exact hq h1) (by rintro ⟨h1, _⟩; cases h1)] at hG
                go_wp2
                go_roundw
                case rel => exact ⟨2, 16 * n + h, q, by omega, by omega, hid hm, by go_num, by go_num, hid (hst.out _), hG⟩
                case measure => simp [intOf]
            · skip
              rw [unit_yes HV.out (by rintro ⟨_, ⟨h1, _⟩ | ⟨h1, _⟩⟩ <;> omega) (by rintro ⟨h1, _⟩; cases h1)] at hG
              go_wp2
              go_roundw
              case rel => exact ⟨3, 16 * n + h, q, by omega, by omega, hid hm, by go_num, by go_num, hid (hst.out _), hG⟩
              case measure => simp [intOf]
            · skip
              rw [unit_yes HV.out (by rintro ⟨_, ⟨h1, _⟩ | ⟨h1, _⟩⟩ <;> omega) (by rintro ⟨h1, _⟩; cases h1)] at hG
              go_wp2
              go_roundw
              case rel => exact ⟨4, 16 * n + h, q, by omega, by omega, hid hm, by go_num, by go_num, hid (hst.out _), hG⟩
              case measure => simp [intOf]
          | false =>
            rcases hkk4 with rfl | rfl | rfl | rfl
            · skip
              rw [unit_yes HV.out (by rintro ⟨h1, _⟩; cases h1) (by rintro ⟨_, h1, _⟩; omega)] at hG
              go_wp2
              go_roundw
              case rel => exact ⟨1, 16 * n + h, q, by omega, by omega, hid hm, by go_num, by go_num, hid (hst.out _), hG⟩
              case measure => simp [intOf]
            · by_cases hq : 220 ≤ 16 * n + h
              · have hq1 : decide (220 ≤ (16 * (n : Int) + (h : Int))) = true := decide_eq_true (by omega)
                by_cases hr : 16 * n + h < 224
                · have hr1 : decide ((16 * (n : Int) + (h : Int)) < 224) = true := decide_eq_true (by omega)
                  rw [unit_bad HV.out (.inr ⟨rfl, rfl, hq, hr⟩)] at hG
                  go_wp2_with fail
                  refine Calls.mono (hFl.out _ 5) ?_
                  rintro x w3 ⟨rfl, hC⟩
                  have HC := hid hC
                  clear hC
                  go_wp2
                  go_ret2
                  rw [← hG.out]
                  exact ⟨rfl, HC.out⟩
                · have hr1 : decide ((16 * (n : Int) + (h : Int)) < 224) = false := decide_eq_false (by omega)
                  rw [unit_yes HV.out (by rintro ⟨h1, _⟩; cases h1) (by rintro ⟨_, _, _, h1⟩; exact hr h1)] at hG
                  go_wp2
                  go_roundw
                  case rel => exact ⟨2, 16 * n + h, q, by omega, by omega, hid hm, by go_num, by go_num, hid (hst.out _), hG⟩
                  case measure => simp [intOf]
              · have hq1 : decide (220 ≤ (16 * (n : Int) + (h : Int))) = false := decide_eq_false (by omega)
                rw [unit_yes HV.out (by rintro ⟨h1, _⟩; cases h1) (by rintro ⟨_, _, h1, _⟩; exact hq h1)] at hG
                go_wp2
                go_roundw
                case rel => exact ⟨2, 16 * n + h, q, by omega, by omega, hid hm, by go_num, by go_num, hid (hst.out _), hG⟩
                case measure => simp [intOf]
            · skip
              rw [unit_yes HV.out (by rintro ⟨h1, _⟩; cases h1) (by rintro ⟨_, h1, _⟩; omega)] at hG
              go_wp2
              go_roundw
              case rel => exact ⟨3, 16 * n + h, q, by omega, by omega, hid hm, by go_num, by go_num, hid (hst.out _), hG⟩
              case measure => simp [intOf]
            · skip
              rw [unit_yes HV.out (by rintro ⟨h1, _⟩; cases h1) (by rintro ⟨_, h1, _⟩; omega)] at hG
              go_wp2
              go_roundw
              case rel => exact ⟨4, 16 * n + h, q, by omega, by omega, hid hm, by go_num, by go_num, hid (hst.out _), hG⟩
              case measure => simp [intOf]
    · obtain rfl : k = 4 := by omega
      rw [Nat.sub_self, unitGo] at hG
      go_wp2
      go_ret2
      rw [← hG.out]
      exact ⟨rfl, hI.out⟩
end Go.Proofs.YtmkkibaacclhnaaGreat
