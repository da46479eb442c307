/-
  A step of the walk, the part named Sc. No theorem of the row.
-/
import Derived.Test.YtmkkibaacclhnaaGreatDoorSa
namespace Go.Proofs.YtmkkibaacclhnaaGreatDoor
open Go.RowKit

theorem pow64 {k a : Nat} (h : a < 64 ^ k) (hk : k ≤ 3) : a < 262144 := Nat.lt_of_lt_of_le h (Nat.pow_le_pow_right (by omega) hk)
theorem pow64_top {k a : Nat} (h : a < 64 ^ k) (hk : k ≤ 4) : a < 16777216 := Nat.lt_of_lt_of_le h (Nat.pow_le_pow_right (by omega) hk)
theorem pow64_up {k a x : Nat} (h : a < 64 ^ k) (hx : x < 64) : 64 * a + x < 64 ^ (k + 1) := by
  rw [Nat.pow_succ]
  omega
set_option maxRecDepth 100000 in
set_option maxHeartbeats 8000000 in
theorem begins_2 (c : UInt8) (r : List UInt8) (w : World) (hr : r.length ≤ 1000000000) (hc : 192 ≤ c.toNat ∧ c.toNat < 224) :
    Calls Tryz.prog 175 #[.string (ofL (c :: r))] w fun x w' => x = .returned (.int .i64 ((beginsV (c :: r) : Nat) : Int)) ∧ Fr (fun _ => False) w w' := by
  have HB := hid (show beginsV (c :: r) = begEnd 2 (begGo 1 (c.toNat - 192) (c.toNat - 192) r) from begN2 hc r)
  obtain ⟨hc1, hc2⟩ := hc
  obtain ⟨str, hstr⟩ : ∃ str, ofL (c :: r) = str := ⟨_, rfl⟩
  have hsz : str.size = r.length + 1 := by rw [← hstr]; exact ofL_size (c :: r)
  have hg0 : str[0]'(by rw [hsz]; omega) = c := by subst hstr; exact ofL_get (c :: r) 0 _
  have HG := hid (show ∀ k (hk : k < r.length), str[k + 1]'(by rw [hsz]; omega) = r[k] from fun k hk => by subst hstr; exact ofL_get (c :: r) (k + 1) _)
  rw [hstr]
  have HF := hid (show ∀ ob, Fr (fun _ => False) w (w.alloc ob) from fun ob => (Fr.refl _ _).alloc ob)
  obtain ⟨N, hN⟩ : ∃ N, c.toNat = N := ⟨_, rfl⟩
  rw [hN] at hc1 hc2 HB
  generalize hres : beginsV (c :: r) = res at *
  clear hstr hres
  have d0 : decide (192 ≤ (N : Int)) = true := decide_eq_true (by omega)
  have d1 : decide ((N : Int) < 224) = true := decide_eq_true (by omega)
  go_enter Tryz.func175, Tryz.ntmps175
  go_wp2
  go_loopw [4, 5, 7] (fun lo tp i wr => ∃ k a b : Nat, 1 ≤ k ∧ k ≤ 2 ∧ lo = .int .i64 a ∧ tp = .int .i64 b ∧ i = .int .i64 k ∧ Hid (begGo (2 - k) a b (r.drop (k - 1)) = begGo 1 (N - 192) (N - 192) r) ∧ Hid (a < 64 ^ k ∧ b < 64 ^ k) ∧ wr = w) (fun _ _ i _ => 2 - (intOf i).toNat)
  case atStart => exact ⟨1, N - 192, N - 192, by omega, by omega, by go_num, by go_num, rfl, hid rfl, hid ⟨by omega, by omega⟩, rfl⟩
  case round =>
    obtain ⟨k, a, b, hk1, hk2, rfl, rfl, rfl, hI, hP, rfl⟩ := hrel
    by_cases hk : k < 2
    · have ha := pow64 hP.out.1 (by omega)
      have hb := pow64 hP.out.2 (by omega)
      obtain ⟨j, rfl⟩ : ∃ j, k = j + 1 := ⟨k - 1, by omega⟩
      rw [Nat.add_sub_cancel, show 2 - (j + 1) = (0 - j) + 1 by omega] at hI
      by_cases hj : j < r.length
      · have hg := HG.out j hj
        have hd : r.drop j = r[j] :: r.drop (j + 1) := List.drop_eq_getElem_cons hj
        rw [hd] at hI
        generalize r[j] = x at *
        clear hd
        by_cases hx : x.toNat < 128 ∨ 191 < x.toNat
        · rw [begGo_no hx] at hI
          have HR := hid (show res = 0 by rw [HB.out, ← hI.out]; rfl)
          clear hI
          rcases hx with hx | hx
          · go_wp2
            go_ret
            rw [HR.out]
            exact ⟨rfl, Fr.refl _ _⟩
          · go_wp2
            go_ret
            rw [HR.out]
            exact ⟨rfl, Fr.refl _ _⟩
        · rw [begGo_yes hx] at hI
          have q1 := hid (pow64_up (x := x.toNat - 128) hP.out.1 (by omega))
          have q2 := hid (pow64_up (x := x.toNat - 128) hP.out.2 (by omega))
          have hx1 : ¬ x.toNat < 128 := by omega
          have hx2 : ¬ 191 < x.toNat := by omega
          clear hx
          go_wp2
          go_roundw
          case rel => exact ⟨j + 1 + 1, 64 * a + x.toNat - 128, 64 * b + x.toNat - 128, by omega, by omega, by go_num, by go_num, by go_num, hid (by rw [show 2 - (j + 1 + 1) = 0 - j by omega, show j + 1 + 1 - 1 = j + 1 by omega]; exact hI.out), hid ⟨by have := q1.out; omega, by have := q2.out; omega⟩, trivial⟩
          case measure => simp [intOf]; omega
      · rw [List.drop_eq_nil_of_le (by omega), begGo] at hI
        have q1 := hid (pow64_up (x := 0) hP.out.1 (by omega))
        have q2 := hid (pow64_up (x := 63) hP.out.2 (by omega))
        go_wp2
        go_roundw
        case rel => exact ⟨j + 1 + 1, 64 * a, 64 * b + 63, by omega, by omega, by go_num, by go_num, by go_num, hid (by rw [show 2 - (j + 1 + 1) = 0 - j by omega, show j + 1 + 1 - 1 = j + 1 by omega, List.drop_eq_nil_of_le (by omega)]; exact hI.out), hid ⟨by have := q1.out; omega, by have := q2.out; omega⟩, trivial⟩
        case measure => simp [intOf]; omega
    · obtain rfl : k = 2 := by omega
      have ha := pow64_top hP.out.1 (by omega)
      have hb := pow64_top hP.out.2 (by omega)
      rw [Nat.sub_self, begGo] at hI
      have HR := hid (show res = begOk 2 a b by rw [HB.out, ← hI.out]; rfl)
      clear hI
      by_cases hno : b < 128 ∨ 1114111 < a ∨ (55296 ≤ a ∧ b ≤ 57343)
      · have HR2 := hid (HR.out.trans (begOk_no (by rw [least2]; exact hno)))
        by_cases n1 : b < 128
        · clear hno
          go_wp2
          go_ret
          rw [HR2.out]
          exact ⟨rfl, HF.out _⟩
        · by_cases n2 : 1114111 < a
          · clear hno
            go_wp2
            go_ret
            rw [HR2.out]
            exact ⟨rfl, HF.out _⟩
          · have n3 : 55296 ≤ a := by omega
            have n4 : b ≤ 57343 := by omega
            clear hno
            go_wp2
            go_ret
            rw [HR2.out]
            exact ⟨rfl, HF.out _⟩
      · have HR2 := hid (HR.out.trans (begOk_yes (by rw [least2]; exact hno)))
        have n1 : ¬ b < 128 := by omega
        have n2 : ¬ 1114111 < a := by omega
        by_cases n3 : 55296 ≤ a
        · have n4 : ¬ b ≤ 57343 := by omega
          clear hno
          go_wp2
          go_ret
          rw [HR2.out]
          exact ⟨rfl, HF.out _⟩
        · clear hno
          go_wp2
          go_ret
          rw [HR2.out]
          exact ⟨rfl, HF.out _⟩
set_option maxRecDepth 100000 in
set_option maxHeartbeats 8000000 in
theorem begins_3 (c : UInt8) (r : List UInt8) (w : World) (hr : r.length ≤ 1000000000) (hc : 224 ≤ c.toNat ∧ c.toNat < 240) :
    Calls Tryz.prog 175 #[.string (ofL (c :: r))] w fun x w' => x = .returned (.int .i64 ((beginsV (c :: r) : Nat) : Int)) ∧ Fr (fun _ => False) w w' := by
  have HB := hid (show beginsV (c :: r) = begEnd 3 (begGo 2 (c.toNat - 224) (c.toNat - 224) r) from begN3 hc r)
  obtain ⟨hc1, hc2⟩ := hc
  obtain ⟨str, hstr⟩ : ∃ str, ofL (c :: r) = str := ⟨_, rfl⟩
  have hsz : str.size = r.length + 1 := by rw [← hstr]; exact ofL_size (c :: r)
  have hg0 : str[0]'(by rw [hsz]; omega) = c := by subst hstr; exact ofL_get (c :: r) 0 _
  have HG := hid (show ∀ k (hk : k < r.length), str[k + 1]'(by rw [hsz]; omega) = r[k] from fun k hk => by subst hstr; exact ofL_get (c :: r) (k + 1) _)
  rw [hstr]
  have HF := hid (show ∀ ob, Fr (fun _ => False) w (w.alloc ob) from fun ob => (Fr.refl _ _).alloc ob)
  obtain ⟨N, hN⟩ : ∃ N, c.toNat = N := ⟨_, rfl⟩
  rw [hN] at hc1 hc2 HB
  generalize hres : beginsV (c :: r) = res at *
  clear hstr hres
  have d0 : decide (192 ≤ (N : Int)) = true := decide_eq_true (by omega)
  have d1 : decide ((N : Int) < 224) = false := decide_eq_false (by omega)
  have d2 : decide (224 ≤ (N : Int)) = true := decide_eq_true (by omega)
  have d3 : decide ((N : Int) < 240) = true := decide_eq_true (by omega)
  go_enter Tryz.func175, Tryz.ntmps175
  go_wp2
  go_loopw [4, 5, 7] (fun lo tp i wr => ∃ k a b : Nat, 1 ≤ k ∧ k ≤ 3 ∧ lo = .int .i64 a ∧ tp = .int .i64 b ∧ i = .int .i64 k ∧ Hid (begGo (3 - k) a b (r.drop (k - 1)) = begGo 2 (N - 224) (N - 224) r) ∧ Hid (a < 64 ^ k ∧ b < 64 ^ k) ∧ wr = w) (fun _ _ i _ => 3 - (intOf i).toNat)
  case atStart => exact ⟨1, N - 224, N - 224, by omega, by omega, by go_num, by go_num, rfl, hid rfl, hid ⟨by omega, by omega⟩, rfl⟩
  case round =>
    obtain ⟨k, a, b, hk1, hk2, rfl, rfl, rfl, hI, hP, rfl⟩ := hrel
    by_cases hk : k < 3
    · have ha := pow64 hP.out.1 (by omega)
      have hb := pow64 hP.out.2 (by omega)
      obtain ⟨j, rfl⟩ : ∃ j, k = j + 1 := ⟨k - 1, by omega⟩
      rw [Nat.add_sub_cancel, show 3 - (j + 1) = (1 - j) + 1 by omega] at hI
      by_cases hj : j < r.length
      · have hg := HG.out j hj
        have hd : r.drop j = r[j] :: r.drop (j + 1) := List.drop_eq_getElem_cons hj
        rw [hd] at hI
        generalize r[j] = x at *
        clear hd
        by_cases hx : x.toNat < 128 ∨ 191 < x.toNat
        · rw [begGo_no hx] at hI
          have HR := hid (show res = 0 by rw [HB.out, ← hI.out]; rfl)
          clear hI
          rcases hx with hx | hx
          · go_wp2
            go_ret
            rw [HR.out]
            exact ⟨rfl, Fr.refl _ _⟩
          · go_wp2
            go_ret
            rw [HR.out]
            exact ⟨rfl, Fr.refl _ _⟩
        · rw [begGo_yes hx] at hI
          have q1 := hid (pow64_up (x := x.toNat - 128) hP.out.1 (by omega))
          have q2 := hid (pow64_up (x := x.toNat - 128) hP.out.2 (by omega))
          have hx1 : ¬ x.toNat < 128 := by omega
          have hx2 : ¬ 191 < x.toNat := by omega
          clear hx
          go_wp2
          go_roundw
          case rel => exact ⟨j + 1 + 1, 64 * a + x.toNat - 128, 64 * b + x.toNat - 128, by omega, by omega, by go_num, by go_num, by go_num, hid (by rw [show 3 - (j + 1 + 1) = 1 - j by omega, show j + 1 + 1 - 1 = j + 1 by omega]; exact hI.out), hid ⟨by have := q1.out; omega, by have := q2.out; omega⟩, trivial⟩
          case measure => simp [intOf]; omega
      · rw [List.drop_eq_nil_of_le (by omega), begGo] at hI
        have q1 := hid (pow64_up (x := 0) hP.out.1 (by omega))
        have q2 := hid (pow64_up (x := 63) hP.out.2 (by omega))
        go_wp2
        go_roundw
        case rel => exact ⟨j + 1 + 1, 64 * a, 64 * b + 63, by omega, by omega, by go_num, by go_num, by go_num, hid (by rw [show 3 - (j + 1 + 1) = 1 - j by omega, show j + 1 + 1 - 1 = j + 1 by omega, List.drop_eq_nil_of_le (by omega)]; exact hI.out), hid ⟨by have := q1.out; omega, by have := q2.out; omega⟩, trivial⟩
        case measure => simp [intOf]; omega
    · obtain rfl : k = 3 := by omega
      have ha := pow64_top hP.out.1 (by omega)
      have hb := pow64_top hP.out.2 (by omega)
      rw [Nat.sub_self, begGo] at hI
      have HR := hid (show res = begOk 3 a b by rw [HB.out, ← hI.out]; rfl)
      clear hI
      by_cases hno : b < 2048 ∨ 1114111 < a ∨ (55296 ≤ a ∧ b ≤ 57343)
      · have HR2 := hid (HR.out.trans (begOk_no (by rw [least3]; exact hno)))
        by_cases n1 : b < 2048
        · clear hno
          go_wp2
          go_ret
          rw [HR2.out]
          exact ⟨rfl, HF.out _⟩
        · by_cases n2 : 1114111 < a
          · clear hno
            go_wp2
            go_ret
            rw [HR2.out]
            exact ⟨rfl, HF.out _⟩
          · have n3 : 55296 ≤ a := by omega
            have n4 : b ≤ 57343 := by omega
            clear hno
            go_wp2
            go_ret
            rw [HR2.out]
            exact ⟨rfl, HF.out _⟩
      · have HR2 := hid (HR.out.trans (begOk_yes (by rw [least3]; exact hno)))
        have n1 : ¬ b < 2048 := by omega
        have n2 : ¬ 1114111 < a := by omega
        by_cases n3 : 55296 ≤ a
        · have n4 : ¬ b ≤ 57343 := by omega
          clear hno
          go_wp2
          go_ret
          rw [HR2.out]
          exact ⟨rfl, HF.out _⟩
        · clear hno
          go_wp2
          go_ret
          rw [HR2.out]
          exact ⟨rfl, HF.out _⟩
set_option maxRecDepth 100000 in
set_option maxHeartbeats 8000000 in
theorem begins_4 (c : UInt8) (r : List UInt8) (w : World) (hr : r.length ≤ 1000000000) (hc : 240 ≤ c.toNat ∧ c.toNat < 248) :
    Calls Tryz.prog 175 #[.string (ofL (c :: r))] w fun x w' => x = .returned (.int .i64 ((beginsV (c :: r) : Nat) : Int)) ∧ Fr (fun _ => False) w w' := by
  have HB := hid (show beginsV (c :: r) = begEnd 4 (begGo 3 (c.toNat - 240) (c.toNat - 240) r) from begN4 hc r)
  obtain ⟨hc1, hc2⟩ := hc
  obtain ⟨str, hstr⟩ : ∃ str, ofL (c :: r) = str := ⟨_, rfl⟩
  have hsz : str.size = r.length + 1 := by rw [← hstr]; exact ofL_size (c :: r)
  have hg0 : str[0]'(by rw [hsz]; omega) = c := by subst hstr; exact ofL_get (c :: r) 0 _
  have HG := hid (show ∀ k (hk : k < r.length), str[k + 1]'(by rw [hsz]; omega) = r[k] from fun k hk => by subst hstr; exact ofL_get (c :: r) (k + 1) _)
  rw [hstr]
  have HF := hid (show ∀ ob, Fr (fun _ => False) w (w.alloc ob) from fun ob => (Fr.refl _ _).alloc ob)
  obtain ⟨N, hN⟩ : ∃ N, c.toNat = N := ⟨_, rfl⟩
  rw [hN] at hc1 hc2 HB
  generalize hres : beginsV (c :: r) = res at *
  clear hstr hres
  have d0 : decide (192 ≤ (N : Int)) = true := decide_eq_true (by omega)
  have d1 : decide ((N : Int) < 224) = false := decide_eq_false (by omega)
  have d2 : decide (224 ≤ (N : Int)) = true := decide_eq_true (by omega)
  have d3 : decide ((N : Int) < 240) = false := decide_eq_false (by omega)
  have d4 : decide (240 ≤ (N : Int)) = true := decide_eq_true (by omega)
  have d5 : decide ((N : Int) < 248) = true := decide_eq_true (by omega)
  go_enter Tryz.func175, Tryz.ntmps175
  go_wp2
  go_loopw [4, 5, 7] (fun lo tp i wr => ∃ k a b : Nat, 1 ≤ k ∧ k ≤ 4 ∧ lo = .int .i64 a ∧ tp = .int .i64 b ∧ i = .int .i64 k ∧ Hid (begGo (4 - k) a b (r.drop (k - 1)) = begGo 3 (N - 240) (N - 240) r) ∧ Hid (a < 64 ^ k ∧ b < 64 ^ k) ∧ wr = w) (fun _ _ i _ => 4 - (intOf i).toNat)
  case atStart => exact ⟨1, N - 240, N - 240, by omega, by omega, by go_num, by go_num, rfl, hid rfl, hid ⟨by omega, by omega⟩, rfl⟩
  case round =>
    obtain ⟨k, a, b, hk1, hk2, rfl, rfl, rfl, hI, hP, rfl⟩ := hrel
    by_cases hk : k < 4
    · have ha := pow64 hP.out.1 (by omega)
      have hb := pow64 hP.out.2 (by omega)
      obtain ⟨j, rfl⟩ : ∃ j, k = j + 1 := ⟨k - 1, by omega⟩
      rw [Nat.add_sub_cancel, show 4 - (j + 1) = (2 - j) + 1 by omega] at hI
      by_cases hj : j < r.length
      · have hg := HG.out j hj
        have hd : r.drop j = r[j] :: r.drop (j + 1) := List.drop_eq_getElem_cons hj
        rw [hd] at hI
        generalize r[j] = x at *
        clear hd
        by_cases hx : x.toNat < 128 ∨ 191 < x.toNat
        · rw [begGo_no hx] at hI
          have HR := hid (show res = 0 by rw [HB.out, ← hI.out]; rfl)
          clear hI
          rcases hx with hx | hx
          · go_wp2
            go_ret
            rw [HR.out]
            exact ⟨rfl, Fr.refl _ _⟩
          · go_wp2
            go_ret
            rw [HR.out]
            exact ⟨rfl, Fr.refl _ _⟩
        · rw [begGo_yes hx] at hI
          have q1 := hid (pow64_up (x := x.toNat - 128) hP.out.1 (by omega))
          have q2 := hid (pow64_up (x := x.toNat - 128) hP.out.2 (by omega))
          have hx1 : ¬ x.toNat < 128 := by omega
          have hx2 : ¬ 191 < x.toNat := by omega
          clear hx
          go_wp2
          go_roundw
          case rel => exact ⟨j + 1 + 1, 64 * a + x.toNat - 128, 64 * b + x.toNat - 128, by omega, by omega, by go_num, by go_num, by go_num, hid (by rw [show 4 - (j + 1 + 1) = 2 - j by omega, show j + 1 + 1 - 1 = j + 1 by omega]; exact hI.out), hid ⟨by have := q1.out; omega, by have := q2.out; omega⟩, trivial⟩
          case measure => simp [intOf]; omega
      · rw [List.drop_eq_nil_of_le (by omega), begGo] at hI
        have q1 := hid (pow64_up (x := 0) hP.out.1 (by omega))
        have q2 := hid (pow64_up (x := 63) hP.out.2 (by omega))
        go_wp2
        go_roundw
        case rel => exact ⟨j + 1 + 1, 64 * a, 64 * b + 63, by omega, by omega, by go_num, by go_num, by go_num, hid (by rw [show 4 - (j + 1 + 1) = 2 - j by omega, show j + 1 + 1 - 1 = j + 1 by omega, List.drop_eq_nil_of_le (by omega)]; exact hI.out), hid ⟨by have := q1.out; omega, by have := q2.out; omega⟩, trivial⟩
        case measure => simp [intOf]; omega
    · obtain rfl : k = 4 := by omega
      have ha := pow64_top hP.out.1 (by omega)
      have hb := pow64_top hP.out.2 (by omega)
      rw [Nat.sub_self, begGo] at hI
      have HR := hid (show res = begOk 4 a b by rw [HB.out, ← hI.out]; rfl)
      clear hI
      by_cases hno : b < 65536 ∨ 1114111 < a ∨ (55296 ≤ a ∧ b ≤ 57343)
      · have HR2 := hid (HR.out.trans (begOk_no (by rw [least4]; exact hno)))
        by_cases n1 : b < 65536
        · clear hno
          go_wp2
          go_ret
          rw [HR2.out]
          exact ⟨rfl, HF.out _⟩
        · by_cases n2 : 1114111 < a
          · clear hno
            go_wp2
            go_ret
            rw [HR2.out]
            exact ⟨rfl, HF.out _⟩
          · exfalso
            omega
      · have HR2 := hid (HR.out.trans (begOk_yes (by rw [least4]; exact hno)))
        have n1 : ¬ b < 65536 := by omega
        have n2 : ¬ 1114111 < a := by omega
        by_cases n3 : 55296 ≤ a
        · have n4 : ¬ b ≤ 57343 := by omega
          clear hno
          go_wp2
          go_ret
          rw [HR2.out]
          exact ⟨rfl, HF.out _⟩
        · clear hno
          go_wp2
          go_ret
          rw [HR2.out]
          exact ⟨rfl, HF.out _⟩
set_option maxRecDepth 100000 in
set_option maxHeartbeats 8000000 in
theorem begins_any (c : UInt8) (r : List UInt8) (w : World) (hr : r.length ≤ 1000000000) :
    Calls Tryz.prog 175 #[.string (ofL (c :: r))] w fun x w' => x = .returned (.int .i64 ((beginsV (c :: r) : Nat) : Int)) ∧ Fr (fun _ => False) w w' := by
  by_cases h2 : 192 ≤ c.toNat ∧ c.toNat < 224
  · exact begins_2 c r w hr h2
  by_cases h3 : 224 ≤ c.toNat ∧ c.toNat < 240
  · exact begins_3 c r w hr h3
  by_cases h4 : 240 ≤ c.toNat ∧ c.toNat < 248
  · exact begins_4 c r w hr h4
  have HB := hid (show beginsV (c :: r) = 0 from begN0 (by omega) r)
  obtain ⟨str, hstr⟩ : ∃ str, ofL (c :: r) = str := ⟨_, rfl⟩
  have hsz : str.size = r.length + 1 := by rw [← hstr]; exact ofL_size (c :: r)
  have hg0 : str[0]'(by rw [hsz]; omega) = c := by subst hstr; exact ofL_get (c :: r) 0 _
  rw [hstr]
  have hN : c.toNat < 192 ∨ 248 ≤ c.toNat := by omega
  generalize hres : beginsV (c :: r) = res at *
  clear hstr hres h2 h3 h4
  rcases hN with hN | hN
  · have d0 : decide (192 ≤ (c.toNat : Int)) = false := decide_eq_false (by omega)
    have d1 : decide (224 ≤ (c.toNat : Int)) = false := decide_eq_false (by omega)
    have d2 : decide (240 ≤ (c.toNat : Int)) = false := decide_eq_false (by omega)
    go_enter Tryz.func175, Tryz.ntmps175
    go_wp2
    go_ret
    rw [HB.out]
    exact ⟨rfl, Fr.refl _ _⟩
  · have hlt : c.toNat < 256 := c.toNat_lt
    have d0 : decide (192 ≤ (c.toNat : Int)) = true := decide_eq_true (by omega)
    have d1 : decide ((c.toNat : Int) < 224) = false := decide_eq_false (by omega)
    have d2 : decide (224 ≤ (c.toNat : Int)) = true := decide_eq_true (by omega)
    have d3 : decide ((c.toNat : Int) < 240) = false := decide_eq_false (by omega)
    have d4 : decide (240 ≤ (c.toNat : Int)) = true := decide_eq_true (by omega)
    have d5 : decide ((c.toNat : Int) < 248) = false := decide_eq_false (by omega)
    go_enter Tryz.func175, Tryz.ntmps175
    go_wp2
    go_ret
    rw [HB.out]
    exact ⟨rfl, Fr.refl _ _⟩
end Go.Proofs.YtmkkibaacclhnaaGreatDoor
