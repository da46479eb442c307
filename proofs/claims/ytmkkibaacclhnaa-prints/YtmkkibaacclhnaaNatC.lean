/-
  A step of the walk of the numbers, the part named NatC. No theorem of the row.
-/
import Derived.Test.YtmkkibaacclhnaaNatA
import Derived.Test.YtmkkibaacclhnaaNatB
import Derived.Test.YtmkkibaacclhnaaBits
import Derived.Deep.RegionWith
namespace Go.Proofs.Ytmkkibaacclhnaa
open Go.RowKit

/-- How many bits a number has. -/
def nlen (n : Nat) : Nat := if n = 0 then 0 else Nat.log2 n + 1
theorem nlen_lt (n : Nat) : n < 2 ^ nlen n := by
  unfold nlen
  split
  · omega
  · exact Nat.lt_log2_self
theorem nlen_ge (n : Nat) (h : n ≠ 0) : 2 ^ nlen n ≤ 2 * n := by
  unfold nlen
  rw [if_neg h, Nat.pow_succ]
  have := Nat.log2_self_le h
  omega
theorem nlen_of (n L : Nat) (h0 : n ≠ 0) (h1 : n < 2 ^ L) (h2 : 2 ^ L ≤ 2 * n) : nlen n = L := by
  have a := nlen_lt n
  have b := nlen_ge n h0
  have c : 2 ^ nlen n < 2 ^ (L + 1) := by rw [Nat.pow_succ]; omega
  have d : 2 ^ L < 2 ^ (nlen n + 1) := by rw [Nat.pow_succ]; omega
  have := (Nat.pow_lt_pow_iff_right (by omega : 1 < 2)).1 c
  have := (Nat.pow_lt_pow_iff_right (by omega : 1 < 2)).1 d
  omega
theorem aux_bounds : ∀ f x : Nat, x < 2 ^ f → x < 2 ^ Lib.bitLenAux f x ∧ (x ≠ 0 → 2 ^ Lib.bitLenAux f x ≤ 2 * x)
  | 0, x, h => by simp [Lib.bitLenAux]; omega
  | f + 1, x, h => by
    rw [Nat.pow_succ] at h
    unfold Lib.bitLenAux
    by_cases hx : x = 0
    · simp [hx]
    · rw [if_neg hx]
      obtain ⟨a, b⟩ := aux_bounds f (x / 2) (by omega)
      rw [Nat.add_comm 1, Nat.pow_succ]
      refine ⟨by omega, fun _ => ?_⟩
      by_cases h2 : x / 2 = 0
      · have h3 : Lib.bitLenAux f 0 = 0 := by cases f <;> simp [Lib.bitLenAux]
        rw [h2, h3]; omega
      · have := b h2; omega
theorem bitLen_nlen (x : Nat) (h : x < 18446744073709551616) : Lib.bitLen x = nlen x := by
  obtain ⟨a, b⟩ := aux_bounds 64 x h
  by_cases hx : x = 0
  · subst hx; rfl
  · exact (nlen_of x _ hx a (b hx)).symm
theorem pow32 (k : Nat) : 4294967296 ^ k = 2 ^ (32 * k) := by rw [show (4294967296 : Nat) = 2 ^ 32 from rfl, ← Nat.pow_mul]

theorem nlen_words (i : List Nat) (x : Nat) (hi : Limbs i) (hx0 : x ≠ 0) : nlen (val (i ++ [x])) = i.length * 32 + nlen x := by
  have a := val_lt i hi
  have b := nlen_lt x
  have c := nlen_ge x hx0
  rw [val_snoc, pow32] at *
  rw [Nat.mul_comm i.length 32]
  have hp : 0 < 2 ^ (32 * i.length) := Nat.two_pow_pos _
  apply nlen_of
  · have : 0 < 2 ^ (32 * i.length) * x := Nat.mul_pos hp (by omega)
    omega
  · rw [Nat.pow_add]
    have : 2 ^ (32 * i.length) * (x + 1) ≤ 2 ^ (32 * i.length) * 2 ^ nlen x := Nat.mul_le_mul_left _ (by omega)
    rw [Nat.mul_add] at this
    omega
  · rw [Nat.pow_add]
    have : 2 ^ (32 * i.length) * 2 ^ nlen x ≤ 2 ^ (32 * i.length) * (2 * x) := Nat.mul_le_mul_left _ c
    have e : 2 ^ (32 * i.length) * (2 * x) = 2 * (2 ^ (32 * i.length) * x) := by rw [Nat.mul_left_comm]
    omega

theorem nlen_le (n k : Nat) (h : n < 2 ^ k) : nlen n ≤ k := by
  by_cases hn : n = 0
  · simp [nlen, hn]
  · have b := nlen_ge n hn
    have c : 2 ^ nlen n < 2 ^ (k + 1) := by rw [Nat.pow_succ]; omega
    have := (Nat.pow_lt_pow_iff_right (by omega : 1 < 2)).1 c
    omega

set_option maxHeartbeats 400000 in
/-- 'length': how many bits it has. -/
theorem length_nt (b g N : Nat) (w : World) (hS : Sm N) (hN : Nt w b g N) :
    Calls Try.prog 102 #[.pointer (some ⟨b, 0, none⟩)] w fun e w' => e = .returned (.int .i64 (nlen N : Nat)) ∧ w' = w := by
  obtain ⟨ws, ⟨cap, T, hb, ho, hne⟩, h2, h3, rfl⟩ := hN
  have hl := hS.len h3
  clear hS
  have hbc := cell_of_one hb
  rcases List.eq_nil_or_concat ws with rfl | ⟨i, x, rfl⟩
  · go_enter Try.func102, Try.ntmps102
    simp only [List.length_nil] at *
    go_wp2
    go_ret
    exact ⟨rfl, rfl⟩
  · rw [List.concat_eq_append] at *
    have hx0 : x ≠ 0 := by intro e; apply h3; simp [e]
    have hx : x < 4294967296 := h2 x (by simp)
    have hcx := nat_cell ho i.length (by simp)
    rw [List.getElem_concat_length rfl (by simp)] at hcx
    have HV := nlen_words i x h2.left hx0
    have HV2 : Hid _ := HV
    clear HV
    have hle := nlen_le x 32 hx
    have hcap := ownsRow_cap ho
    have hz : (((i.length + 1 : Nat) : Int) == 0) = false := by simp; omega
    simp only [List.length_append, List.length_cons, List.length_nil, Nat.zero_add] at hb ho hbc hl hcap
    go_enter Try.func102, Try.ntmps102
    go_wp2_with (go_at_call 121; refine (len32_any _ _ (by omega) (by omega)).mono ?_; rintro e w' ⟨rfl, rfl⟩; rw [Int.toNat_natCast, bitLen_nlen _ (by omega)])
    go_ret
    refine ⟨congrArg Ending.returned (congrArg (Value.int IntKind.i64) ?_), rfl⟩
    rw [HV2.out]
    omega

end Go.Proofs.Ytmkkibaacclhnaa
