/-
  A step of the walk of the numbers, the part named Bt: what is inside, by the document's answer, rounds to the number. No theorem of the row.
-/
import Derived.Test.YtmkkibaacclhnaaBp
namespace Go.Proofs.Ytmkkibaacclhnaa
open Go.RowKit

theorem bcmp_lt (a b : Nat) : bcmp a b < 0 ↔ a < b := by
  unfold bcmp
  split
  · rename_i h; simp [h]
  · rename_i h; split <;> simp [h]
theorem bcmp_eq (a b : Nat) : bcmp a b = 0 ↔ a = b := by
  unfold bcmp
  split
  · rename_i h; constructor
    · intro h2; omega
    · intro h2; omega
  · split
    · rename_i h2; simp [h2]
    · rename_i h2; simp [h2]
theorem bcmp_gt (a b : Nat) : 0 < bcmp a b ↔ b < a := by
  unfold bcmp
  split
  · rename_i h; constructor
    · intro h2; omega
    · intro h2; omega
  · split
    · rename_i h h2; constructor
      · intro h3; omega
      · intro h3; omega
    · constructor
      · intro _; omega
      · intro _; omega
theorem bcmp_scale (a b t : Nat) (ht : 0 < t) : bcmp (a * t) (b * t) = bcmp a b := by
  unfold bcmp
  have h1 : a * t < b * t ↔ a < b := Nat.mul_lt_mul_right ht
  have h2 : a * t = b * t ↔ a = b := Nat.mul_left_inj (by omega)
  simp only [h1, h2]

/-- powers of two, on whichever side -/
theorem bcmp_two (A C E s : Nat) (e : Int) (he : e = (E : Int) - (s : Int)) : bcmp (A * 2 ^ (-e).toNat) (C * 2 ^ e.toNat) = bcmp (A * p2 s) (C * p2 E) := by
  show bcmp (A * p2 (-e).toNat) (C * p2 e.toNat) = _
  rcases Nat.le_total E s with h | h
  · rw [show e.toNat = 0 by omega, show p2 0 = 1 from rfl, Nat.mul_one, ← bcmp_scale _ _ (p2 E) (p2_pos E), Nat.mul_assoc, ← p2_add, show (-e).toNat + E = s by omega]
  · rw [show (-e).toNat = 0 by omega, show p2 0 = 1 from rfl, Nat.mul_one, ← bcmp_scale _ _ (p2 s) (p2_pos s), Nat.mul_assoc, ← p2_add, show e.toNat + s = E by omega]

theorem p2_1075 : p2 1075 = 2 * p2 1074 := p2_succ 1074
theorem p2_1076 : p2 1076 = 4 * p2 1074 := by
  rw [show p2 1076 = 2 * p2 1075 from p2_succ 1075, p2_1075, ← Nat.mul_assoc]

theorem insV_iff (A B m : Nat) (hm0 : m ≠ 0) : insV A B m = true ↔ Rnd (A * p2 1074) B m := by
  have hV := manE_V m
  have hH := gapH_eq m
  have hL := gapL_eq m hm0
  have h1 := mid_high m
  have h2 := mid_low m hm0
  have hQ : ((manE m).1 = 4503599627370496 ∧ 1 < m / 4503599627370496) ↔ ((manE m).1 = 4503599627370496 ∧ 0 < (manE m).2) := by
    unfold manE
    by_cases h : m / 4503599627370496 = 0
    · rw [if_pos h]; simp only; omega
    · rw [if_neg h]; simp only; omega
  have hn : 0 < (manE m).1 := by
    obtain ⟨e1, e2⟩ := manE_eq m
    omega
  unfold lowQ at hL
  unfold insV insF insB
  generalize (manE m).1 = n at *
  generalize (manE m).2 = E at *
  rw [bcmp_two A (B * (2 * n + 1)) E 1075 _ (by omega)]
  have hab : B * (2 * n + 1) * p2 E = mid m * B := by
    rw [h1, hV, hH, Nat.mul_comm B, Nat.mul_right_comm, Nat.add_mul, Nat.one_mul, Nat.mul_assoc 2]
  have hA : A * p2 1075 = 2 * (A * p2 1074) := by rw [p2_1075, Nat.mul_left_comm]
  have hA2 : A * p2 1076 = 4 * (A * p2 1074) := by rw [p2_1076, Nat.mul_left_comm]
  have hbe : (if n = 4503599627370496 ∧ 1 < m / 4503599627370496 then bcmp (A * 2 ^ (-((E : Int) - 1074 - 2)).toNat) (B * (4 * n - 1) * 2 ^ ((E : Int) - 1074 - 2).toNat) else bcmp (A * 2 ^ (-((E : Int) - 1074 - 1)).toNat) (B * (2 * n - 1) * 2 ^ ((E : Int) - 1074 - 1).toNat)) = bcmp (2 * (A * p2 1074)) (mid (m - 1) * B) := by
    by_cases hb : n = 4503599627370496 ∧ 0 < E
    · rw [if_pos (hQ.2 hb), bcmp_two A (B * (4 * n - 1)) E 1076 _ (by omega), hA2]
      rw [if_pos hb, Nat.one_mul] at hL
      have hmid : 2 * mid (m - 1) = (4 * n - 1) * p2 E := by
        rw [Nat.sub_mul, Nat.one_mul]
        have : 4 * n * p2 E = 4 * (n * p2 E) := Nat.mul_assoc ..
        have := p2_pos E
        generalize n * p2 E = z at *
        generalize p2 E = y at *
        omega
      rw [Nat.mul_comm B, Nat.mul_right_comm, ← hmid, ← bcmp_scale (2 * (A * p2 1074)) (mid (m - 1) * B) 2 (by omega)]
      generalize A * p2 1074 = x
      rw [show 4 * x = 2 * x * 2 by omega, show 2 * mid (m - 1) * B = mid (m - 1) * B * 2 by rw [Nat.mul_assoc, Nat.mul_comm]]
    · rw [if_neg (fun h => hb (hQ.1 h)), bcmp_two A (B * (2 * n - 1)) E 1075 _ (by omega), hA]
      rw [if_neg hb] at hL
      have hmid : mid (m - 1) = (2 * n - 1) * p2 E := by
        rw [Nat.sub_mul, Nat.one_mul]
        have : 2 * n * p2 E = 2 * (n * p2 E) := Nat.mul_assoc ..
        generalize n * p2 E = z at *
        generalize p2 E = y at *
        omega
      rw [hmid, Nat.mul_comm B, Nat.mul_right_comm]
  rw [hbe, hab, hA]
  unfold Rnd
  simp only [Bool.and_eq_true, Bool.or_eq_true, decide_eq_true_eq, bcmp_lt, bcmp_eq, bcmp_gt]
  generalize 2 * (A * p2 1074) = x
  generalize mid m * B = y
  generalize mid (m - 1) * B = z
  constructor
  · rintro ⟨a, b⟩
    refine ⟨?_, ?_⟩
    · rcases b with b | ⟨b, c⟩
      · exact .inr (.inl b)
      · exact .inr (.inr ⟨b.symm, c⟩)
    · exact a
  · rintro ⟨a, b⟩
    refine ⟨b, ?_⟩
    rcases a with a | a | ⟨a, c⟩
    · exact absurd a hm0
    · exact .inl a
    · exact .inr ⟨a.symm, c⟩
end Go.Proofs.Ytmkkibaacclhnaa
