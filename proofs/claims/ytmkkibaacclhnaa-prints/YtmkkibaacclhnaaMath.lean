/-
  A step of the walk of the numbers, the part named Math. No theorem of the row.
-/
import Derived.Test.YtmkkibaacclhnaaShort
namespace Go.Proofs.Ytmkkibaacclhnaa
open Go.RowKit

theorem core_low {x c L P U Y v gl M : Nat} (hP : 0 < P) (hU : 0 < U) (h1 : (c * U + x) * P = v * (U * Y)) (h2 : 2 * L * P = gl * (U * Y)) (h3 : M + gl = 2 * v) :
    (x < L ↔ M * Y < 2 * (c * P)) ∧ (x = L ↔ M * Y = 2 * (c * P)) := by
  have k : 2 * (c * P) * U + 2 * (x * P) = M * Y * U + 2 * (L * P) := by
    have e1 : 2 * ((c * U + x) * P) = (M + gl) * (U * Y) := by rw [h1, h3, Nat.mul_assoc]
    rw [Nat.add_mul, Nat.add_mul, ← h2, Nat.mul_right_comm c U P, Nat.mul_comm U Y, ← Nat.mul_assoc M Y U, Nat.mul_assoc 2 L P] at e1
    rw [Nat.mul_assoc 2 (c * P) U]
    omega
  have a1 : x < L ↔ x * P < L * P := (Nat.mul_lt_mul_right hP).symm
  have a2 : x = L ↔ x * P = L * P := (Nat.mul_left_inj (by omega)).symm
  have a3 : M * Y < 2 * (c * P) ↔ M * Y * U < 2 * (c * P) * U := (Nat.mul_lt_mul_right hU).symm
  have a4 : M * Y = 2 * (c * P) ↔ M * Y * U = 2 * (c * P) * U := (Nat.mul_left_inj (by omega)).symm
  rw [a1, a2, a3, a4]
  generalize x * P = A at *
  generalize L * P = B at *
  generalize M * Y * U = C at *
  generalize 2 * (c * P) * U = D at *
  omega

theorem core_high {x c H P U Y v gh M : Nat} (hP : 0 < P) (hU : 0 < U) (h1 : c * U * P = v * (U * Y) + x * P) (h2 : 2 * H * P = gh * (U * Y)) (h3 : M = 2 * v + gh) :
    (x < H ↔ 2 * (c * P) < M * Y) ∧ (x = H ↔ 2 * (c * P) = M * Y) := by
  have k : 2 * (c * P) * U + 2 * (H * P) = M * Y * U + 2 * (x * P) := by
    have e1 : 2 * (c * U * P) = 2 * v * (U * Y) + 2 * (x * P) := by rw [h1, Nat.mul_add, Nat.mul_assoc]
    have e2 : M * (U * Y) = 2 * v * (U * Y) + 2 * H * P := by rw [h3, Nat.add_mul, h2]
    rw [Nat.mul_right_comm c U P] at e1
    rw [Nat.mul_comm U Y, ← Nat.mul_assoc M Y U, Nat.mul_assoc 2 H P] at e2
    rw [Nat.mul_comm U Y] at e1
    rw [Nat.mul_assoc 2 (c * P) U]
    omega
  have a1 : x < H ↔ x * P < H * P := (Nat.mul_lt_mul_right hP).symm
  have a2 : x = H ↔ x * P = H * P := (Nat.mul_left_inj (by omega)).symm
  have a3 : 2 * (c * P) < M * Y ↔ 2 * (c * P) * U < M * Y * U := (Nat.mul_lt_mul_right hU).symm
  have a4 : 2 * (c * P) = M * Y ↔ 2 * (c * P) * U = M * Y * U := (Nat.mul_left_inj (by omega)).symm
  rw [a1, a2, a3, a4]
  generalize x * P = A at *
  generalize H * P = B at *
  generalize M * Y * U = C at *
  generalize 2 * (c * P) * U = D at *
  omega

theorem ev_iff (n : Nat) : ev n = true ↔ n % 2 = 0 := by
  unfold ev
  rw [decide_eq_true_iff]
  have := (manE_eq n).1
  omega

theorem mid_low (n : Nat) (hn : n ≠ 0) : mid (n - 1) + gapL n = 2 * V n := by
  unfold mid gapL
  have := V_lt (show n - 1 < n by omega)
  rw [show n - 1 + 1 = n by omega]
  omega
theorem mid_high (n : Nat) : mid n = 2 * V n + gapH n := by
  unfold mid gapH
  have := V_succ n
  omega

/-- the numerator and the denominator of c times 10^pw, counted in 2^-1074 -/
def RndAt (c : Nat) (pw : Int) (n : Nat) : Prop := Rnd (c * pP pw) (p10 (-pw).toNat) n

theorem Inv.upos {n dg : Nat} {pw : Int} {R L H U : Nat} (h : Inv n dg pw R L H U) : 0 < U := by have := h.r; omega

theorem Inv.low {n dg : Nat} {pw : Int} {R L H U : Nat} (h : Inv n dg pw R L H U) (hn : n ≠ 0) {c : Nat} (hc : c ≤ dg) : RndAt c pw n ↔ wi (R + (dg - c) * U) L (ev n) = true := by
  have e : c * U + (R + (dg - c) * U) = dg * U + R := by
    obtain ⟨k, rfl⟩ : ∃ k, dg = c + k := ⟨dg - c, by omega⟩
    rw [Nat.add_sub_cancel_left, Nat.add_mul]; omega
  have hk := core_low (x := R + (dg - c) * U) (c := c) (pP_pos pw) h.upos (by rw [e]; exact h.a) h.b (mid_low n hn)
  have hup : 2 * (c * pP pw) < mid n * p10 (-pw).toNat := by
    have h1 : c * U * pP pw ≤ V n * p10 (-pw).toNat * U := by
      have := h.a
      rw [← e, Nat.add_mul] at this
      have h2 : V n * pQ pw U = V n * p10 (-pw).toNat * U := by rw [pQ, Nat.mul_comm U, Nat.mul_assoc]
      omega
    rw [Nat.mul_right_comm] at h1
    have h3 := Nat.le_of_mul_le_mul_right h1 h.upos
    rw [mid_high, Nat.add_mul]
    have h4 : 0 < gapH n * p10 (-pw).toNat := Nat.mul_pos (by rw [gapH_eq]; exact p2_pos _) (p10_pos _)
    have h5 : 2 * V n * p10 (-pw).toNat = 2 * (V n * p10 (-pw).toNat) := Nat.mul_assoc ..
    omega
  unfold RndAt Rnd wi
  have he := ev_iff n
  simp only [Bool.or_eq_true, Bool.and_eq_true, decide_eq_true_eq, hk.1, hk.2, he, hn, false_or]
  constructor
  · rintro ⟨h1, _⟩; exact h1
  · intro h1; exact ⟨h1, .inl hup⟩

theorem Inv.high {n dg : Nat} {pw : Int} {R L H U : Nat} (h : Inv n dg pw R L H U) (hn : n ≠ 0) {c : Nat} (hc : dg < c) : RndAt c pw n ↔ wi ((c - dg) * U - R) H (ev n) = true := by
  have e : c * U = dg * U + R + ((c - dg) * U - R) := by
    obtain ⟨k, rfl⟩ : ∃ k, c = dg + (k + 1) := ⟨c - dg - 1, by omega⟩
    have := h.r
    rw [Nat.add_sub_cancel_left, Nat.add_mul, Nat.add_mul]; omega
  have hk := core_high (x := (c - dg) * U - R) (c := c) (pP_pos pw) h.upos (by rw [e, Nat.add_mul, h.a, pQ]) h.c (mid_high n)
  have hlo : mid (n - 1) * p10 (-pw).toNat < 2 * (c * pP pw) := by
    have h1 : V n * p10 (-pw).toNat * U ≤ c * U * pP pw := by
      have h2 : V n * pQ pw U = V n * p10 (-pw).toNat * U := by rw [pQ, Nat.mul_comm U, Nat.mul_assoc]
      rw [e, Nat.add_mul, h.a, h2]
      exact Nat.le_add_right _ _
    rw [Nat.mul_right_comm c U] at h1
    have h3 := Nat.le_of_mul_le_mul_right h1 h.upos
    have h6 := mid_low n hn
    have h4 : 0 < gapL n * p10 (-pw).toNat := Nat.mul_pos (by unfold gapL; have := V_lt (show n - 1 < n by omega); omega) (p10_pos _)
    have h5 : mid (n - 1) * p10 (-pw).toNat + gapL n * p10 (-pw).toNat = 2 * (V n * p10 (-pw).toNat) := by rw [← Nat.add_mul, h6, Nat.mul_assoc]
    omega
  unfold RndAt Rnd wi
  have he := ev_iff n
  simp only [Bool.or_eq_true, Bool.and_eq_true, decide_eq_true_eq, hk.1, hk.2, he]
  constructor
  · rintro ⟨_, h1⟩; exact h1
  · intro h1; exact ⟨.inr (.inl hlo), h1⟩

theorem wi_mono {a b L : Nat} {e : Bool} (h : a ≤ b) (hb : wi b L e = true) : wi a L e = true := by
  unfold wi at *
  simp only [Bool.or_eq_true, Bool.and_eq_true, decide_eq_true_eq] at *
  rcases hb with hb | ⟨rfl, he⟩
  · left; omega
  · rcases Nat.lt_or_ge a b with h1 | h1
    · exact .inl h1
    · exact .inr ⟨by omega, he⟩

/-- nothing with the power above is read as the number -/
theorem Prior.none {n : Nat} {pw : Int} (h : Prior n pw) (hn : n ≠ 0) (c : Nat) : ¬ RndAt c (pw + 1) n := by
  obtain ⟨dg, R, L, H, U, hI, hp⟩ := h
  have hw : wi R L (ev n) = false ∧ wi (U - R) H (ev n) = false := by
    unfold pickF at hp
    cases h1 : wi R L (ev n) <;> cases h2 : wi (U - R) H (ev n) <;> rw [h1, h2] at hp <;> simp only at hp
    · exact ⟨rfl, rfl⟩
    · cases hp
    · cases hp
    · split at hp <;> cases hp
  intro hr
  rcases Nat.lt_or_ge dg c with hc | hc
  · have := wi_mono (a := U - R) (by
      have h1 : 1 * U ≤ (c - dg) * U := Nat.mul_le_mul_right _ (by omega)
      omega) ((hI.high hn hc).1 hr)
    rw [hw.2] at this; cases this
  · have := wi_mono (a := R) (by omega) ((hI.low hn hc).1 hr)
    rw [hw.1] at this; cases this

/-- what is found is read as the number -/
theorem Short.rnd {n D : Nat} {pw : Int} (h : Short n D pw) (hn : n ≠ 0) : RndAt D pw n := by
  obtain ⟨dg, R, L, H, U, hI, hp, _⟩ := h
  have lo : wi R L (ev n) = true → RndAt dg pw n := fun hw => (hI.low hn (Nat.le_refl _)).2 (by rw [Nat.sub_self, Nat.zero_mul]; exact hw)
  have hi : wi (U - R) H (ev n) = true → RndAt (dg + 1) pw n := fun hw => (hI.high hn (by omega)).2 (by rw [Nat.add_sub_cancel_left, Nat.one_mul]; exact hw)
  unfold pickF at hp
  cases h1 : wi R L (ev n) <;> cases h2 : wi (U - R) H (ev n) <;> rw [h1, h2] at hp <;> simp only at hp
  · simp at hp
  · simp at hp; rw [← hp]; exact hi h2
  · simp at hp; rw [← hp]; exact lo h1
  · split at hp <;> simp at hp <;> rw [← hp]
    · exact lo h1
    · exact hi h2
end Go.Proofs.Ytmkkibaacclhnaa
