/-
  A step of the walk of the numbers, the part named InvS. No theorem of the row.
-/
import Derived.Test.YtmkkibaacclhnaaNewS
import Derived.Test.YtmkkibaacclhnaaPick
namespace Go.Proofs.Ytmkkibaacclhnaa

/-- the gap below and above a number, counted in 2^-1074 -/
def gapL (n : Nat) : Nat := V n - V (n - 1)
def gapH (n : Nat) : Nat := V (n + 1) - V n
def pP (pw : Int) : Nat := p10 pw.toNat * p2 1074
def pQ (pw : Int) (U : Nat) : Nat := U * p10 (-pw).toNat

/-- what a search says of its number -/
structure Inv (n dg : Nat) (pw : Int) (R L H U : Nat) : Prop where
  a : (dg * U + R) * pP pw = V n * pQ pw U
  b : 2 * L * pP pw = gapL n * pQ pw U
  c : 2 * H * pP pw = gapH n * pQ pw U
  r : R < U

theorem manE_V (n : Nat) : V n = (manE n).1 * p2 (manE n).2 := by
  unfold V manE
  split <;> simp [p2]

theorem pP_pos (pw : Int) : 0 < pP pw := Nat.mul_pos (p10_pos _) (p2_pos _)

/-- the power goes down by one -/
theorem p_step (pw : Int) : p10 pw.toNat * p10 (-(pw - 1)).toNat = 10 * p10 (pw - 1).toNat * p10 (-pw).toNat := by
  by_cases h : 1 ≤ pw
  · rw [show (-(pw - 1)).toNat = 0 from by omega, show (-pw).toNat = 0 from by omega, show pw.toNat = (pw - 1).toNat + 1 from by omega, p10_succ, show p10 0 = 1 from rfl]; omega
  · rw [show pw.toNat = 0 from by omega, show (pw - 1).toNat = 0 from by omega, show (-(pw - 1)).toNat = (-pw).toNat + 1 from by omega, p10_succ, show p10 0 = 1 from rfl]; omega

/-- an equation goes over to the lower power: x 10 -/
theorem eq_step {x y U : Nat} {pw : Int} (h : x * pP pw = y * pQ pw U) : 10 * x * pP (pw - 1) = y * pQ (pw - 1) U := by
  have hp := p_step pw
  have hpos : 0 < p10 (-pw).toNat := p10_pos _
  refine Nat.eq_of_mul_eq_mul_right hpos ?_
  unfold pP pQ at *
  -- x p10 pw p2 = y U p10 -pw
  have e1 : 10 * x * (p10 (pw - 1).toNat * p2 1074) * p10 (-pw).toNat = x * p2 1074 * (10 * p10 (pw - 1).toNat * p10 (-pw).toNat) := by
    simp only [Nat.mul_assoc, Nat.mul_left_comm, Nat.mul_comm]
  have e2 : x * p2 1074 * (p10 pw.toNat * p10 (-(pw - 1)).toNat) = x * (p10 pw.toNat * p2 1074) * p10 (-(pw - 1)).toNat := by
    simp only [Nat.mul_assoc, Nat.mul_left_comm, Nat.mul_comm]
  rw [e1, ← hp, e2, h]
  simp only [Nat.mul_assoc, Nat.mul_left_comm, Nat.mul_comm]

theorem Inv.next {n dg : Nat} {pw : Int} {R L H U : Nat} (h : Inv n dg pw R L H U) : Inv n (dg * 10 + 10 * R / U) (pw - 1) (10 * R % U) (10 * L) (10 * H) U := by
  refine ⟨?_, ?_, ?_, Nat.mod_lt _ (by have := h.r; omega)⟩
  · have e : (dg * 10 + 10 * R / U) * U + 10 * R % U = 10 * (dg * U + R) := by
      rw [Nat.add_mul]
      have := Nat.div_add_mod (10 * R) U
      rw [Nat.mul_comm U] at this
      have e2 : dg * 10 * U = 10 * (dg * U) := by rw [Nat.mul_right_comm, Nat.mul_comm]
      omega
    rw [e]
    exact eq_step h.a
  · have := eq_step h.b
    rwa [show 10 * (2 * L) = 2 * (10 * L) from by omega] at this
  · have := eq_step h.c
    rwa [show 10 * (2 * H) = 2 * (10 * H) from by omega] at this


theorem manE_eq (n : Nat) : n = (manE n).2 * 4503599627370496 + (manE n).1 ∧ (((manE n).2 = 0 ∧ (manE n).1 < 9007199254740992) ∨ (4503599627370496 ≤ (manE n).1 ∧ (manE n).1 < 9007199254740992)) := by
  unfold manE
  split
  · exact ⟨by show n = 0 * _ + n; omega, .inl ⟨rfl, by show n < _; omega⟩⟩
  · exact ⟨by show n = (n / 4503599627370496 - 1) * 4503599627370496 + (4503599627370496 + n % 4503599627370496); omega, .inr ⟨by show _ ≤ 4503599627370496 + n % 4503599627370496; omega, by show 4503599627370496 + n % 4503599627370496 < _; omega⟩⟩

theorem gapH_eq (n : Nat) : gapH n = p2 (manE n).2 := by
  obtain ⟨h1, h2⟩ := manE_eq n
  unfold gapH
  have v1 : V (n + 1) = ((manE n).1 + 1) * 2 ^ (manE n).2 := by
    have := V_em (manE n).2 ((manE n).1 + 1) (by omega)
    rwa [← Nat.add_assoc, ← h1] at this
  rw [v1, manE_V, Nat.add_mul]
  unfold p2
  omega

theorem gapL_eq (n : Nat) (hn : n ≠ 0) : 2 * gapL n = lowQ n * p2 (manE n).2 := by
  obtain ⟨h1, h2⟩ := manE_eq n
  unfold gapL lowQ
  by_cases hl : (manE n).1 = 4503599627370496 ∧ 0 < (manE n).2
  · rw [if_pos hl]
    have v1 : V (n - 1) = 9007199254740991 * 2 ^ ((manE n).2 - 1) := by
      have := V_em ((manE n).2 - 1) 9007199254740991 (by omega)
      rwa [show ((manE n).2 - 1) * 4503599627370496 + 9007199254740991 = n - 1 from by omega] at this
    rw [v1, manE_V, hl.1, show (manE n).2 = (manE n).2 - 1 + 1 from by omega, p2_succ]
    unfold p2
    rw [show (manE n).2 - 1 + 1 - 1 = (manE n).2 - 1 from by omega]
    omega
  · rw [if_neg hl]
    have v1 : V (n - 1) = ((manE n).1 - 1) * 2 ^ (manE n).2 := by
      have := V_em (manE n).2 ((manE n).1 - 1) (by omega)
      rwa [show (manE n).2 * 4503599627370496 + ((manE n).1 - 1) = n - 1 from by omega] at this
    have hm1 : 1 ≤ (manE n).1 := by omega
    rw [v1, manE_V]
    have e : (manE n).1 * p2 (manE n).2 = ((manE n).1 - 1) * 2 ^ (manE n).2 + p2 (manE n).2 := by
      unfold p2
      rw [← Nat.succ_mul]
      congr 1
      omega
    rw [e]
    omega

theorem init_eq (E c k : Nat) (p : Int) : setR p (upF E * c) * pP (p + k) * 4 = c * p2 E * pQ (p + k) (setU p k (dnF E * 4)) := by
  unfold setR pP pQ setU upF dnF
  have e1 : p2 (E - 1074) * p2 1074 = p2 E * p2 (1074 - E) := by rw [← p2_add, ← p2_add, show E - 1074 + 1074 = E + (1074 - E) from by omega]
  have e2 : p10 (-p).toNat * p10 (p + k).toNat = p10 p.toNat * p10 k * p10 (-(p + k)).toNat := by rw [← p10_add, ← p10_add, ← p10_add, show (-p).toNat + (p + k).toNat = p.toNat + k + (-(p + k)).toNat from by omega]
  have l : p2 (E - 1074) * c * p10 (-p).toNat * (p10 (p + k).toNat * p2 1074) * 4 = (p2 (E - 1074) * p2 1074) * (p10 (-p).toNat * p10 (p + k).toNat) * (c * 4) := by
    simp only [Nat.mul_assoc, Nat.mul_left_comm, Nat.mul_comm]
  rw [l, e1, e2]
  simp only [Nat.mul_assoc, Nat.mul_left_comm, Nat.mul_comm]

theorem key4 {x y : Nat} (h : x * 4 = y * 4) : x = y := by omega
theorem key2 {x y : Nat} (h : x * 2 = y * 2) : x = y := by omega

theorem Inv.init (n k : Nat) (p : Int) (hn : n ≠ 0) (hr : setR p (upF (manE n).2 * (4 * (manE n).1)) < setU p k (dnF (manE n).2 * 4)) :
    Inv n 0 (p + k) (setR p (upF (manE n).2 * (4 * (manE n).1))) (setR p (upF (manE n).2 * lowQ n)) (setR p (upF (manE n).2 * 2)) (setU p k (dnF (manE n).2 * 4)) := by
  have a := init_eq (manE n).2 (4 * (manE n).1) k p
  have b := init_eq (manE n).2 (lowQ n) k p
  have c := init_eq (manE n).2 2 k p
  have hL := gapL_eq n hn
  have hH := gapH_eq n
  have hV := manE_V n
  rw [← hL] at b
  rw [← hH] at c
  generalize setU p k (dnF (manE n).2 * 4) = U at *
  refine ⟨?_, ?_, ?_, hr⟩
  all_goals
    generalize pQ (p + k) U = Q at *
    generalize pP (p + k) = P at *
  · rw [Nat.zero_mul, Nat.zero_add, hV]
    have e : 4 * (manE n).1 * p2 (manE n).2 * Q = (manE n).1 * p2 (manE n).2 * Q * 4 := by simp only [Nat.mul_assoc, Nat.mul_left_comm, Nat.mul_comm]
    rw [e] at a
    exact key4 a
  · have e1 : setR p (upF (manE n).2 * lowQ n) * P * 4 = 2 * setR p (upF (manE n).2 * lowQ n) * P * 2 := by rw [Nat.mul_assoc 2]; omega
    have e2 : 2 * gapL n * Q = gapL n * Q * 2 := by rw [Nat.mul_assoc 2]; omega
    rw [e1, e2] at b
    exact key2 b
  · have e1 : setR p (upF (manE n).2 * 2) * P * 4 = 2 * setR p (upF (manE n).2 * 2) * P * 2 := by rw [Nat.mul_assoc 2]; omega
    have e2 : 2 * gapH n * Q = gapH n * Q * 2 := by rw [Nat.mul_assoc 2]; omega
    rw [e1, e2] at c
    exact key2 c

end Go.Proofs.Ytmkkibaacclhnaa
