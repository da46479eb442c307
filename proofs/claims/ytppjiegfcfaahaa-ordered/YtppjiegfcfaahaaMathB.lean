/-
  A step of the walk of the numbers, the part named MathB. No theorem of the row.
-/
import Derived.Test.YtppjiegfcfaahaaMath
import Derived.Test.YtppjiegfcfaahaaPrt
import Derived.Test.YtppjiegfcfaahaaParse
namespace Go.Proofs.Ytppjiegfcfaahaa
open Go.RowKit

theorem Rnd.cross {X1 Y1 X2 Y2 r : Nat} (h1 : 0 < Y1) (h2 : 0 < Y2) (e : X1 * Y2 = X2 * Y1) (h : Rnd X1 Y1 r) : Rnd X2 Y2 r := by
  have key : ∀ m, (m * Y1 < 2 * X1 → m * Y2 < 2 * X2) ∧ (m * Y1 = 2 * X1 → m * Y2 = 2 * X2) ∧ (2 * X1 < m * Y1 → 2 * X2 < m * Y2) := by
    intro m
    have e2 : 2 * X1 * Y2 = 2 * X2 * Y1 := by rw [Nat.mul_assoc, e, Nat.mul_assoc]
    have e3 : m * Y1 * Y2 = m * Y2 * Y1 := Nat.mul_right_comm ..
    refine ⟨fun h => ?_, fun h => ?_, fun h => ?_⟩
    · have := (Nat.mul_lt_mul_right h2).2 h
      rw [e2, e3] at this
      exact (Nat.mul_lt_mul_right h1).1 this
    · have : m * Y1 * Y2 = 2 * X1 * Y2 := by rw [h]
      rw [e2, e3] at this
      exact Nat.eq_of_mul_eq_mul_right h1 this
    · have := (Nat.mul_lt_mul_right h2).2 h
      rw [e2, e3] at this
      exact (Nat.mul_lt_mul_right h1).1 this
  obtain ⟨a, b⟩ := h
  refine ⟨?_, ?_⟩
  · rcases a with a | a | ⟨a, a'⟩
    · exact .inl a
    · exact .inr (.inl ((key _).1 a))
    · exact .inr (.inr ⟨(key _).2.1 a, a'⟩)
  · rcases b with b | ⟨b, b'⟩
    · exact .inl ((key _).2.2 b)
    · exact .inr ⟨((key _).2.1 b.symm).symm, b'⟩

/-- c times 10^pw and d times 10^qw are the same -/
def SameV (c : Nat) (pw : Int) (d : Nat) (qw : Int) : Prop := c * p10 pw.toNat * p10 (-qw).toNat = d * p10 qw.toNat * p10 (-pw).toNat
theorem RndAt.same {c d n : Nat} {pw qw : Int} (e : SameV c pw d qw) (h : RndAt c pw n) : RndAt d qw n := by
  refine Rnd.cross (p10_pos _) (p10_pos _) ?_ h
  unfold SameV at e
  unfold pP
  rw [← Nat.mul_assoc, ← Nat.mul_assoc, Nat.mul_right_comm _ (p2 1074), e, Nat.mul_right_comm _ _ (p2 1074)]

theorem RndAt.up {c n : Nat} {pw : Int} (h : RndAt (10 * c) pw n) : RndAt c (pw + 1) n := by
  refine RndAt.same ?_ h
  unfold SameV
  rcases Int.lt_or_le pw 0 with hp | hp
  · obtain ⟨k, rfl⟩ : ∃ k : Nat, pw = -((k : Int) + 1) := ⟨(-pw - 1).toNat, by omega⟩
    rw [show (-((k : Int) + 1)).toNat = 0 by omega, show (-(-((k : Int) + 1) + 1)).toNat = k by omega, show (-((k : Int) + 1) + 1).toNat = 0 by omega, show (-(-((k : Int) + 1))).toNat = k + 1 by omega, p10_succ]
    generalize p10 k = z
    generalize p10 0 = y
    rw [Nat.mul_comm z 10, ← Nat.mul_assoc, Nat.mul_right_comm c y 10, Nat.mul_comm c 10]
  · obtain ⟨k, rfl⟩ : ∃ k : Nat, pw = (k : Int) := ⟨pw.toNat, by omega⟩
    rw [show (k : Int).toNat = k by omega, show (-((k : Int) + 1)).toNat = 0 by omega, show ((k : Int) + 1).toNat = k + 1 by omega, show (-(k : Int)).toNat = 0 by omega, p10_succ, Nat.mul_comm 10 c, Nat.mul_assoc c 10, Nat.mul_comm 10]

theorem mid_pos (r : Nat) : 0 < mid r := by unfold mid; have := V_succ r; omega

theorem RndAt.pos {c n : Nat} {pw : Int} (h : RndAt c pw n) (hn : n ≠ 0) : 0 < c := by
  rcases Nat.eq_zero_or_pos c with rfl | h0
  · exfalso
    have := Nat.mul_pos (mid_pos (n - 1)) (p10_pos (-pw).toNat)
    obtain ⟨a, _⟩ := h
    rw [Nat.zero_mul] at a
    omega
  · exact h0

theorem Short.last {n D : Nat} {pw : Int} (h : Short n D pw) (hn : n ≠ 0) : D % 10 ≠ 0 := by
  intro h0
  have hr := h.rnd hn
  have hp := hr.pos hn
  obtain ⟨dg, R, L, H, U, hI, hpk, hd⟩ := h
  rcases hd with rfl | hd
  · rcases pick_true hpk with rfl | rfl <;> omega
  · refine hd.none hn (D / 10) (RndAt.up ?_)
    rw [show 10 * (D / 10) = D by omega]; exact hr

theorem big_1 : mid 9218868437227405311 < 2 * (p10 309 * p2 1074) := by decide +kernel
theorem small_1 : 2 * p2 1074 < p10 324 := by decide +kernel

/-- where the point of a number can lie -/
theorem RndAt.top {c n : Nat} {pw : Int} {k : Nat} (h : RndAt c pw n) (hn : n < 9218868437227405312) (hk : p10 k ≤ c) : (k : Int) + pw < 309 := by
  rcases Int.lt_or_le ((k : Int) + pw) 309 with h1 | h1
  · exact h1
  · exfalso
    obtain ⟨_, b⟩ := h
    have hm : mid n ≤ mid 9218868437227405311 := by
      rcases Nat.lt_or_ge n 9218868437227405311 with h2 | h2
      · exact Nat.le_of_lt (mid_lt h2)
      · rw [show n = 9218868437227405311 by omega]; exact Nat.le_refl _
    have h3 : p10 309 * p10 (-pw).toNat ≤ c * p10 pw.toNat := by
      refine Nat.le_trans ?_ (Nat.mul_le_mul_right _ hk)
      rw [← p10_add, ← p10_add]
      exact p10_le _ _ (by omega)
    have h4 := Nat.mul_le_mul_right (p2 1074) h3
    have h5 : mid n * p10 (-pw).toNat < 2 * (p10 309 * p2 1074) * p10 (-pw).toNat := (Nat.mul_lt_mul_right (p10_pos _)).2 (Nat.lt_of_le_of_lt hm big_1)
    have e1 : 2 * (p10 309 * p2 1074) * p10 (-pw).toNat = 2 * (p10 309 * p10 (-pw).toNat * p2 1074) := by
      rw [Nat.mul_assoc 2, Nat.mul_right_comm (p10 309)]
    have e2 : c * pP pw = c * p10 pw.toNat * p2 1074 := by rw [pP, Nat.mul_assoc]
    rw [e2] at b
    rw [e1] at h5
    omega

theorem RndAt.bottom {c n : Nat} {pw : Int} {k : Nat} (h : RndAt c pw n) (hn : n ≠ 0) (hk : c < p10 k) : -324 < (k : Int) + pw := by
  rcases Int.lt_or_le (-324) ((k : Int) + pw) with h1 | h1
  · exact h1
  · exfalso
    obtain ⟨a, _⟩ := h
    have e2 : c * pP pw = c * p10 pw.toNat * p2 1074 := by rw [pP, Nat.mul_assoc]
    rw [e2] at a
    have h2 : c * p10 pw.toNat * p10 324 ≤ p10 (-pw).toNat := by
      refine Nat.le_trans (Nat.mul_le_mul_right _ (Nat.mul_le_mul_right _ (Nat.le_of_lt hk))) ?_
      rw [← p10_add, ← p10_add]
      exact p10_le _ _ (by omega)
    have h3 : 1 * p10 (-pw).toNat ≤ mid (n - 1) * p10 (-pw).toNat := Nat.mul_le_mul_right _ (mid_pos _)
    have h4 : 2 * (c * p10 pw.toNat * p2 1074) ≤ c * p10 pw.toNat * p10 324 := by
      rw [Nat.mul_left_comm]
      exact Nat.mul_le_mul_left _ (Nat.le_of_lt small_1)
    have h5 : c * p10 pw.toNat = 0 ∨ 2 * (c * p10 pw.toNat * p2 1074) < c * p10 pw.toNat * p10 324 := by
      rcases Nat.eq_zero_or_pos (c * p10 pw.toNat) with h6 | h6
      · exact .inl h6
      · refine .inr ?_
        rw [Nat.mul_left_comm]
        exact Nat.mul_lt_mul_of_pos_left small_1 h6
    have h7 := p10_pos (-pw).toNat
    rcases h5 with h5 | h5
    · rw [h5, Nat.zero_mul] at a; omega
    · omega
end Go.Proofs.Ytppjiegfcfaahaa
