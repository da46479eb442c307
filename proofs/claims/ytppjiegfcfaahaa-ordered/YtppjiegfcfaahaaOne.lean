/-
  A step of the walk of the numbers, the part named One. No theorem of the row.
-/
import Derived.Test.YtppjiegfcfaahaaTrip
namespace Go.Proofs.Ytppjiegfcfaahaa
open Go.RowKit

theorem one_rnd : RndAt 5 (-324) 1 := by
  show Rnd (5 * pP (-324)) (p10 324) 1
  unfold Rnd
  decide +kernel

theorem mid_1 : mid 1 = 3 := by decide +kernel
theorem mid_0 : mid 0 = 1 := by decide +kernel
theorem p10_a : 3 * p10 324 < 20 * p2 1074 := by decide +kernel
theorem p10_b : 20 * p2 1074 < p10 325 := by decide +kernel
theorem p10_d : 4 * p2 1074 < p10 324 ∧ p10 324 < 5 * p2 1074 ∧ 9 * p2 1074 < 2 * p10 324 := by decide +kernel

theorem one_lo {c : Nat} {pw : Int} (h : RndAt c pw 1) : pw ≤ -324 := by
  rcases Int.lt_or_le (-324) pw with h1 | h1
  · exfalso
    have hpos := h.pos (by omega)
    obtain ⟨_, b⟩ := h
    have e2 : c * pP pw = c * p10 pw.toNat * p2 1074 := by rw [pP, Nat.mul_assoc]
    rw [e2, mid_1] at b
    have h3 : 10 * p10 (-pw).toNat ≤ c * p10 pw.toNat * p10 324 := by
      have : p10 (-pw).toNat * 10 ≤ p10 pw.toNat * p10 324 := by
        rw [← p10_succ, ← p10_add]; exact p10_le _ _ (by omega)
      have h4 : 1 * (p10 pw.toNat * p10 324) ≤ c * (p10 pw.toNat * p10 324) := Nat.mul_le_mul_right _ hpos
      rw [Nat.mul_assoc c]; omega
    have hA : 0 < c * p10 pw.toNat := Nat.mul_pos hpos (p10_pos _)
    have h6 := Nat.mul_lt_mul_of_pos_left p10_a hA
    have e3 : c * p10 pw.toNat * (3 * p10 324) = 3 * (c * p10 pw.toNat * p10 324) := Nat.mul_left_comm ..
    have e4 : c * p10 pw.toNat * (20 * p2 1074) = 20 * (c * p10 pw.toNat * p2 1074) := Nat.mul_left_comm ..
    omega
  · exact h1

theorem SameV.shift (c k : Nat) (pw : Int) : SameV c pw (c * p10 k) (pw - k) := by
  unfold SameV
  rcases Int.lt_or_le pw 0 with hp | hp
  · rw [show pw.toNat = 0 by omega, show (pw - k).toNat = 0 by omega, show (-(pw - k)).toNat = k + (-pw).toNat by omega, p10_add, show p10 0 = 1 from rfl, Nat.mul_one, Nat.mul_one, Nat.mul_assoc]
  · obtain ⟨m, rfl⟩ : ∃ m : Nat, pw = m := ⟨pw.toNat, by omega⟩
    rw [show (-(m : Int)).toNat = 0 by omega, show p10 0 = 1 from rfl, Nat.mul_one, Nat.mul_assoc, Nat.mul_assoc, ← p10_add, ← p10_add]
    congr 2; omega

/-- the least number is printed with one digit -/
theorem one_short {D : Nat} {pw : Int} (h : Short 1 D pw) : D = 5 ∧ pw = -324 := by
  have hr := h.rnd (by omega)
  have hlo := one_lo hr
  obtain ⟨dg, R, L, H, U, hI, hp, hpr⟩ := h
  have hpw : pw = -324 := by
    rcases Int.lt_or_le pw (-324) with h1 | h1
    · exfalso
      rcases hpr with rfl | hpr
      · have hD := pick_true hp
        obtain ⟨a, _⟩ := hr
        have e2 : D * pP pw = D * p2 1074 := by rw [pP, show pw.toNat = 0 by omega, show p10 0 = 1 from rfl, Nat.one_mul]
        rw [e2, show 1 - 1 = 0 from rfl, mid_0] at a
        have h2 := p10_le 325 (-pw).toNat (by omega)
        have h3 := p10_b
        have h4 : D * p2 1074 ≤ 1 * p2 1074 := Nat.mul_le_mul_right _ (by omega)
        omega
      · refine hpr.none (by omega) (5 * p10 (-325 - pw).toNat) ?_
        have := one_rnd.same (SameV.shift 5 (-325 - pw).toNat (-324))
        rwa [show (-324 : Int) - ((-325 - pw).toNat : Nat) = pw + 1 by omega] at this
    · omega
  subst hpw
  refine ⟨?_, rfl⟩
  have ha : (dg * U + R) * p2 1074 = p10 324 * U := by
    have := hI.a
    unfold pP pQ at this
    rw [show V 1 = 1 from by decide +kernel, show (-324 : Int).toNat = 0 from rfl, show (-(-324) : Int).toNat = 324 from rfl, show p10 0 = 1 from rfl, Nat.one_mul, Nat.one_mul, Nat.mul_comm U] at this
    exact this
  have hU := hI.upos
  have hR := hI.r
  obtain ⟨d1, d2, d3⟩ := p10_d
  have k1 := (Nat.mul_lt_mul_right hU).2 d1
  have k2 := (Nat.mul_lt_mul_right hU).2 d2
  have k3 := (Nat.mul_lt_mul_right hU).2 d3
  have hp2 := p2_pos 1074
  have e4 : 4 * p2 1074 * U = 4 * U * p2 1074 := Nat.mul_right_comm ..
  have e5 : 5 * p2 1074 * U = 5 * U * p2 1074 := Nat.mul_right_comm ..
  have e9 : 9 * p2 1074 * U = 9 * U * p2 1074 := Nat.mul_right_comm ..
  have eT : 2 * p10 324 * U = 2 * (dg * U + R) * p2 1074 := by rw [Nat.mul_assoc, ← ha, Nat.mul_assoc]
  rw [e4, ← ha] at k1
  rw [e5, ← ha] at k2
  rw [e9, eT] at k3
  have q1 := (Nat.mul_lt_mul_right hp2).1 k1
  have q2 := (Nat.mul_lt_mul_right hp2).1 k2
  have q3 := (Nat.mul_lt_mul_right hp2).1 k3
  have hdg : dg = 4 := by
    have b1 : dg * U < 5 * U := by omega
    have b2 := (Nat.mul_lt_mul_right hU).1 b1
    have b3 : 4 * U < (dg + 1) * U := by rw [Nat.add_mul]; omega
    have b4 := (Nat.mul_lt_mul_right hU).1 b3
    omega
  subst hdg
  have hw1 : wi (U - R) H (ev 1) = true := by
    have := (hI.high (by omega) (show 4 < 4 + 1 by omega)).1 one_rnd
    rwa [Nat.add_sub_cancel_left, Nat.one_mul] at this
  have hlow : lowF 4 R U = false := by
    unfold lowF
    rw [decide_eq_false (by omega), decide_eq_false (by omega)]; rfl
  unfold pickF at hp
  rw [hw1] at hp
  cases h1 : wi R L (ev 1) <;> rw [h1] at hp <;> simp only at hp
  · simp at hp; exact hp.symm
  · rw [hlow] at hp; simp at hp; exact hp.symm
end Go.Proofs.Ytppjiegfcfaahaa
