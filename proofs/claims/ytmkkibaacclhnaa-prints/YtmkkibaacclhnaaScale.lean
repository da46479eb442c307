/-
  A step of the walk of the numbers, the part named Scale. No theorem of the row.
-/
import Derived.Test.YtmkkibaacclhnaaRound
import Derived.Test.YtmkkibaacclhnaaMany
namespace Go.Proofs.Ytmkkibaacclhnaa
open Go.RowKit

/-- a power of two, kept whole -/
def p2 (k : Nat) : Nat := 2 ^ k
theorem p2_pos (k : Nat) : 0 < p2 k := Nat.two_pow_pos k
theorem p2_add (a b : Nat) : p2 (a + b) = p2 a * p2 b := Nat.pow_add ..
theorem p2_succ (a : Nat) : p2 (a + 1) = 2 * p2 a := by unfold p2; rw [Nat.pow_succ, Nat.mul_comm]
theorem p2_le {a b : Nat} (h : a ≤ b) : p2 a ≤ p2 b := Nat.pow_le_pow_right (by omega) h
theorem p2_53 : p2 53 = 9007199254740992 := by decide

/-- N/M stands for X/Y: what is divided, by what, and the power that goes with it. -/
def Pre (N M N1 M1 E : Nat) : Prop := N * p2 1074 * M1 = N1 * p2 53 * p2 E * M

theorem pre_double {N M N1 M1 E : Nat} (h : Pre N M N1 M1 E) : Pre N M N1 (2 * M1) (E + 1) := by
  unfold Pre at *
  rw [Nat.mul_left_comm, h, p2_succ E]
  simp only [Nat.mul_assoc, Nat.mul_left_comm]

theorem scale_up (N M d e sh : Nat) (hN1 : N < p2 d) (hN2 : p2 d ≤ 2 * N) (hM1 : M < p2 e) (hM2 : p2 e ≤ 2 * M) (hsh : sh + e = d) :
    Pre N M N (p2 sh * M) (sh + 1021) ∧ N < 2 * (p2 sh * M) ∧ p2 sh * M < 2 * N := by
  subst hsh
  rw [p2_add] at *
  have hp := p2_pos sh
  refine ⟨?_, ?_, ?_⟩
  · unfold Pre
    rw [p2_add, p2_add 53 1021]
    simp only [Nat.mul_assoc, Nat.mul_left_comm]
  · have : p2 sh * p2 e ≤ p2 sh * (2 * M) := Nat.mul_le_mul_left _ hM2
    rw [Nat.mul_left_comm] at this
    omega
  · have : p2 sh * M < p2 sh * p2 e := Nat.mul_lt_mul_of_pos_left hM1 hp
    omega

theorem scale_down (N M d e k : Nat) (hN1 : N < p2 d) (hN2 : p2 d ≤ 2 * N) (hM1 : M < p2 e) (hM2 : p2 e ≤ 2 * M) (hk : d + k = e) (hk2 : k ≤ 1021) :
    Pre N M (p2 k * N) M (1021 - k) ∧ p2 k * N < 2 * M ∧ M < 2 * (p2 k * N) := by
  subst hk
  rw [p2_add] at *
  have hp := p2_pos k
  refine ⟨?_, ?_, ?_⟩
  · unfold Pre
    have : p2 1074 = p2 53 * (p2 k * p2 (1021 - k)) := by rw [← p2_add, ← p2_add]; congr 1; omega
    rw [this]
    simp only [Nat.mul_assoc, Nat.mul_left_comm]
  · have : p2 k * N < p2 k * p2 d := Nat.mul_lt_mul_of_pos_left hN1 hp
    rw [Nat.mul_comm (p2 k) (p2 d)] at this
    omega
  · have : p2 k * p2 d ≤ p2 k * (2 * N) := Nat.mul_le_mul_left _ hN2
    rw [Nat.mul_comm (p2 k) (p2 d), Nat.mul_left_comm] at this
    omega

theorem scale_low (N M d e : Nat) (hN1 : N < p2 d) (hM2 : p2 e ≤ 2 * M) (hlow : d + 1022 ≤ e) :
    Pre N M (p2 1021 * N) M 0 ∧ p2 1021 * N < M := by
  refine ⟨?_, ?_⟩
  · unfold Pre
    rw [p2_add 53 1021, show p2 0 = 1 from rfl]
    simp only [Nat.mul_assoc, Nat.mul_left_comm, Nat.one_mul]
  · have h1 : p2 1021 * N < p2 1021 * p2 d := Nat.mul_lt_mul_of_pos_left hN1 (p2_pos _)
    rw [← p2_add] at h1
    have h2 : 2 * p2 (1021 + d) ≤ p2 e := by rw [← p2_succ]; exact p2_le (by omega)
    omega

/-- the end of the division -/
theorem rnd_end {N M N1 M2 E m R : Nat} (hM : 0 < M) (hM2 : 0 < M2) (hp : Pre N M N1 M2 E) (hdiv : N1 * p2 53 = m * M2 + R) (hR : R < M2) (hlt : N1 < M2) (hbig : E = 0 ∨ M2 ≤ 2 * N1) :
    m < 9007199254740992 ∧ ∀ r, r = E * 4503599627370496 + m + (if M2 < 2 * R ∨ (2 * R = M2 ∧ m % 2 = 1) then 1 else 0) → Rnd (N * p2 1074) M r := by
  have h53 := p2_53
  have hm : m < 9007199254740992 := by
    rcases Nat.lt_or_ge m 9007199254740992 with h | h
    · exact h
    · exfalso
      have a : 9007199254740992 * M2 ≤ m * M2 := Nat.mul_le_mul_right _ h
      rw [h53] at hdiv
      omega
  refine ⟨hm, fun r hr => rnd_of hM hM2 hR ?_ ?_ hr⟩
  · rcases hbig with h | h
    · exact .inl ⟨h, hm⟩
    · right
      refine ⟨?_, hm⟩
      rcases Nat.lt_or_ge m 4503599627370496 with h1 | h1
      · exfalso
        have a : (m + 1) * M2 ≤ 4503599627370496 * M2 := Nat.mul_le_mul_right _ h1
        rw [h53] at hdiv
        rw [Nat.add_mul] at a
        omega
      · exact h1
  · unfold Pre at hp
    rw [hp, hdiv]
    rfl

theorem step_div {N1 M2 m R i : Nat} (h : N1 * p2 i = m * M2 + R) : N1 * p2 (i + 1) = (2 * m) * M2 + 2 * R := by
  rw [p2_succ, Nat.mul_left_comm, h, Nat.mul_add, Nat.mul_assoc]

end Go.Proofs.Ytmkkibaacclhnaa
