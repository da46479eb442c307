/-
  A step of the walk of the numbers, the part named Ca: what the document's search for the shortest token is told, over one denominator. No theorem of the row.
-/
import Derived.Test.YtmkkibaacclhnaaBz
namespace Go.Proofs.Ytmkkibaacclhnaa
open Go.RowKit

theorem ins_iff (K m c : Nat) (X : Int) (hm : m ≠ 0) (hK : -(K : Int) ≤ X) : insV (c * p10 X.toNat) (p10 (-X).toNat) m = true ↔ InV (p10 K * V m) (p10 K * gapL m) (p10 K * gapH m) (m % 2 = 0) (c * TK K X) := by
  rw [insV_iff _ _ _ hm, ← rnd_In _ _ _ hm, ← rnd_T K c X m hK]
  unfold RndAt pP
  rw [Nat.mul_assoc]

/-- which one of the two is nearer -/
def nearN (m c : Nat) (X : Int) : Int := -(bcmp ((c * p10 X.toNat * p10 (-X).toNat + (c + 1) * p10 X.toNat * p10 (-X).toNat) * 2 ^ (-(((manE m).2 : Int) - 1074)).toNat) (p10 (-X).toNat * p10 (-X).toNat * (2 * (manE m).1) * 2 ^ (((manE m).2 : Int) - 1074).toNat))
theorem nearN_eq (K m c : Nat) (X : Int) (hK : -(K : Int) ≤ X) : nearN m c X = -(bcmp (2 * (c * TK K X) + TK K X) (2 * (p10 K * V m))) := by
  unfold nearN
  refine congrArg Neg.neg ?_
  rw [bcmp_two _ _ (manE m).2 1074 (((manE m).2 : Int) - 1074) (by omega)]
  have e1 : p10 (X + K).toNat = p10 X.toNat * p10 (K - (-X).toNat) := by rw [← p10_add]; congr 1; omega
  have e2 : p10 K = p10 (-X).toNat * p10 (K - (-X).toNat) := by rw [← p10_add]; congr 1; omega
  have hz := p10_pos (K - (-X).toNat)
  have hB := p10_pos (-X).toNat
  unfold TK
  rw [e1, e2, manE_V m]
  generalize p10 (K - (-X).toNat) = z at *
  generalize p10 X.toNat = p at *
  generalize p10 (-X).toNat = b at *
  generalize p2 1074 = s
  generalize (manE m).1 = n
  generalize p2 (manE m).2 = t
  have l1 : (c * p * b + (c + 1) * p * b) * s = (2 * (c * (p * s)) + p * s) * b := by
    have a1 : c * p * b * s = c * (p * s) * b := by simp only [Nat.mul_left_comm, Nat.mul_comm]
    have a2 : (c + 1) * p * b * s = c * (p * s) * b + p * s * b := by
      have : (c + 1) * p * b * s = (c + 1) * (p * s) * b := by generalize c + 1 = d; simp only [Nat.mul_left_comm, Nat.mul_comm]
      rw [this, Nat.add_mul, Nat.one_mul, Nat.add_mul]
    rw [Nat.add_mul, a1, a2, Nat.add_mul, Nat.mul_assoc 2]
    omega
  have l2 : b * b * (2 * n) * t = 2 * (b * (n * t)) * b := by simp only [Nat.mul_assoc, Nat.mul_left_comm, Nat.mul_comm]
  have l3 : (2 * (c * (p * s)) + p * s) * z = 2 * (c * (p * z * s)) + p * z * s := by
    have a1 : p * z * s = p * s * z := Nat.mul_right_comm ..
    rw [a1, Nat.add_mul, Nat.mul_assoc 2, Nat.mul_assoc c]
  have l4 : 2 * (b * (n * t)) * z = 2 * (b * z * (n * t)) := by
    have a1 : b * z * (n * t) = b * (n * t) * z := Nat.mul_right_comm ..
    rw [a1, Nat.mul_assoc 2]
  rw [l1, l2, bcmp_scale _ _ b hB, ← bcmp_scale _ _ z hz, l3, l4]
theorem nearN_low (K m c : Nat) (X : Int) (hK : -(K : Int) ≤ X) : (nearN m c X < 0 ∨ (nearN m c X = 0 ∧ c % 2 = 0)) ↔ LowV (p10 K * V m) c (TK K X) := by
  rw [nearN_eq K m c X hK]
  unfold LowV
  have h1 := bcmp_gt (2 * (c * TK K X) + TK K X) (2 * (p10 K * V m))
  have h2 := bcmp_eq (2 * (c * TK K X) + TK K X) (2 * (p10 K * V m))
  constructor
  · rintro (h | ⟨h, e⟩)
    · left; exact h1.1 (by omega)
    · right; exact ⟨(h2.1 (by omega)).symm, e⟩
  · rintro (h | ⟨h, e⟩)
    · left; have := h1.2 h; omega
    · right; exact ⟨by have := h2.2 h.symm; omega, e⟩

/-- all that the search knows of its number -/
structure RefS (m D : Nat) (pw x : Int) (l : List UInt8) : Prop where
  s : Short m D pw
  m0 : m ≠ 0
  pw1 : -5000 ≤ pw
  x1 : -342 ≤ x
  x2 : x ≤ 682
  lo : TenLe m x
  hi : ¬ TenLe m (x + 1)
  d : DInv m l 17 (x - 16)

def cN (l : List UInt8) (i : Nat) : Nat := num (dv (l.take i))
def RIn (m c : Nat) (X : Int) : Prop := InV (p10 6000 * V m) (p10 6000 * gapL m) (p10 6000 * gapH m) (m % 2 = 0) (c * TK 6000 X)
/-- nothing was found with fewer digits -/
def RNone (m : Nat) (x : Int) (l : List UInt8) (i : Nat) : Prop := ∀ j : Nat, 1 ≤ j → j < i → ¬ RIn m (cN l j) (x + 1 - j) ∧ ¬ RIn m (cN l j + 1) (x + 1 - j)

theorem RefS.h1 {m D : Nat} {pw x : Int} {l : List UInt8} (h : RefS m D pw x l) : TK 6000 x ≤ p10 6000 * V m := by
  have := (cle_TK 6000 m 1 x (by have := h.x1; omega)).1 ((ten_CLe m x).1 h.lo)
  rwa [Nat.one_mul] at this
theorem RefS.h2 {m D : Nat} {pw x : Int} {l : List UInt8} (h : RefS m D pw x l) : p10 6000 * V m < 10 * TK 6000 x := by
  have hk := h.hi
  rw [ten_CLe, cle_TK 6000 m 1 (x + 1) (by have := h.x1; omega), Nat.one_mul, TK_succ 6000 x (by have := h.x1; omega)] at hk
  omega
theorem RefS.hc {m D : Nat} {pw x : Int} {l : List UInt8} (h : RefS m D pw x l) (j : Nat) (h1 : 1 ≤ j) (h2 : j ≤ 17) :
    cN l j * TK 6000 (x + 1 - j) ≤ p10 6000 * V m ∧ p10 6000 * V m < cN l j * TK 6000 (x + 1 - j) + TK 6000 (x + 1 - j) :=
  h.d.take 6000 (by have := h.x1; omega) j h1 h2
theorem RefS.head {m D : Nat} {pw x : Int} {l : List UInt8} (h : RefS m D pw x l) : l.head? ≠ some 48 := by
  intro hh
  have hl := h.d.2.1
  have h1 := h.h1
  have h2 := (h.hc 1 (by omega) (by omega)).2
  rw [show x + 1 - ((1 : Nat) : Int) = x by omega] at h2
  have hc : cN l 1 = 0 := by
    unfold cN
    cases l with
    | nil => rfl
    | cons c r =>
      have : c = 48 := by simpa using hh
      subst this
      rfl
  rw [hc, Nat.zero_mul, Nat.zero_add] at h2
  omega
theorem RefS.dgs {m D : Nat} {pw x : Int} {l : List UInt8} (h : RefS m D pw x l) (i : Nat) (h1 : 1 ≤ i) (h2 : i ≤ 17) : l.take i = dgs (cN l i) := by
  have hl := h.d.2.1
  refine dgs_of (h.d.1.take i) ?_ ?_
  · intro e
    have := congrArg List.length e
    rw [List.length_take, hl, List.length_nil] at this
    omega
  · have := h.head
    cases l with
    | nil => simp at hl
    | cons c r =>
      cases i with
      | zero => omega
      | succ i => simpa using this

/-- the document's search ends where the program's does -/
theorem RefS.end {m D : Nat} {pw x : Int} {l : List UInt8} (h : RefS m D pw x l) (i : Nat) (h1 : 1 ≤ i) (h2 : i ≤ 17) (hno : RNone m x l i) :
    (RIn m (cN l i) (x + 1 - i) → (¬ RIn m (cN l i + 1) (x + 1 - i) ∨ LowV (p10 6000 * V m) (cN l i) (TK 6000 (x + 1 - i))) → cN l i = D ∧ x + 1 - i = pw) ∧
    (RIn m (cN l i + 1) (x + 1 - i) → (¬ RIn m (cN l i) (x + 1 - i) ∨ ¬ LowV (p10 6000 * V m) (cN l i) (TK 6000 (x + 1 - i))) → (cN l i + 1 = D ∧ x + 1 - i = pw) ∨ (i = 1 ∧ cN l i = 9 ∧ D = 1 ∧ pw = x + 1)) ∧
    (i = 17 → (LowV (p10 6000 * V m) (cN l i) (TK 6000 (x - 16)) → cN l i = D ∧ x - 16 = pw) ∧ (¬ LowV (p10 6000 * V m) (cN l i) (TK 6000 (x - 16)) → cN l i + 1 = D ∧ x - 16 = pw)) := by
  have hx := h.x1
  have hp := h.pw1
  have key := h.s.ref (K := 6000) (c := cN l) (x := x) (i := i) h.m0 (by omega) (by omega) (by omega) h.h1 h.h2 h.hc h1 h2 (fun j a b => by
    have := hno j a b
    unfold RIn at this
    rwa [← succ_t] at this)
  unfold RIn
  rw [← succ_t]
  exact key

/-- noughts left out at either end -/
theorem lean_dgs {D : Nat} (h : D % 10 ≠ 0) : strip (drop0 (dgs D)) = dgs D ∧ ((drop0 (dgs D)).length : Int) = ((dgs D).length : Int) := by
  rw [drop0_dgs D (by omega)]
  exact ⟨strip_last (dgs_last D h), rfl⟩
theorem lean_ten : strip (drop0 (dgs 10)) = dgs 1 ∧ (drop0 (dgs 10)).length = 2 := by
  rw [drop0_dgs 10 (by omega), dgs_ge (by omega), dgs_lt (by omega)]
  exact ⟨rfl, rfl⟩
end Go.Proofs.Ytmkkibaacclhnaa
