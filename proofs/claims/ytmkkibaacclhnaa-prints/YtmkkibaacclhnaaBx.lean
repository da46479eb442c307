/-
  A step of the walk of the numbers, the part named Bx: the first digits of a number, by the document's answer. No theorem of the row.
-/
import Derived.Test.YtmkkibaacclhnaaBw
import Derived.Deep.DeepCutAuto
namespace Go.Proofs.Ytmkkibaacclhnaa
open Go.RowKit

theorem bcmp_le (a b : Nat) : bcmp a b ≤ 0 ↔ a ≤ b := by
  have h1 := bcmp_gt a b
  constructor
  · intro h
    rcases Nat.lt_or_ge b a with h2 | h2
    · have := h1.2 h2; omega
    · exact h2
  · intro h
    rcases Int.lt_or_le 0 (bcmp a b) with h2 | h2
    · have := h1.1 h2; omega
    · exact h2

/-- c times 10^X is not above the number -/
def CLe (m c : Nat) (X : Int) : Prop := c * p10 X.toNat * p2 1074 ≤ p10 (-X).toNat * V m
theorem CLe.shift (m c : Nat) (X : Int) : CLe m c (X + 1) ↔ CLe m (10 * c) X := by
  unfold CLe
  rcases Int.lt_or_le X 0 with h | h
  · rw [show (X + 1).toNat = 0 by omega, show X.toNat = 0 by omega, show (-X).toNat = (-(X + 1)).toNat + 1 by omega, p10_succ, show p10 0 = 1 from rfl, Nat.mul_one, Nat.mul_one]
    generalize p10 (-(X + 1)).toNat = p
    rw [Nat.mul_assoc 10 c, Nat.mul_comm p 10, Nat.mul_assoc 10 p]
    generalize c * p2 1074 = a
    generalize p * V m = b
    omega
  · rw [show (X + 1).toNat = X.toNat + 1 by omega, show (-(X + 1)).toNat = 0 by omega, show (-X).toNat = 0 by omega, p10_succ]
    rw [show c * (p10 X.toNat * 10) = 10 * c * p10 X.toNat from by rw [Nat.mul_comm 10 c, Nat.mul_assoc, Nat.mul_comm 10]]
theorem CLe.zero (m : Nat) (X : Int) : CLe m 0 X := by unfold CLe; rw [Nat.zero_mul, Nat.zero_mul]; exact Nat.zero_le _
theorem ten_CLe (m : Nat) (X : Int) : TenLe m X ↔ CLe m 1 X := by unfold TenLe CLe; rw [Nat.one_mul]
theorem one_slice (k : Nat) (h : k < 9) : (ByteArray.mk #[49, 50, 51, 52, 53, 54, 55, 56, 57]).extract k (k + 1) = ofL [UInt8.ofNat (48 + (k + 1))] := by
  have : k = 0 ∨ k = 1 ∨ k = 2 ∨ k = 3 ∨ k = 4 ∨ k = 5 ∨ k = 6 ∨ k = 7 ∨ k = 8 := by omega
  rcases this with rfl | rfl | rfl | rfl | rfl | rfl | rfl | rfl | rfl <;> rfl
theorem num_dig (l : List UInt8) (k : Nat) (h : k < 10) : num (dv (l ++ [UInt8.ofNat (48 + k)])) = num (dv l) * 10 + k := by
  rw [dv_append]
  show num (dv l ++ [(UInt8.ofNat (48 + k)).toNat - 48]) = _
  rw [num_snoc, ofNat_byte k h]
  omega
theorem allD_dig {l : List UInt8} (h : AllD l) (k : Nat) (hk : k < 10) : AllD (l ++ [UInt8.ofNat (48 + k)]) :=
  h.append (by intro c hc; rw [List.mem_singleton] at hc; rw [hc]; exact isD_dig k hk)
/-- the first digits, so far: their number c, c times 10^X is not above the number, c + 1 times is -/
def DInv (m : Nat) (l : List UInt8) (i : Nat) (X : Int) : Prop := AllD l ∧ l.length = i ∧ CLe m (num (dv l)) X ∧ ¬ CLe m (num (dv l) + 1) X

theorem DInv.start {m : Nat} {x : Int} (h : ¬ TenLe m (x + 1)) : DInv m [] 0 (x - ((0 : Nat) : Int) + 1) := by
  have e : x - ((0 : Nat) : Int) + 1 = x + 1 := by omega
  rw [e]
  exact ⟨allD_nil, rfl, CLe.zero m _, mt (ten_CLe m (x + 1)).2 h⟩

/-- the steps of the halving -/
def Step (s : Nat) : Prop := s = 0 ∨ s = 1 ∨ s = 2 ∨ s = 4 ∨ s = 8 ∨ s = 16 ∨ s = 32 ∨ s = 64 ∨ s = 128 ∨ s = 256 ∨ s = 512
/-- where the number lies, while it is sought -/
def FInv (m : Nat) (x : Int) (s : Nat) : Prop := TenLe m x ∧ ¬ TenLe m (x + (if s = 0 then 1 else 2 * (s : Int)))
theorem FInv.next {m : Nat} {x : Int} {s : Nat} (h : FInv m x s) (hs : Step s) (h0 : s ≠ 0) : (TenLe m (x + s) → FInv m (x + s) (s / 2)) ∧ (¬ TenLe m (x + s) → FInv m x (s / 2)) := by
  obtain ⟨h1, h2⟩ := h
  rw [if_neg h0] at h2
  have key : (if s / 2 = 0 then (1 : Int) else 2 * ((s / 2 : Nat) : Int)) = s := by
    unfold Step at hs
    rcases hs with h | h | h | h | h | h | h | h | h | h | h <;> subst h <;> first | (exact absurd rfl h0) | rfl
  refine ⟨fun h => ⟨h, ?_⟩, fun h => ⟨h1, ?_⟩⟩
  · rw [key, show x + (s : Int) + s = x + 2 * s by omega]; exact h2
  · rw [key]; exact h
theorem Step.half {s : Nat} (h : Step s) : Step (s / 2) := by
  unfold Step at *
  omega
end Go.Proofs.Ytmkkibaacclhnaa
