/-
  A step of the walk, the part named Xfg. No theorem of the row.
-/
import Derived.Test.YtmkkibaacclhnaaGreatDoorBpr
import Derived.Deep.DeepCutAuto
import Derived.Test.YtmkkibaacclhnaaGreatDoorXcd
namespace Go.Proofs.YtmkkibaacclhnaaGreatDoor
open Go.RowKit

theorem bcmp_lt (a b : Nat) : bcmp a b < 0 ↔ a < b := by
  unfold bcmp
  split
  · rename_i h; simp [h]
  · rename_i h; split <;> simp [h]
theorem bcmp_eq (a b : Nat) : bcmp a b = 0 ↔ a = b := by
  unfold bcmp
  split
  · rename_i h; constructor
    · intro h2; omega
    · intro h2; omega
  · split
    · rename_i h2; simp [h2]
    · rename_i h2; simp [h2]
theorem bcmp_gt (a b : Nat) : 0 < bcmp a b ↔ b < a := by
  unfold bcmp
  split
  · rename_i h; constructor
    · intro h2; omega
    · intro h2; omega
  · split
    · rename_i h h2; constructor
      · intro h3; omega
      · intro h3; omega
    · constructor
      · intro _; omega
      · intro _; omega
theorem bcmp_scale (a b t : Nat) (ht : 0 < t) : bcmp (a * t) (b * t) = bcmp a b := by
  unfold bcmp
  have h1 : a * t < b * t ↔ a < b := Nat.mul_lt_mul_right ht
  have h2 : a * t = b * t ↔ a = b := Nat.mul_left_inj (by omega)
  simp only [h1, h2]
/-- powers of two, on whichever side -/
theorem bcmp_two (A C E s : Nat) (e : Int) (he : e = (E : Int) - (s : Int)) : bcmp (A * 2 ^ (-e).toNat) (C * 2 ^ e.toNat) = bcmp (A * p2 s) (C * p2 E) := by
  show bcmp (A * p2 (-e).toNat) (C * p2 e.toNat) = _
  rcases Nat.le_total E s with h | h
  · rw [show e.toNat = 0 by omega, show p2 0 = 1 from rfl, Nat.mul_one, ← bcmp_scale _ _ (p2 E) (p2_pos E), Nat.mul_assoc, ← p2_add, show (-e).toNat + E = s by omega]
  · rw [show (-e).toNat = 0 by omega, show p2 0 = 1 from rfl, Nat.mul_one, ← bcmp_scale _ _ (p2 s) (p2_pos s), Nat.mul_assoc, ← p2_add, show e.toNat + s = E by omega]
theorem p2_1075 : p2 1075 = 2 * p2 1074 := p2_succ 1074
theorem p2_1076 : p2 1076 = 4 * p2 1074 := by
  rw [show p2 1076 = 2 * p2 1075 from p2_succ 1075, p2_1075, ← Nat.mul_assoc]
theorem insV_iff (A B m : Nat) (hm0 : m ≠ 0) : insV A B m = true ↔ Rnd (A * p2 1074) B m := by
  have hV := manE_V m
  have hH := gapH_eq m
  have hL := gapL_eq m hm0
  have h1 := mid_high m
  have h2 := mid_low m hm0
  have hQ : ((manE m).1 = 4503599627370496 ∧ 1 < m / 4503599627370496) ↔ ((manE m).1 = 4503599627370496 ∧ 0 < (manE m).2) := by
    unfold manE
    by_cases h : m / 4503599627370496 = 0
    · rw [if_pos h]; simp only; omega
    · rw [if_neg h]; simp only; omega
  have hn : 0 < (manE m).1 := by
    obtain ⟨e1, e2⟩ := manE_eq m
    omega
  unfold lowQ at hL
  unfold insV insF insB
  generalize (manE m).1 = n at *
  generalize (manE m).2 = E at *
  rw [bcmp_two A (B * (2 * n + 1)) E 1075 _ (by omega)]
  have hab : B * (2 * n + 1) * p2 E = mid m * B := by
    rw [h1, hV, hH, Nat.mul_comm B, Nat.mul_right_comm, Nat.add_mul, Nat.one_mul, Nat.mul_assoc 2]
  have hA : A * p2 1075 = 2 * (A * p2 1074) := by rw [p2_1075, Nat.mul_left_comm]
  have hA2 : A * p2 1076 = 4 * (A * p2 1074) := by rw [p2_1076, Nat.mul_left_comm]
  have hbe : (if n = 4503599627370496 ∧ 1 < m / 4503599627370496 then bcmp (A * 2 ^ (-((E : Int) - 1074 - 2)).toNat) (B * (4 * n - 1) * 2 ^ ((E : Int) - 1074 - 2).toNat) else bcmp (A * 2 ^ (-((E : Int) - 1074 - 1)).toNat) (B * (2 * n - 1) * 2 ^ ((E : Int) - 1074 - 1).toNat)) = bcmp (2 * (A * p2 1074)) (mid (m - 1) * B) := by
    by_cases hb : n = 4503599627370496 ∧ 0 < E
    · rw [if_pos (hQ.2 hb), bcmp_two A (B * (4 * n - 1)) E 1076 _ (by omega), hA2]
      rw [if_pos hb, Nat.one_mul] at hL
      have hmid : 2 * mid (m - 1) = (4 * n - 1) * p2 E := by
        rw [Nat.sub_mul, Nat.one_mul]
        have : 4 * n * p2 E = 4 * (n * p2 E) := Nat.mul_assoc ..
        have := p2_pos E
        generalize n * p2 E = z at *
        generalize p2 E = y at *
        omega
      rw [Nat.mul_comm B, Nat.mul_right_comm, ← hmid, ← bcmp_scale (2 * (A * p2 1074)) (mid (m - 1) * B) 2 (by omega)]
      generalize A * p2 1074 = x
      rw [show 4 * x = 2 * x * 2 by omega, show 2 * mid (m - 1) * B = mid (m - 1) * B * 2 by rw [Nat.mul_assoc, Nat.mul_comm]]
    · rw [if_neg (fun h => hb (hQ.1 h)), bcmp_two A (B * (2 * n - 1)) E 1075 _ (by omega), hA]
      rw [if_neg hb] at hL
      have hmid : mid (m - 1) = (2 * n - 1) * p2 E := by
        rw [Nat.sub_mul, Nat.one_mul]
        have : 2 * n * p2 E = 2 * (n * p2 E) := Nat.mul_assoc ..
        generalize n * p2 E = z at *
        generalize p2 E = y at *
        omega
      rw [hmid, Nat.mul_comm B, Nat.mul_right_comm]
  rw [hbe, hab, hA]
  unfold Rnd
  simp only [Bool.and_eq_true, Bool.or_eq_true, decide_eq_true_eq, bcmp_lt, bcmp_eq, bcmp_gt]
  generalize 2 * (A * p2 1074) = x
  generalize mid m * B = y
  generalize mid (m - 1) * B = z
  constructor
  · rintro ⟨a, b⟩
    refine ⟨?_, ?_⟩
    · rcases b with b | ⟨b, c⟩
      · exact .inr (.inl b)
      · exact .inr (.inr ⟨b.symm, c⟩)
    · exact a
  · rintro ⟨a, b⟩
    refine ⟨b, ?_⟩
    rcases a with a | a | ⟨a, c⟩
    · exact absurd a hm0
    · exact .inl a
    · exact .inr ⟨a.symm, c⟩
end Go.Proofs.YtmkkibaacclhnaaGreatDoor

namespace Go.Proofs.YtmkkibaacclhnaaGreatDoor
open Go.RowKit

/-- a fraction against a number -/
theorem fag_V (v : Value) (A B L m n E : Nat) (N e : Int) (w : World) (hm : m < 9218868437227405312) (hn : (manE m).1 = n) (hE : (manE m).2 = E) (hN : N = (n : Int)) (he : e = (E : Int) - 1074) (hL : L ≤ 10000000) (hf : FracAt w v A B L) :
    Calls Tryz.prog 206 #[v, .int .u64 N, .int .i64 e] w fun r w' => r = .returned (.int .i64 (bcmp (A * p2 1074) (B * V m))) ∧ Fr (fun _ => False) w w' := by
  have hb := man_less m hm
  rw [hn, hE] at hb
  refine (fagainst_int v A B L N n e w hN hL (by omega) (by omega) (by omega) hf).mono ?_
  rintro r w' ⟨rfl, hF⟩
  refine ⟨?_, hF⟩
  rw [bcmp_two A (B * n) E 1074 e (by omega), manE_V m, hn, hE, Nat.mul_assoc]
/-- 10^X is not above the number -/
def TenLe (m : Nat) (X : Int) : Prop := p10 X.toNat * p2 1074 ≤ p10 (-X).toNat * V m
end Go.Proofs.YtmkkibaacclhnaaGreatDoor

namespace Go.Proofs.YtmkkibaacclhnaaGreatDoor
open Go.RowKit

theorem bcmp_le (a b : Nat) : bcmp a b ≤ 0 ↔ a ≤ b := by
  have h1 := bcmp_gt a b
  constructor
  · intro h
    rcases Nat.lt_or_ge b a with h2 | h2
    · have := h1.2 h2; omega
    · exact h2
  · intro h
    rcases Int.lt_or_le 0 (bcmp a b) with h2 | h2
    · have := h1.1 h2; omega
    · exact h2
/-- c times 10^X is not above the number -/
def CLe (m c : Nat) (X : Int) : Prop := c * p10 X.toNat * p2 1074 ≤ p10 (-X).toNat * V m
theorem CLe.shift (m c : Nat) (X : Int) : CLe m c (X + 1) ↔ CLe m (10 * c) X := by
  unfold CLe
  rcases Int.lt_or_le X 0 with h | h
  · rw [show (X + 1).toNat = 0 by omega, show X.toNat = 0 by omega, show (-X).toNat = (-(X + 1)).toNat + 1 by omega, p10_succ, show p10 0 = 1 from rfl, Nat.mul_one, Nat.mul_one]
    generalize p10 (-(X + 1)).toNat = p
    rw [Nat.mul_assoc 10 c, Nat.mul_comm p 10, Nat.mul_assoc 10 p]
    generalize c * p2 1074 = a
    generalize p * V m = b
    omega
  · rw [show (X + 1).toNat = X.toNat + 1 by omega, show (-(X + 1)).toNat = 0 by omega, show (-X).toNat = 0 by omega, p10_succ]
    rw [show c * (p10 X.toNat * 10) = 10 * c * p10 X.toNat from by rw [Nat.mul_comm 10 c, Nat.mul_assoc, Nat.mul_comm 10]]
theorem CLe.zero (m : Nat) (X : Int) : CLe m 0 X := by unfold CLe; rw [Nat.zero_mul, Nat.zero_mul]; exact Nat.zero_le _
theorem ten_CLe (m : Nat) (X : Int) : TenLe m X ↔ CLe m 1 X := by unfold TenLe CLe; rw [Nat.one_mul]
theorem one_slice (k : Nat) (h : k < 9) : (ByteArray.mk #[49, 50, 51, 52, 53, 54, 55, 56, 57]).extract k (k + 1) = ofL [UInt8.ofNat (48 + (k + 1))] := by
  have : k = 0 ∨ k = 1 ∨ k = 2 ∨ k = 3 ∨ k = 4 ∨ k = 5 ∨ k = 6 ∨ k = 7 ∨ k = 8 := by omega
  rcases this with rfl | rfl | rfl | rfl | rfl | rfl | rfl | rfl | rfl <;> rfl
theorem num_dig (l : List UInt8) (k : Nat) (h : k < 10) : num (dv (l ++ [UInt8.ofNat (48 + k)])) = num (dv l) * 10 + k := by
  rw [dv_append]
  show num (dv l ++ [(UInt8.ofNat (48 + k)).toNat - 48]) = _
  rw [num_snoc, ofNat_byte k h]
  omega
theorem allD_dig {l : List UInt8} (h : AllD l) (k : Nat) (hk : k < 10) : AllD (l ++ [UInt8.ofNat (48 + k)]) :=
  h.append (by intro c hc; rw [List.mem_singleton] at hc; rw [hc]; exact isD_dig k hk)
/-- the first digits, so far: their number c, c times 10^X is not above the number, c + 1 times is -/
def DInv (m : Nat) (l : List UInt8) (i : Nat) (X : Int) : Prop := AllD l ∧ l.length = i ∧ CLe m (num (dv l)) X ∧ ¬ CLe m (num (dv l) + 1) X
theorem DInv.start {m : Nat} {x : Int} (h : ¬ TenLe m (x + 1)) : DInv m [] 0 (x - ((0 : Nat) : Int) + 1) := by
  have e : x - ((0 : Nat) : Int) + 1 = x + 1 := by omega
  rw [e]
  exact ⟨allD_nil, rfl, CLe.zero m _, mt (ten_CLe m (x + 1)).2 h⟩
/-- the steps of the halving -/
def Step (s : Nat) : Prop := s = 0 ∨ s = 1 ∨ s = 2 ∨ s = 4 ∨ s = 8 ∨ s = 16 ∨ s = 32 ∨ s = 64 ∨ s = 128 ∨ s = 256 ∨ s = 512
/-- where the number lies, while it is sought -/
def FInvB (m : Nat) (x : Int) (s : Nat) : Prop := TenLe m x ∧ ¬ TenLe m (x + (if s = 0 then 1 else 2 * (s : Int)))
theorem FInvB.next {m : Nat} {x : Int} {s : Nat} (h : FInvB m x s) (hs : Step s) (h0 : s ≠ 0) : (TenLe m (x + s) → FInvB m (x + s) (s / 2)) ∧ (¬ TenLe m (x + s) → FInvB m x (s / 2)) := by
  obtain ⟨h1, h2⟩ := h
  rw [if_neg h0] at h2
  have key : (if s / 2 = 0 then (1 : Int) else 2 * ((s / 2 : Nat) : Int)) = s := by
    unfold Step at hs
    rcases hs with h | h | h | h | h | h | h | h | h | h | h <;> subst h <;> first | (exact absurd rfl h0) | rfl
  refine ⟨fun h => ⟨h, ?_⟩, fun h => ⟨h1, ?_⟩⟩
  · rw [key, show x + (s : Int) + s = x + 2 * s by omega]; exact h2
  · rw [key]; exact h
theorem Step.half {s : Nat} (h : Step s) : Step (s / 2) := by
  unfold Step at *
  omega
end Go.Proofs.YtmkkibaacclhnaaGreatDoor

namespace Go.Proofs.YtmkkibaacclhnaaGreatDoor
open Go.RowKit

theorem dgs_last (D : Nat) (h : D % 10 ≠ 0) : (dgs D).getLast? ≠ some 48 := by
  have hb := ofNat_byte (D % 10) (by omega)
  have key : UInt8.ofNat (48 + D % 10) ≠ 48 := by
    intro e
    have := congrArg UInt8.toNat e
    rw [hb] at this
    have h48 : (48 : UInt8).toNat = 48 := rfl
    omega
  by_cases h1 : D < 10
  · rw [dgs_lt h1]
    rw [show D % 10 = D by omega] at key
    simpa using key
  · rw [dgs_ge h1]
    simpa using key
theorem p10_17 : p10 17 = 100000000000000000 := by decide +kernel
end Go.Proofs.YtmkkibaacclhnaaGreatDoor
