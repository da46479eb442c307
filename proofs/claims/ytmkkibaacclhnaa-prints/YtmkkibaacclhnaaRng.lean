/-
  A step of the walk of the numbers, the part named Rng: where the range ends, by digits. No theorem of the row.
-/
import Derived.Test.YtmkkibaacclhnaaTkn
namespace Go.Proofs.Ytmkkibaacclhnaa
open Go.RowKit

/-- digits, in the order of texts -/
def dLess : List Nat → List Nat → Bool
  | _, [] => false
  | [], _ :: _ => true
  | a :: x, b :: y => decide (a < b) || (decide (a = b) && dLess x y)

theorem num_cons (d : Nat) (r : List Nat) : num (d :: r) = d * p10 r.length + num r := by
  have : num (d :: r) = num ([d] ++ r) := rfl
  rw [this, num_append]
  simp [num]

theorem num_last {b : List Nat} (h : b.getLast? ≠ some 0) (h0 : b ≠ []) : 0 < num b := by
  rcases List.eq_nil_or_concat b with rfl | ⟨i, x, rfl⟩
  · exact absurd rfl h0
  · rw [List.concat_eq_append, num_snoc]
    have : x ≠ 0 := by rintro rfl; apply h; simp
    omega

theorem dLess_iff (a b : List Nat) (ha : Digs a) (hb : Digs b) (hz : b.getLast? ≠ some 0) : dLess a b = true ↔ num a * p10 b.length < num b * p10 a.length := by
  induction a generalizing b with
  | nil =>
    cases b with
    | nil => simp [dLess, num]
    | cons y b =>
      have := num_last hz (by simp)
      simp only [dLess, true_iff]
      show 0 * _ < num (y :: b) * p10 0
      rw [Nat.zero_mul, show p10 0 = 1 from rfl, Nat.mul_one]
      exact this
  | cons x a ih =>
    cases b with
    | nil => simp [dLess, num]
    | cons y b =>
      have ha' : Digs a := fun d hd => ha d (List.mem_cons_of_mem _ hd)
      have hb' : Digs b := fun d hd => hb d (List.mem_cons_of_mem _ hd)
      have na := num_lt a ha'
      have nb := num_lt b hb'
      have hih := ih b ha' hb' (by
        intro h
        apply hz
        cases b with
        | nil => simp at h
        | cons z b => simpa using h)
      simp only [dLess, Bool.or_eq_true, Bool.and_eq_true, decide_eq_true_eq]
      rw [hih, num_cons, num_cons, List.length_cons, List.length_cons, p10_succ, p10_succ]
      generalize num a = A at *
      generalize num b = C at *
      have pa := p10_pos a.length
      have pb := p10_pos b.length
      generalize p10 a.length = p at *
      generalize p10 b.length = q at *
      have e1 : (x * p + A) * (q * 10) = (x * (p * q) + A * q) * 10 := by
        rw [← Nat.mul_assoc, Nat.add_mul, Nat.mul_assoc x p q]
      have e2 : (y * q + C) * (p * 10) = (y * (p * q) + C * p) * 10 := by
        rw [← Nat.mul_assoc, Nat.add_mul, Nat.mul_assoc y q p, Nat.mul_comm q p]
      rw [e1, e2]
      have f1 : A * q < p * q := Nat.mul_lt_mul_of_pos_right na pb
      have f2 : C * p < p * q := by rw [Nat.mul_comm p q]; exact Nat.mul_lt_mul_of_pos_right nb pa
      generalize A * q = G at *
      generalize C * p = H at *
      generalize p * q = M at *
      rcases Nat.lt_trichotomy x y with h | h | h
      · have : (x + 1) * M ≤ y * M := Nat.mul_le_mul_right _ h
        rw [Nat.add_mul] at this
        constructor
        · intro _; omega
        · intro _; exact .inl h
      · subst h
        constructor
        · rintro (h | ⟨_, h⟩)
          · omega
          · omega
        · intro h; exact .inr ⟨rfl, by omega⟩
      · have : (y + 1) * M ≤ x * M := Nat.mul_le_mul_right _ h
        rw [Nat.add_mul] at this
        constructor
        · rintro (h | ⟨h, _⟩) <;> omega
        · intro _; omega

/-- the bound of the range, by its digits -/
def bnd : List Nat := [1, 7, 9, 7, 6, 9, 3, 1, 3, 4, 8, 6, 2, 3, 1, 5, 8, 0, 7, 9, 3, 7, 2, 8, 9, 7, 1, 4, 0, 5, 3, 0, 3, 4, 1, 5, 0, 7, 9, 9, 3, 4, 1, 3, 2, 7, 1, 0, 0, 3, 7, 8, 2, 6, 9, 3, 6, 1, 7, 3, 7, 7, 8, 9, 8, 0, 4, 4, 4, 9, 6, 8, 2, 9, 2, 7, 6, 4, 7, 5, 0, 9, 4, 6, 6, 4, 9, 0, 1, 7, 9, 7, 7, 5, 8, 7, 2, 0, 7, 0, 9, 6, 3, 3, 0, 2, 8, 6, 4, 1, 6, 6, 9, 2, 8, 8, 7, 9, 1, 0, 9, 4, 6, 5, 5, 5, 5, 4, 7, 8, 5, 1, 9, 4, 0, 4, 0, 2, 6, 3, 0, 6, 5, 7, 4, 8, 8, 6, 7, 1, 5, 0, 5, 8, 2, 0, 6, 8, 1, 9, 0, 8, 9, 0, 2, 0, 0, 0, 7, 0, 8, 3, 8, 3, 6, 7, 6, 2, 7, 3, 8, 5, 4, 8, 4, 5, 8, 1, 7, 7, 1, 1, 5, 3, 1, 7, 6, 4, 4, 7, 5, 7, 3, 0, 2, 7, 0, 0, 6, 9, 8, 5, 5, 5, 7, 1, 3, 6, 6, 9, 5, 9, 6, 2, 2, 8, 4, 2, 9, 1, 4, 8, 1, 9, 8, 6, 0, 8, 3, 4, 9, 3, 6, 4, 7, 5, 2, 9, 2, 7, 1, 9, 0, 7, 4, 1, 6, 8, 4, 4, 4, 3, 6, 5, 5, 1, 0, 7, 0, 4, 3, 4, 2, 7, 1, 1, 5, 5, 9, 6, 9, 9, 5, 0, 8, 0, 9, 3, 0, 4, 2, 8, 8, 0, 1, 7, 7, 9, 0, 4, 1, 7, 4, 4, 9, 7, 7, 9, 2]
theorem bnd_len : bnd.length = 309 := by decide +kernel
theorem bnd_digs : Digs bnd := by
  have : bnd.all (fun d => decide (d ≤ 9)) = true := by decide +kernel
  intro d hd
  simpa using List.all_eq_true.1 this d hd
theorem bnd_last : bnd.getLast? ≠ some 0 := by decide +kernel
theorem bnd_mid : mid 9218868437227405311 = 2 * (num bnd * p2 1074) := by decide +kernel
theorem bnd_big : p10 308 ≤ num bnd := by decide +kernel

/-- is a decimal out of range? -/
def oor (D : List Nat) (P : Int) : Bool := if D = [] ∨ P < 309 then false else if 309 < P then true else !dLess D bnd

theorem mid_le {a b : Nat} (h : a ≤ b) : mid a ≤ mid b := by
  rcases Nat.lt_or_ge a b with h1 | h1
  · exact Nat.le_of_lt (mid_lt h1)
  · rw [show a = b by omega]; exact Nat.le_refl _

theorem rnd_big {X Y r : Nat} (h : Rnd X Y r) (hr : 9218868437227405312 ≤ r) : mid 9218868437227405311 * Y ≤ 2 * X := by
  obtain ⟨a, _⟩ := h
  have h1 : mid 9218868437227405311 * Y ≤ mid (r - 1) * Y := Nat.mul_le_mul_right _ (mid_le (by omega))
  rcases a with a | a | ⟨a, _⟩
  · omega
  · omega
  · omega
theorem rnd_small {X Y r : Nat} (hY : 0 < Y) (h : Rnd X Y r) (hr : r < 9218868437227405312) : 2 * X < mid 9218868437227405311 * Y := by
  obtain ⟨_, b⟩ := h
  rcases Nat.lt_or_ge r 9218868437227405311 with h1 | h1
  · have := (Nat.mul_lt_mul_right hY).2 (mid_lt h1)
    omega
  · have hr2 : r = 9218868437227405311 := by omega
    subst hr2
    rcases b with b | ⟨_, b⟩
    · exact b
    · omega

/-- the numerator against the bound -/
theorem big_iff (N Y : Nat) : mid 9218868437227405311 * Y ≤ 2 * (N * p2 1074) ↔ num bnd * Y ≤ N := by
  rw [bnd_mid, Nat.mul_assoc 2, Nat.mul_right_comm (num bnd) (p2 1074) Y]
  have hp := p2_pos 1074
  generalize num bnd * Y = a
  generalize p2 1074 = q at *
  constructor
  · intro h
    exact Nat.le_of_mul_le_mul_right (by omega : a * q ≤ N * q) hp
  · intro h
    have := Nat.mul_le_mul_right q h
    omega

theorem less_iff (D : List Nat) (hD : Digs D) : dLess D bnd = true ↔ num D * p10 (309 - (D.length : Int)).toNat < num bnd * p10 ((D.length : Int) - 309).toNat := by
  rw [dLess_iff D bnd hD bnd_digs bnd_last, bnd_len]
  rcases Nat.lt_or_ge D.length 309 with h | h
  · rw [show ((D.length : Int) - 309).toNat = 0 by omega, show p10 0 = 1 from rfl, Nat.mul_one]
    have e : p10 309 = p10 (309 - (D.length : Int)).toNat * p10 D.length := by rw [← p10_add, show (309 - (D.length : Int)).toNat + D.length = 309 by omega]
    rw [e, ← Nat.mul_assoc]
    exact Nat.mul_lt_mul_right (p10_pos _)
  · rw [show (309 - (D.length : Int)).toNat = 0 by omega, show p10 0 = 1 from rfl, Nat.mul_one]
    have e : p10 D.length = p10 ((D.length : Int) - 309).toNat * p10 309 := by rw [← p10_add, show ((D.length : Int) - 309).toNat + 309 = D.length by omega]
    rw [e, ← Nat.mul_assoc]
    exact Nat.mul_lt_mul_right (p10_pos _)

theorem near_lt {D : List Nat} {P : Int} {r : Nat} (hD : Digs D) (hP' : D ≠ [] → P ≤ 309) (ho : oor D P = false) (h : NearOf D P r) : r < 9218868437227405312 := by
  rcases Nat.lt_or_ge r 9218868437227405312 with h1 | h1
  · exact h1
  exfalso
  obtain ⟨a, _, c⟩ := h
  have hne : D ≠ [] := fun h0 => by have := a (.inl h0); omega
  have hP := hP' hne
  have hlo : ¬ P < -323 := fun h0 => by have := a (.inr h0); omega
  have hb := (big_iff _ _).1 (rnd_big (c hne hlo (by omega)) h1)
  by_cases hp : P < 309
  · have n1 := num_lt D hD
    have k1 : num D * p10 (P - D.length).toNat < p10 (D.length + (P - D.length).toNat) := by rw [p10_add]; exact Nat.mul_lt_mul_of_pos_right n1 (p10_pos _)
    have k2 : p10 (D.length + (P - D.length).toNat) ≤ p10 (308 + (D.length - P).toNat) := p10_le _ _ (by omega)
    rw [p10_add 308] at k2
    have k3 := Nat.mul_le_mul_right (p10 (D.length - P).toNat) bnd_big
    omega
  · have hp9 : P = 309 := by omega
    subst hp9
    rw [oor, if_neg (by intro h; rcases h with h | h; exact hne h; omega), if_neg (by omega)] at ho
    have hl : dLess D bnd = true := by cases hd : dLess D bnd
                                       · rw [hd] at ho; cases ho
                                       · rfl
    have := (less_iff D hD).1 hl
    omega

theorem oor_no {D : List Nat} {P : Int} {n : Nat} (hD : Digs D) (hP : P ≤ 309) (h : Rnd (num D * p10 (P - D.length).toNat * p2 1074) (p10 (D.length - P).toNat) n) (hn : n < 9218868437227405312) : oor D P = false := by
  unfold oor
  by_cases h1 : D = [] ∨ P < 309
  · rw [if_pos h1]
  · have hp9 : P = 309 := by omega
    subst hp9
    rw [if_neg h1, if_neg (by omega)]
    have := rnd_small (p10_pos _) h hn
    have hl : dLess D bnd = true := by
      rw [less_iff D hD]
      rcases Nat.lt_or_ge (num D * p10 (309 - (D.length : Int)).toNat) (num bnd * p10 ((D.length : Int) - 309).toNat) with h2 | h2
      · exact h2
      · have := (big_iff _ _).2 h2
        omega
    rw [hl]; rfl

/-- what Parse finds of a decimal -/
def NearV (D : List Nat) (P : Int) (r : Nat) : Prop := (oor D P = true → r = 9218868437227405312) ∧ (oor D P = false → NearOf D P r ∧ r < 9218868437227405312)

/-- an exponent that is drawn in says the same -/
theorem NearV.far {D : List Nat} {P Q : Int} {r : Nat} (h : NearV D P r) (he : P = Q ∨ (309 < P ∧ 309 < Q) ∨ (P < -323 ∧ Q < -323)) : NearV D Q r := by
  rcases he with rfl | ⟨h1, h2⟩ | ⟨h1, h2⟩
  · exact h
  · by_cases hD : D = []
    · have e : ∀ x, oor D x = false := fun x => by rw [oor, if_pos (.inl hD)]
      refine ⟨fun h0 => (by rw [e] at h0; cases h0), fun _ => ?_⟩
      have := h.2 (e _)
      refine ⟨⟨fun _ => this.1.1 (.inl hD), fun h0 => absurd hD h0, fun h0 => absurd hD h0⟩, this.2⟩
    · have e : ∀ x : Int, 309 < x → oor D x = true := fun x hx => by rw [oor, if_neg (by intro h; rcases h with h | h; exact hD h; omega), if_pos hx]
      exact ⟨fun _ => h.1 (e _ h1), fun h0 => (by rw [e _ h2] at h0; cases h0)⟩
  · have e : ∀ x : Int, x < -323 → oor D x = false := fun x hx => by rw [oor, if_pos (.inr (by omega))]
    refine ⟨fun h0 => (by rw [e _ h2] at h0; cases h0), fun _ => ?_⟩
    have := h.2 (e _ h1)
    exact ⟨⟨fun _ => this.1.1 (.inr h1), fun _ h0 => absurd h2 h0, fun _ h0 => absurd h2 h0⟩, this.2⟩
end Go.Proofs.Ytmkkibaacclhnaa
