/-
  Numbers of 64 bits, counted in 2^-1074, and what is nearest. Plain mathematics.
-/
namespace Go.Proofs.Ytmkkibaacclhnaa

/-- The value of bits (without a sign), counted in 2^-1074. -/
def V (n : Nat) : Nat := if n / 4503599627370496 = 0 then n else (4503599627370496 + n % 4503599627370496) * 2 ^ (n / 4503599627370496 - 1)

theorem V_em (E m : Nat) (h : (E = 0 ∧ m ≤ 9007199254740992) ∨ (4503599627370496 ≤ m ∧ m ≤ 9007199254740992)) : V (E * 4503599627370496 + m) = m * 2 ^ E := by
  unfold V
  by_cases h1 : m < 4503599627370496
  · obtain ⟨rfl, _⟩ : E = 0 ∧ m ≤ 9007199254740992 := by omega
    rw [if_pos (by omega)]; simp
  · by_cases h2 : m = 9007199254740992
    · subst h2
      have e1 : (E * 4503599627370496 + 9007199254740992) / 4503599627370496 = E + 2 := by omega
      have e2 : (E * 4503599627370496 + 9007199254740992) % 4503599627370496 = 0 := by omega
      rw [e1, e2, if_neg (by omega), show E + 2 - 1 = E + 1 from by omega, Nat.pow_succ]
      omega
    · have e1 : (E * 4503599627370496 + m) / 4503599627370496 = E + 1 := by omega
      have e2 : (E * 4503599627370496 + m) % 4503599627370496 = m - 4503599627370496 := by omega
      rw [e1, e2, if_neg (by omega), show E + 1 - 1 = E from by omega, show 4503599627370496 + (m - 4503599627370496) = m from by omega]

theorem V_rep (n : Nat) : ∃ E m, n = E * 4503599627370496 + m ∧ V n = m * 2 ^ E ∧ V (n + 1) = (m + 1) * 2 ^ E ∧ ((E = 0 ∧ m < 9007199254740992) ∨ (4503599627370496 ≤ m ∧ m < 9007199254740992)) := by
  by_cases h : n / 4503599627370496 = 0
  · refine ⟨0, n, by omega, ?_, ?_, .inl ⟨rfl, by omega⟩⟩
    · have := V_em 0 n (.inl ⟨rfl, by omega⟩); simpa using this
    · have := V_em 0 (n + 1) (.inl ⟨rfl, by omega⟩); simpa using this
  · have e : n = (n / 4503599627370496 - 1) * 4503599627370496 + (4503599627370496 + n % 4503599627370496) := by omega
    refine ⟨n / 4503599627370496 - 1, 4503599627370496 + n % 4503599627370496, e, ?_, ?_, .inr ⟨by omega, by omega⟩⟩
    · have := V_em (n / 4503599627370496 - 1) (4503599627370496 + n % 4503599627370496) (.inr ⟨by omega, by omega⟩)
      rwa [← e] at this
    · have := V_em (n / 4503599627370496 - 1) (4503599627370496 + n % 4503599627370496 + 1) (.inr ⟨by omega, by omega⟩)
      rw [← Nat.add_assoc, ← e] at this
      exact this

theorem V_succ (n : Nat) : V n < V (n + 1) := by
  obtain ⟨E, m, _, h1, h2, _⟩ := V_rep n
  rw [h1, h2, Nat.add_mul]
  have := Nat.two_pow_pos E
  omega
theorem V_mono {a b : Nat} (h : a ≤ b) : V a ≤ V b := by
  induction b with
  | zero => obtain rfl : a = 0 := by omega
            exact Nat.le_refl _
  | succ b ih =>
    by_cases e : a = b + 1
    · rw [e]; exact Nat.le_refl _
    · exact Nat.le_trans (ih (by omega)) (Nat.le_of_lt (V_succ b))
theorem V_lt {a b : Nat} (h : a < b) : V a < V b := Nat.lt_of_lt_of_le (V_succ a) (V_mono h)
theorem V_lt_iff {a b : Nat} : V a < V b ↔ a < b := ⟨fun h => by
  rcases Nat.lt_or_ge a b with h1 | h1
  · exact h1
  · have := V_mono h1; omega, V_lt⟩
theorem V_inj {a b : Nat} (h : V a = V b) : a = b := by
  rcases Nat.lt_trichotomy a b with h1 | h1 | h1
  · have := V_lt h1; omega
  · exact h1
  · have := V_lt h1; omega
theorem V_zero : V 0 = 0 := by simp [V]

/-- Twice what lies half way between a number and the next one. -/
def mid (r : Nat) : Nat := V r + V (r + 1)
theorem mid_lt {a b : Nat} (h : a < b) : mid a < mid b := by
  have h1 := V_lt h
  have h2 := V_lt (show a + 1 < b + 1 by omega)
  unfold mid; omega

/-- X/Y (counted in 2^-1074) is read as r: r is the nearest, the even one of two. -/
def Rnd (X Y r : Nat) : Prop :=
  (r = 0 ∨ mid (r - 1) * Y < 2 * X ∨ (mid (r - 1) * Y = 2 * X ∧ r % 2 = 0)) ∧ (2 * X < mid r * Y ∨ (2 * X = mid r * Y ∧ r % 2 = 0))

theorem Rnd.le {X Y r s : Nat} (hY : 0 < Y) (h1 : Rnd X Y r) (h2 : Rnd X Y s) : s ≤ r := by
  rcases Nat.lt_or_ge r s with hlt | h
  · exfalso
    have a := h1.2
    have b := h2.1
    have hm : mid r ≤ mid (s - 1) := by
      by_cases e : r = s - 1
      · rw [← e]; exact Nat.le_refl _
      · exact Nat.le_of_lt (mid_lt (by omega))
    have hmm : mid r * Y ≤ mid (s - 1) * Y := Nat.mul_le_mul_right _ hm
    have he : 2 * X = mid r * Y ∧ r % 2 = 0 := by omega
    have he2 : mid (s - 1) * Y = 2 * X ∧ s % 2 = 0 := by omega
    have e3 : mid r = mid (s - 1) := Nat.eq_of_mul_eq_mul_right hY (by omega)
    have e4 : r = s - 1 := by
      by_cases e : r = s - 1
      · exact e
      · have := mid_lt (show r < s - 1 by omega); omega
    omega
  · exact h
theorem Rnd.uniq {X Y r s : Nat} (hY : 0 < Y) (h1 : Rnd X Y r) (h2 : Rnd X Y s) : r = s := Nat.le_antisymm (h2.le hY h1) (h1.le hY h2)

/-- What long division gives: X/Y = (m + R/D) 2^E. -/
theorem rnd_of {X Y D R m E r : Nat} (hY : 0 < Y) (hD : 0 < D) (hR : R < D) (hm : (E = 0 ∧ m < 9007199254740992) ∨ (4503599627370496 ≤ m ∧ m < 9007199254740992))
    (hX : X * D = (m * D + R) * 2 ^ E * Y) (hr : r = E * 4503599627370496 + m + (if D < 2 * R ∨ (2 * R = D ∧ m % 2 = 1) then 1 else 0)) : Rnd X Y r := by
  have hp := Nat.two_pow_pos E
  have v0 : V (E * 4503599627370496 + m) = m * 2 ^ E := V_em E m (by omega)
  have v1 : V (E * 4503599627370496 + m + 1) = (m + 1) * 2 ^ E := by rw [Nat.add_assoc]; exact V_em E (m + 1) (by omega)
  obtain ⟨r0, hr0⟩ : ∃ r0, r0 = E * 4503599627370496 + m := ⟨_, rfl⟩
  rw [← hr0] at v0 v1 hr
  have par : r0 % 2 = m % 2 := by omega
  have hZ : 0 < 2 ^ E * Y := Nat.mul_pos hp hY
  -- all against Z = 2^E Y
  have hX' : X * D = (m * D + R) * (2 ^ E * Y) := by rw [hX, Nat.mul_assoc]
  obtain ⟨Z, hZe⟩ : ∃ Z, 2 ^ E * Y = Z := ⟨_, rfl⟩
  rw [hZe] at hX' hZ
  have hlo : m * Z ≤ X := by
    refine Nat.le_of_mul_le_mul_right ?_ hD
    rw [hX', Nat.mul_right_comm]
    exact Nat.mul_le_mul_right _ (by omega)
  have hhi : X < (m + 1) * Z := by
    refine Nat.lt_of_mul_lt_mul_right (a := D) ?_
    rw [hX', Nat.mul_right_comm]
    exact Nat.mul_lt_mul_of_pos_right (by rw [Nat.add_mul]; omega) hZ
  have hmid : mid r0 * Y = (2 * m + 1) * Z := by
    unfold mid; rw [v0, v1, ← Nat.add_mul, Nat.mul_assoc, hZe]; congr 1; omega
  -- 2X against the middle: 2R against D
  have key : ∀ a b : Nat, (a < b ↔ (2 * m * D + a) * Z < (2 * m * D + b) * Z) := fun a b =>
    ⟨fun h => Nat.mul_lt_mul_of_pos_right (by omega) hZ, fun h => by have := Nat.lt_of_mul_lt_mul_right h; omega⟩
  have e1 : 2 * X * D = (2 * m * D + 2 * R) * Z := by rw [Nat.mul_assoc, hX', ← Nat.mul_assoc, Nat.mul_add, ← Nat.mul_assoc]
  have e2 : mid r0 * Y * D = (2 * m * D + D) * Z := by rw [hmid, Nat.mul_right_comm, Nat.add_mul, Nat.one_mul]
  have c1 : 2 * X < mid r0 * Y ↔ 2 * R < D := by
    rw [key (2 * R) D, ← e1, ← e2]
    exact ⟨fun h => Nat.mul_lt_mul_of_pos_right h hD, fun h => Nat.lt_of_mul_lt_mul_right h⟩
  have c2 : mid r0 * Y < 2 * X ↔ D < 2 * R := by
    rw [key D (2 * R), ← e1, ← e2]
    exact ⟨fun h => Nat.mul_lt_mul_of_pos_right h hD, fun h => Nat.lt_of_mul_lt_mul_right h⟩
  -- the neighbours' middles
  have low : r0 = 0 ∨ mid (r0 - 1) * Y < 2 * X := by
    by_cases h0 : r0 = 0
    · exact .inl h0
    · right
      have h1 : V (r0 - 1) < V r0 := V_lt (by omega)
      have h2 : mid (r0 - 1) < 2 * (m * 2 ^ E) := by unfold mid; rw [show r0 - 1 + 1 = r0 from by omega]; omega
      have h3 : mid (r0 - 1) * Y < 2 * (m * 2 ^ E) * Y := Nat.mul_lt_mul_of_pos_right h2 hY
      rw [Nat.mul_assoc, Nat.mul_assoc, hZe] at h3
      omega
  have high : 2 * X < mid (r0 + 1) * Y := by
    have h1 : V (r0 + 1) < V (r0 + 1 + 1) := V_succ _
    have h2 : 2 * ((m + 1) * 2 ^ E) < mid (r0 + 1) := by unfold mid; omega
    have h3 : 2 * ((m + 1) * 2 ^ E) * Y < mid (r0 + 1) * Y := Nat.mul_lt_mul_of_pos_right h2 hY
    rw [Nat.mul_assoc, Nat.mul_assoc, hZe] at h3
    omega
  by_cases hc : D < 2 * R ∨ (2 * R = D ∧ m % 2 = 1)
  · rw [if_pos hc] at hr
    subst hr
    refine ⟨.inr ?_, .inl high⟩
    rw [Nat.add_sub_cancel]
    rcases hc with hc | ⟨hc, ho⟩
    · exact .inl (c2.2 hc)
    · exact .inr ⟨by omega, by omega⟩
  · rw [if_neg hc, Nat.add_zero] at hr
    subst hr
    refine ⟨?_, ?_⟩
    · rcases low with h | h
      · exact .inl h
      · exact .inr (.inl h)
    · by_cases h : 2 * R < D
      · exact .inl (c1.2 h)
      · exact .inr ⟨by omega, by omega⟩

end Go.Proofs.Ytmkkibaacclhnaa
