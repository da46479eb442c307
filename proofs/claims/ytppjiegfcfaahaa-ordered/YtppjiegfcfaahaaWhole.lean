/-
  A step of the walk of the numbers, the part named Whole. No theorem of the row.
-/
import Derived.Test.YtppjiegfcfaahaaKeep
namespace Go.Proofs.Ytppjiegfcfaahaa
open Go.RowKit

/-- a whole number below 2^53, as bits -/
theorem whole_bits (k : Nat) (h0 : k ≠ 0) (hk : k < 9007199254740992) : ∃ n, n ≠ 0 ∧ n < 9218868437227405311 ∧ V n = k * p2 1074 ∧ (manE n).2 ≤ 1074 := by
  have hex : ∃ j, j ≤ 52 ∧ 4503599627370496 ≤ k * 2 ^ (52 - j) ∧ k * 2 ^ (52 - j) < 9007199254740992 := by
    have : ∀ i, i ≤ 52 → 2 ^ (52 - i) ≤ k → ∃ j, j ≤ 52 ∧ 4503599627370496 ≤ k * 2 ^ (52 - j) ∧ k * 2 ^ (52 - j) < 9007199254740992 := by
      intro i
      induction i with
      | zero => intro _ h; exact ⟨52, by omega, by simpa using h, by simpa using hk⟩
      | succ i ih =>
        intro hi h
        rcases Nat.lt_or_ge k (2 ^ (52 - i)) with h1 | h1
        · refine ⟨52 - (i + 1), by omega, ?_, ?_⟩
          · rw [show 52 - (52 - (i + 1)) = i + 1 by omega]
            have := Nat.mul_le_mul_right (2 ^ (i + 1)) h
            rw [← Nat.pow_add, show 52 - (i + 1) + (i + 1) = 52 by omega] at this
            exact this
          · rw [show 52 - (52 - (i + 1)) = i + 1 by omega]
            have := (Nat.mul_lt_mul_right (Nat.two_pow_pos (i + 1))).2 h1
            rw [← Nat.pow_add, show 52 - i + (i + 1) = 53 by omega] at this
            exact this
        · exact ih (by omega) h1
    exact this 52 (by omega) (by simp; omega)
  obtain ⟨j, hj, a, b⟩ := hex
  refine ⟨(1022 + j) * 4503599627370496 + k * 2 ^ (52 - j), by omega, by omega, ?_, ?_⟩
  · rw [V_em _ _ (.inr ⟨a, by omega⟩), Nat.mul_assoc, ← Nat.pow_add, show 52 - j + (1022 + j) = 1074 by omega, p2]
  · generalize k * 2 ^ (52 - j) = m at *
    unfold manE
    rw [if_neg (by omega)]
    show ((1022 + j) * 4503599627370496 + m) / 4503599627370496 - 1 ≤ 1074
    omega

theorem pP_zero : pP 0 = p2 1074 := by rw [pP, show (0 : Int).toNat = 0 from rfl, show p10 0 = 1 from rfl, Nat.one_mul]
theorem rnd_self (k n : Nat) (hn : n ≠ 0) (hv : V n = k * p2 1074) : RndAt k 0 n := by
  show Rnd (k * pP 0) (p10 0) n
  have e : k * pP 0 = V n := by
    rw [hv, pP_zero]
  rw [e, show p10 0 = 1 from rfl]
  have h1 := mid_low n hn
  have h2 := mid_high n
  have h3 := V_succ n
  have h4 := V_lt (show n - 1 < n by omega)
  unfold gapL at h1
  unfold gapH at h2
  exact ⟨.inr (.inl (by omega)), .inl (by omega)⟩

theorem gapL_le (n : Nat) (hn : n ≠ 0) : gapL n ≤ gapH n := by
  have h1 := gapL_eq n hn
  have h2 := gapH_eq n
  rw [← h2] at h1
  unfold lowQ at h1
  split at h1 <;> omega

theorem rnd_whole {c k n : Nat} (hn : n ≠ 0) (hv : V n = k * p2 1074) (hE : (manE n).2 ≤ 1074) (h : RndAt c 0 n) : c = k := by
  have h : Rnd (c * pP 0) (p10 0) n := h
  have e : c * pP 0 = c * p2 1074 := by rw [pP_zero]
  rw [e, show p10 0 = 1 from rfl] at h
  obtain ⟨a, b⟩ := h
  rw [Nat.mul_one] at a b
  have h1 := mid_low n hn
  have h2 := mid_high n
  have h3 : gapH n ≤ p2 1074 := by rw [gapH_eq]; exact p2_le hE
  have h4 := gapL_le n hn
  have hp := p2_pos 1074
  rw [hv] at h1 h2
  generalize p2 1074 = Z at *
  have c1 : 2 * (c * Z) ≤ 2 * (k * Z) + Z := by omega
  have c2 : 2 * (k * Z) ≤ 2 * (c * Z) + Z := by omega
  rcases Nat.lt_trichotomy c k with hlt | heq | hgt
  · exfalso
    have := Nat.mul_le_mul_right Z (show c + 1 ≤ k from hlt)
    rw [Nat.add_mul] at this; omega
  · exact heq
  · exfalso
    have := Nat.mul_le_mul_right Z (show k + 1 ≤ c from hgt)
    rw [Nat.add_mul] at this; omega

theorem dgs_mul (D j : Nat) (h : D ≠ 0) : dgs (D * p10 j) = dgs D ++ List.replicate j 48 := by
  induction j with
  | zero => rw [show p10 0 = 1 from rfl]; simp
  | succ j ih =>
    have hp : 0 < D * p10 j := Nat.mul_pos (by omega) (p10_pos j)
    rw [p10_succ, ← Nat.mul_assoc, dgs_ge (by omega), Nat.mul_div_cancel _ (by omega), Nat.mul_mod_left, ih, List.replicate_succ', List.append_assoc]
    rfl

/-- whole numbers are printed as they are -/
theorem whole_print {k n D : Nat} {pw : Int} (h0 : k ≠ 0) (hk : k < 9007199254740992) (hn : n ≠ 0) (hv : V n = k * p2 1074) (hE : (manE n).2 ≤ 1074) (h : Short n D pw) : layL (dgs D) pw = dgs k := by
  have hr := h.rnd hn
  have hpos := hr.pos hn
  have hself := rnd_self k n hn hv
  have hpw : 0 ≤ pw := by
    rcases Int.lt_or_le pw 0 with h1 | h1
    · exfalso
      obtain ⟨dg, R, L, H, U, hI, hp, hpr⟩ := h
      rcases hpr with rfl | hpr
      · have hD := pick_true hp
        have hD1 : D = 1 := by omega
        subst hD1
        obtain ⟨a, _⟩ := hr
        have e2 : 1 * pP pw = p2 1074 := by rw [pP, show pw.toNat = 0 by omega, show p10 0 = 1 from rfl, Nat.one_mul, Nat.one_mul]
        rw [e2] at a
        have h2 := p10_le 1 (-pw).toNat (by omega)
        rw [show p10 1 = 10 from rfl] at h2
        have h3 : p2 1074 ≤ mid (n - 1) := by
          unfold mid
          rw [show n - 1 + 1 = n by omega, hv]
          have : 1 * p2 1074 ≤ k * p2 1074 := Nat.mul_le_mul_right _ (by omega)
          omega
        have h4 := Nat.mul_le_mul h3 h2
        have hp := p2_pos 1074
        omega
      · refine hpr.none hn (k * p10 (-(pw + 1)).toNat) ?_
        have := hself.same (SameV.shift k (-(pw + 1)).toNat 0)
        rwa [show (0 : Int) - ((-(pw + 1)).toNat : Nat) = pw + 1 by omega] at this
    · exact h1
  obtain ⟨j, rfl⟩ : ∃ j : Nat, pw = j := ⟨pw.toNat, by omega⟩
  have hc : D * p10 j = k := by
    refine rnd_whole hn hv hE ?_
    have := hr.same (SameV.shift D j j)
    rwa [show (j : Int) - (j : Nat) = 0 by omega] at this
  have hdg := dgs_mul D j (by omega)
  rw [hc] at hdg
  have hlen := dgs_len k 15 (by omega)
  rw [hdg, List.length_append, List.length_replicate] at hlen
  have hlp := dgs_pos D
  unfold layL
  rw [if_neg (by omega), if_neg (by omega), if_pos (by omega), show (j : Int).toNat = j by omega, hdg]

/-- a whole number, read and printed -/
theorem parse_whole (k : Nat) (hk : k < 9007199254740992) (w : World) :
    Calls Try.prog 10 #[.string (ofL (dgs k))] w fun e w' => ∃ n, n < 9218868437227405311 ∧ (k = 0 ↔ n = 0) ∧ (k ≠ 0 → V n = k * p2 1074 ∧ (manE n).2 ≤ 1074) ∧ e = .returned (.tuple #[.int .u64 (n : Nat), .int .i64 0]) ∧ Fr (fun _ => False) w w' := by
  have hl := dgs_len k 15 (by omega)
  by_cases h0 : k = 0
  · refine (parse_zero false (tok_dgs k) (by omega) (by simp; omega) (by rw [show dv [] = [] from rfl, List.append_nil, num_dgs]; exact h0) w).mono ?_
    rintro e w' ⟨he, hF⟩
    exact ⟨0, by omega, by omega, fun h => absurd h0 h, he, hF⟩
  · obtain ⟨n, hn, hn2, hv, hE⟩ := whole_bits k h0 hk
    refine (parse_tok false (tok_dgs k) (by omega) (by simp; omega) w).mono ?_
    rintro e w' ⟨r, hr, he, hF⟩
    have h2 := hr n hn (by omega)
    rw [powI_nil, show dv [] = [] from rfl, List.append_nil, num_dgs] at h2
    have h3 := h2.2 (rnd_self k n hn hv)
    subst h3
    refine ⟨r, hn2, by omega, fun _ => ⟨hv, hE⟩, ?_, hF⟩
    rw [he]
    unfold parseV
    rw [if_neg (by omega)]
    rfl
end Go.Proofs.Ytppjiegfcfaahaa
