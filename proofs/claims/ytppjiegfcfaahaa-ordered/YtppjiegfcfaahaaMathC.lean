/-
  A step of the walk of the numbers, the part named MathC. No theorem of the row.
-/
import Derived.Test.YtppjiegfcfaahaaMathB
namespace Go.Proofs.Ytppjiegfcfaahaa
open Go.RowKit

theorem num_zeros (z : Nat) : num (List.replicate z 0) = 0 := by
  induction z with
  | zero => rfl
  | succ z ih => rw [List.replicate_succ', num_snoc, ih]
theorem addDs_zeros (p : Int) (z : Nat) : addDs ([], p) (List.replicate z 0) = ([], p - z) := by
  induction z with
  | zero => simp [addDs]
  | succ z ih => rw [List.replicate_succ', addDs_snoc, ih, addD, if_pos ⟨rfl, rfl⟩]; simp; omega
theorem addDs_digits (x : List Nat × Int) (ds : List Nat) (h0 : x.1 ≠ []) (hl : x.1.length + ds.length ≤ 768) : addDs x ds = (x.1 ++ ds, x.2) := by
  induction ds generalizing x with
  | nil => simp [addDs]
  | cons d ds ih =>
    have e : addD x d = (x.1 ++ [d], x.2) := by
      rw [List.length_cons] at hl
      rw [addD, if_neg (by intro h; exact h0 h.1), if_pos (by omega)]
    show addDs (addD x d) ds = _
    rw [e, ih _ (by simp) (by simp at hl ⊢; omega)]
    simp

theorem zeros_split (ds : List Nat) : ∃ z rest, ds = List.replicate z 0 ++ rest ∧ (rest = [] ∨ ∃ d r, rest = d :: r ∧ d ≠ 0) := by
  induction ds with
  | nil => exact ⟨0, [], rfl, .inl rfl⟩
  | cons d ds ih =>
    by_cases h : d = 0
    · obtain ⟨z, rest, e, h1⟩ := ih
      exact ⟨z + 1, rest, by rw [List.replicate_succ, h, e]; rfl, h1⟩
    · exact ⟨0, d :: ds, rfl, .inr ⟨d, ds, rfl, h⟩⟩

theorem addDs_short (p : Int) (ds : List Nat) (hl : ds.length ≤ 768) : ∃ z rest, ds = List.replicate z 0 ++ rest ∧ (rest = [] ∨ ∃ d r, rest = d :: r ∧ d ≠ 0) ∧ addDs ([], p) ds = (rest, p - z) := by
  obtain ⟨z, rest, e, h⟩ := zeros_split ds
  refine ⟨z, rest, e, h, ?_⟩
  rw [e, addDs_append, addDs_zeros]
  rcases h with rfl | ⟨d, r, rfl, hd⟩
  · rfl
  · have hl2 : z + (r.length + 1) = ds.length := by rw [e]; simp
    show addDs (addD ([], p - z) d) r = _
    rw [addD, if_neg (by intro h; exact hd h.2), if_pos (by simp)]
    rw [addDs_digits _ _ (by simp) (by simp; omega)]
    rfl

theorem num_ge (d : Nat) (r : List Nat) (hd : d ≠ 0) : p10 r.length ≤ num (d :: r) := by
  have : num (d :: r) = num ([d] ++ r) := rfl
  rw [this, num_append, show num [d] = d from by simp [num]]
  have : 1 * p10 r.length ≤ d * p10 r.length := Nat.mul_le_mul_right _ (by omega)
  omega

/-- a token of few digits is read as the number iff its value rounds to it -/
theorem near_iff {ds : List Nat} {p : Int} {r n : Nat} (hl : ds.length ≤ 768) (hD : Digs ds) (hn : n ≠ 0) (hn2 : n < 9218868437227405312) (h : NearV (addDs ([], p) ds).1 (addDs ([], p) ds).2 r) :
    r = n ↔ RndAt (num ds) (p - ds.length) n := by
  obtain ⟨z, rest, e, hr, ha⟩ := addDs_short p ds hl
  rw [ha] at h
  obtain ⟨v1, v2⟩ := h
  simp only at v1 v2
  have hnum : num ds = num rest := by rw [e, num_append, num_zeros]; omega
  have hlen : ds.length = z + rest.length := by rw [e]; simp
  have hDr : Digs rest := fun d hd => hD d (by rw [e]; exact List.mem_append_right _ hd)
  have hpw : p - (ds.length : Int) = p - z - rest.length := by omega
  have hat : RndAt (num ds) (p - ds.length) n ↔ Rnd (num rest * p10 (p - z - rest.length).toNat * p2 1074) (p10 (rest.length - (p - z)).toNat) n := by
    unfold RndAt pP
    rw [hnum, hpw, ← Nat.mul_assoc, show -(p - (z : Int) - rest.length) = rest.length - (p - z) by omega]
  constructor
  · rintro rfl
    have ho : oor rest (p - z) = false := by
      cases ho : oor rest (p - z)
      · rfl
      · have := v1 ho; omega
    obtain ⟨⟨h1, h2, h3⟩, _⟩ := v2 ho
    have hne : rest ≠ [] := fun h0 => hn (h1 (.inl h0))
    have hlo : ¬ p - (z : Int) < -323 := fun h0 => hn (h1 (.inr h0))
    have hhi : ¬ 309 < p - (z : Int) := fun h0 => by have := h2 hne hlo h0; omega
    exact hat.2 (h3 hne hlo hhi)
  · intro hR
    have hpos := hR.pos hn
    rw [hnum] at hpos
    rcases hr with rfl | ⟨d, rr, rfl, hd⟩
    · simp [num] at hpos
    · have hne : d :: rr ≠ [] := by simp
      have ht := hR.top hn2 (k := rr.length) (by rw [hnum]; exact num_ge d rr hd)
      have hb := hR.bottom hn (k := rr.length + 1) (by rw [hnum]; exact num_lt _ hDr)
      rw [List.length_cons] at hlen
      have hlo : ¬ p - (z : Int) < -323 := by omega
      have hhi : ¬ 309 < p - (z : Int) := by omega
      obtain ⟨⟨h1, h2, h3⟩, _⟩ := v2 (oor_no hDr (by omega) (hat.1 hR) hn2)
      exact Rnd.uniq (p10_pos _) (h3 hne hlo hhi) (hat.1 hR)
end Go.Proofs.Ytppjiegfcfaahaa
