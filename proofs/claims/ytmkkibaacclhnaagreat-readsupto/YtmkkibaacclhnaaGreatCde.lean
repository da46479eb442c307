/-
  A step of the walk, the part named Cde. No theorem of the row.
-/
import Derived.Test.YtmkkibaacclhnaaGreatKep
namespace Go.Proofs.YtmkkibaacclhnaaGreat
open Go.RowKit

/-- N times 10^x is read as r; the greatest r says that it is out of range -/
def IsNear (N : Nat) (x : Int) (r : Nat) : Prop := (r < 9218868437227405312 ∧ RndAt N x r) ∨ (r = 9218868437227405312 ∧ mid 9218868437227405311 * p10 (-x).toNat ≤ 2 * (N * pP x))
theorem IsNear.uniq {N r s : Nat} {x : Int} (h1 : IsNear N x r) (h2 : IsNear N x s) : r = s := by
  rcases h1 with ⟨a1, b1⟩ | ⟨a1, b1⟩ <;> rcases h2 with ⟨a2, b2⟩ | ⟨a2, b2⟩
  · exact Rnd.uniq (p10_pos _) b1 b2
  · have := rnd_small (p10_pos _) b1 a1; omega
  · have := rnd_small (p10_pos _) b2 a2; omega
  · omega
theorem IsNear.same {c d r : Nat} {pw qw : Int} (e : SameV c pw d qw) (h : IsNear c pw r) : IsNear d qw r := by
  rcases h with ⟨a, b⟩ | ⟨a, b⟩
  · exact .inl ⟨a, b.same e⟩
  · refine .inr ⟨a, ?_⟩
    unfold SameV at e
    unfold pP at b ⊢
    have h1 := p10_pos (-pw).toNat
    refine Nat.le_of_mul_le_mul_right (c := p10 (-pw).toNat) ?_ h1
    have h2 := Nat.mul_le_mul_right (p10 (-qw).toNat) b
    generalize p2 1074 = s at *
    have e1 : 2 * (c * (p10 pw.toNat * s)) * p10 (-qw).toNat = 2 * (s * (c * p10 pw.toNat * p10 (-qw).toNat)) := by
      simp only [Nat.mul_assoc, Nat.mul_left_comm, Nat.mul_comm]
    have e2 : 2 * (d * (p10 qw.toNat * s)) * p10 (-pw).toNat = 2 * (s * (d * p10 qw.toNat * p10 (-pw).toNat)) := by
      simp only [Nat.mul_assoc, Nat.mul_left_comm, Nat.mul_comm]
    rw [e1, e] at h2
    rw [e2]
    rw [Nat.mul_right_comm]
    exact h2
/-- too great -/
theorem big_of {N j : Nat} {x : Int} (hN : p10 j ≤ N) (hx : 309 ≤ (j : Int) + x) : mid 9218868437227405311 * p10 (-x).toNat ≤ 2 * (N * pP x) := by
  unfold pP
  have h1 : p10 309 * p10 (-x).toNat ≤ N * p10 x.toNat := by
    rw [← p10_add]
    refine Nat.le_trans (p10_le _ (j + x.toNat) (by omega)) ?_
    rw [p10_add]
    exact Nat.mul_le_mul_right _ hN
  have h2 := Nat.mul_le_mul_right (p2 1074) h1
  have h3 := Nat.mul_le_mul_right (p10 (-x).toNat) (Nat.le_of_lt big_1)
  generalize p2 1074 = s at *
  have e1 : 2 * (p10 309 * s) * p10 (-x).toNat = 2 * (p10 309 * p10 (-x).toNat * s) := by simp only [Nat.mul_left_comm, Nat.mul_comm]
  have e2 : N * (p10 x.toNat * s) = N * p10 x.toNat * s := (Nat.mul_assoc ..).symm
  rw [e2]
  rw [e1] at h3
  omega
theorem IsNear.big {N j : Nat} {x : Int} (hN : p10 j ≤ N) (hx : 309 ≤ (j : Int) + x) : IsNear N x 9218868437227405312 := .inr ⟨rfl, big_of hN hx⟩
/-- too small -/
theorem IsNear.small {N j : Nat} {x : Int} (hN : N < p10 j) (hx : (j : Int) + x ≤ -324) : IsNear N x 0 := by
  refine .inl ⟨by omega, .inl rfl, .inl ?_⟩
  unfold pP
  rw [mid_0, Nat.one_mul, show x.toNat = 0 by omega, show p10 0 = 1 from rfl, Nat.one_mul]
  have h1 : p10 (j + 324) ≤ p10 (-x).toNat := p10_le _ _ (by omega)
  rw [p10_add] at h1
  have h2 := small_1
  have h3 : N * (2 * p2 1074) ≤ p10 j * (2 * p2 1074) := Nat.mul_le_mul_right _ (Nat.le_of_lt hN)
  have h4 : p10 j * (2 * p2 1074) < p10 j * p10 324 := Nat.mul_lt_mul_of_pos_left h2 (p10_pos j)
  rw [Nat.mul_left_comm] at h3
  omega
theorem IsNear.zero (x : Int) : IsNear 0 x 0 := by
  refine .inl ⟨by omega, .inl rfl, .inl ?_⟩
  rw [mid_0, Nat.one_mul, Nat.zero_mul]
  exact p10_pos _
theorem near_is {D : List Nat} {P : Int} {r : Nat} (hD : Digs D) (hh : D.head? ≠ some 0) (h : NearV D P r) : IsNear (num D) (P - D.length) r := by
  cases ho : oor D P
  · obtain ⟨⟨h1, h2, h3⟩, hr⟩ := h.2 ho
    by_cases h0 : D = []
    · have e := h1 (.inl h0)
      subst h0; subst e
      exact IsNear.zero _
    by_cases hlo : P < -323
    · have e := h1 (.inr hlo)
      subst e
      exact IsNear.small (num_lt D hD) (by omega)
    by_cases hhi : 309 < P
    · exfalso
      rw [oor, if_neg (by intro h; rcases h with h | h; exact h0 h; omega), if_pos hhi] at ho
      cases ho
    · refine .inl ⟨hr, ?_⟩
      have := h3 h0 hlo hhi
      unfold RndAt pP
      rwa [← Nat.mul_assoc, show -(P - (D.length : Int)) = D.length - P by omega]
  · have e := h.1 ho
    subst e
    unfold oor at ho
    split at ho
    · cases ho
    rename_i hn
    have h0 : D ≠ [] := fun h => hn (.inl h)
    split at ho
    · rename_i h309
      cases D with
      | nil => exact absurd rfl h0
      | cons d r =>
        refine IsNear.big (num_ge d r (by rintro rfl; exact hh rfl)) ?_
        rw [List.length_cons]
        omega
    · have hp9 : P = 309 := by omega
      subst hp9
      refine .inr ⟨rfl, ?_⟩
      have hl : ¬ dLess D bnd = true := by
        intro hd
        rw [hd] at ho
        cases ho
      rw [less_iff D hD] at hl
      have hk := (big_iff (num D * p10 ((309 : Int) - (D.length : Int)).toNat) (p10 ((D.length : Int) - 309).toNat)).2 (Nat.le_of_not_lt hl)
      have e : -((309 : Int) - (D.length : Int)) = (D.length : Int) - 309 := by omega
      have e2 : num D * pP (309 - (D.length : Int)) = num D * p10 (309 - (D.length : Int)).toNat * p2 1074 := by unfold pP; rw [Nat.mul_assoc]
      rw [e, e2]
      exact hk
def p5 (k : Nat) : Nat := 5 ^ k
theorem p5_le {a b : Nat} (h : a ≤ b) : p5 a ≤ p5 b := Nat.pow_le_pow_right (by omega) h
theorem p5_1074 : p2 53 * p5 1074 ≤ p10 767 := by decide +kernel
/-- between two numbers of 768 digits no middle lies -/
theorem no_mid (T q r : Nat) (hT : p10 767 ≤ T) : mid r * p10 q ≤ p2 1075 * T ∨ p2 1075 * (T + 1) ≤ mid r * p10 q := by
  obtain ⟨E, m, _, v1, v2, hm⟩ := V_rep r
  have hm53 : m < 9007199254740992 := by omega
  have e1 : mid r * p10 q = (2 * m + 1) * p5 q * p2 (E + q) := by
    unfold mid
    rw [v1, v2, ← Nat.add_mul, p2_add]
    have : p10 q = p5 q * p2 q := by
      unfold p10 p2 p5
      rw [← Nat.mul_pow]
    rw [this]
    show (m + (m + 1)) * p2 E * (p5 q * p2 q) = _
    rw [show m + (m + 1) = 2 * m + 1 by omega]
    generalize 2 * m + 1 = a
    simp only [Nat.mul_assoc, Nat.mul_left_comm, Nat.mul_comm]
  rw [e1]
  by_cases h : 1075 ≤ E + q
  · rw [show E + q = 1075 + (E + q - 1075) by omega, p2_add]
    have e2 : (2 * m + 1) * p5 q * (p2 1075 * p2 (E + q - 1075)) = p2 1075 * ((2 * m + 1) * p5 q * p2 (E + q - 1075)) := Nat.mul_left_comm ..
    rw [e2]
    rcases Nat.lt_or_ge T ((2 * m + 1) * p5 q * p2 (E + q - 1075)) with h1 | h1
    · exact .inr (Nat.mul_le_mul_left _ h1)
    · exact .inl (Nat.mul_le_mul_left _ h1)
  · left
    have a1 : (2 * m + 1) * p5 q ≤ p2 54 * p5 1074 := by
      refine Nat.mul_le_mul ?_ (p5_le (by omega))
      have : p2 54 = 2 * p2 53 := p2_succ 53
      rw [this, p2_53]
      omega
    have a2 : p2 (E + q) ≤ p2 1074 := p2_le (by omega)
    refine Nat.le_trans (Nat.mul_le_mul a1 a2) ?_
    have e54 : p2 54 = 2 * p2 53 := p2_succ 53
    have e75 : p2 1075 = 2 * p2 1074 := p2_succ 1074
    have k := Nat.le_trans p5_1074 hT
    rw [e54, e75]
    generalize p5 1074 = f at *
    generalize p2 53 = a at *
    generalize p2 1074 = s at *
    have e3 : 2 * a * f * s = 2 * s * (a * f) := by simp only [Nat.mul_assoc, Nat.mul_left_comm, Nat.mul_comm]
    rw [e3]
    exact Nat.mul_le_mul_left _ k
/-- a rest behind 768 digits: against a middle all that counts is that there is one -/
theorem rest_mid {T q k rem r : Nat} (hT : p10 767 ≤ T) (h1 : 0 < rem) (h2 : rem < p10 k) :
    (mid r * p10 q ≤ p2 1075 * T → mid r * p10 (q + k) < 2 * ((T * p10 k + rem) * p2 1074)) ∧ (¬ mid r * p10 q ≤ p2 1075 * T → 2 * ((T * p10 k + rem) * p2 1074) < mid r * p10 (q + k)) := by
  have hs := p2_pos 1074
  have e75 : p2 1075 = 2 * p2 1074 := p2_succ 1074
  have hno := no_mid T q r hT
  rw [p10_add, ← Nat.mul_assoc]
  rw [e75] at hno ⊢
  generalize mid r * p10 q = M at *
  generalize p2 1074 = s at *
  generalize p10 k = p at *
  constructor
  · intro h
    have := Nat.mul_le_mul_right p h
    have e1 : 2 * s * T * p = 2 * (T * p * s) := by simp only [Nat.mul_assoc, Nat.mul_left_comm, Nat.mul_comm]
    have e2 : (T * p + rem) * s = T * p * s + rem * s := Nat.add_mul ..
    have e3 : 0 < rem * s := Nat.mul_pos h1 hs
    omega
  · intro h
    have h := hno.resolve_left h
    have := Nat.mul_le_mul_right p h
    have e1 : 2 * s * (T + 1) * p = 2 * (T * p * s) + 2 * (p * s) := by
      have a1 : 2 * s * T * p = 2 * (T * p * s) := by simp only [Nat.mul_assoc, Nat.mul_left_comm, Nat.mul_comm]
      have a2 : 2 * s * p = 2 * (p * s) := by rw [Nat.mul_assoc, Nat.mul_comm s p]
      rw [Nat.mul_add, Nat.mul_one, Nat.add_mul, a1, a2]
    have e2 : (T * p + rem) * s = T * p * s + rem * s := Nat.add_mul ..
    have e3 : rem * s < p * s := Nat.mul_lt_mul_of_pos_right h2 hs
    omega
/-- so it may be any -/
theorem IsNear.rest {T k rem j rem' r : Nat} {Q : Int} (hQ : Q ≤ -1) (hT : p10 767 ≤ T) (h1 : 0 < rem) (h2 : rem < p10 k) (h1' : 0 < rem') (h2' : rem' < p10 j) (h : IsNear (T * p10 k + rem) (Q - k) r) : IsNear (T * p10 j + rem') (Q - j) r := by
  obtain ⟨q, hq⟩ : ∃ q : Nat, Q = -(q : Int) := ⟨(-Q).toNat, by omega⟩
  have f : ∀ i : Nat, (Q - i).toNat = 0 ∧ (-(Q - i)).toNat = q + i := fun i => ⟨by omega, by omega⟩
  unfold IsNear RndAt Rnd pP at *
  rw [(f k).1, (f k).2] at h
  rw [(f j).1, (f j).2]
  rw [show p10 0 = 1 from rfl, Nat.one_mul] at *
  have A := fun r => rest_mid (q := q) (r := r) hT h1 h2
  have B := fun r => rest_mid (q := q) (r := r) hT h1' h2'
  rcases h with ⟨hr, a, b⟩ | ⟨hr, a⟩
  · refine .inl ⟨hr, ?_, .inl ((B r).2 ?_)⟩
    · rcases a with a | a | ⟨a, _⟩
      · exact .inl a
      · refine .inr (.inl ((B (r - 1)).1 ?_))
        by_cases c : mid (r - 1) * p10 q ≤ p2 1075 * T
        · exact c
        · have := (A (r - 1)).2 c; omega
      · by_cases c : mid (r - 1) * p10 q ≤ p2 1075 * T
        · have := (A (r - 1)).1 c; omega
        · have := (A (r - 1)).2 c; omega
    · intro c
      have := (A r).1 c
      omega
  · refine .inr ⟨hr, Nat.le_of_lt ((B _).1 ?_)⟩
    by_cases c : mid 9218868437227405311 * p10 q ≤ p2 1075 * T
    · exact c
    · have := (A _).2 c; omega
/-- digits behind 768: whether one of them is not 0 -/
theorem addDs_full (x : List Nat × Int) (ds : List Nat) (hl : x.1.length = 768 ∨ x.1.length = 769) :
    addDs x ds = if x.1.length = 769 ∨ (∀ d ∈ ds, d = 0) then x else (x.1 ++ [1], x.2) := by
  induction ds generalizing x with
  | nil => simp [addDs]
  | cons d ds ih =>
    have h0 : x.1 ≠ [] := by intro h; rw [h] at hl; simp at hl
    show addDs (addD x d) ds = _
    rcases hl with hl | hl
    · by_cases hd : d = 0
      · have e : addD x d = x := by rw [addD, if_neg (fun h => h0 h.1), if_neg (by omega), if_neg (fun h => h.2 hd)]
        rw [e, ih x (.inl hl)]
        simp [hl, hd]
      · have e : addD x d = (x.1 ++ [1], x.2) := by rw [addD, if_neg (fun h => h0 h.1), if_neg (by omega), if_pos ⟨hl, hd⟩]
        rw [e, ih _ (.inr (by simp [hl]))]
        simp [hl, hd]
    · have e : addD x d = x := by rw [addD, if_neg (fun h => h0 h.1), if_neg (by omega), if_neg (fun h => by omega)]
      rw [e, ih x (.inr hl)]
      simp [hl]
theorem num_pos_of {ds : List Nat} (h : ¬ ∀ d ∈ ds, d = 0) : 0 < num ds := by
  rcases Nat.eq_zero_or_pos (num ds) with h0 | h0
  · exfalso
    apply h
    obtain ⟨z, rest, e, hr⟩ := zeros_split ds
    rcases hr with rfl | ⟨d, r, rfl, hd⟩
    · rw [e]; intro d hd; simp at hd; exact hd.2
    · exfalso
      rw [e, num_append, num_zeros] at h0
      have := num_ge d r hd
      have := p10_pos r.length
      omega
  · exact h0
theorem num_zero_of {ds : List Nat} (h : ∀ d ∈ ds, d = 0) : num ds = 0 := by
  have : ds = List.replicate ds.length 0 := List.eq_replicate_iff.2 ⟨rfl, h⟩
  rw [this, num_zeros]
/-- all digits, as the program keeps them -/
theorem near_all {ds : List Nat} {p : Int} {r : Nat} (hD : Digs ds) (h : NearV (addDs ([], p) ds).1 (addDs ([], p) ds).2 r) : IsNear (num ds) (p - ds.length) r := by
  obtain ⟨z, rest, e, hr⟩ := zeros_split ds
  have hnum : num ds = num rest := by rw [e, num_append, num_zeros]; omega
  have hlen : ds.length = z + rest.length := by rw [e]; simp
  have hDr : Digs rest := fun d hd => hD d (by rw [e]; exact List.mem_append_right _ hd)
  rw [hnum, show p - (ds.length : Int) = p - z - rest.length by omega]
  have ea : addDs ([], p) ds = addDs ([], p - z) rest := by rw [e, addDs_append, addDs_zeros]
  rw [ea] at h
  generalize p - (z : Int) = P at *
  rcases hr with rfl | ⟨d, rr, rfl, hd⟩
  · exact near_is hDr (by simp) h
  · by_cases hl : (d :: rr).length ≤ 768
    · have : addDs ([], P) (d :: rr) = (d :: rr, P) := by
        show addDs (addD ([], P) d) rr = _
        rw [addD, if_neg (by intro h; exact hd h.2), if_pos (by simp), addDs_digits _ _ (by simp) (by simp at hl ⊢; omega)]
        rfl
      rw [this] at h
      exact near_is hDr (by simpa using hd) h
    · -- more digits
      obtain ⟨a, ha⟩ : ∃ a, (d :: rr).take 768 = a := ⟨_, rfl⟩
      obtain ⟨b, hb⟩ : ∃ b, (d :: rr).drop 768 = b := ⟨_, rfl⟩
      have hab : a ++ b = d :: rr := by rw [← ha, ← hb]; exact List.take_append_drop 768 _
      have hal : a.length = 768 := by rw [← ha, List.length_take]; omega
      obtain ⟨a', rfl⟩ : ∃ a', a = d :: a' := by
        cases a with
        | nil => simp at hal
        | cons x a' => simp at hab; exact ⟨a', by rw [hab.1]⟩
      have hDa : Digs (d :: a') := fun x hx => hDr x (by rw [← hab]; exact List.mem_append_left _ hx)
      have hDb : Digs b := fun x hx => hDr x (by rw [← hab]; exact List.mem_append_right _ hx)
      have e1 : addDs ([], P) (d :: a') = (d :: a', P) := by
        show addDs (addD ([], P) d) a' = _
        rw [addD, if_neg (by intro h; exact hd h.2), if_pos (by simp), addDs_digits _ _ (by simp) (by simp at hal ⊢; omega)]
        rfl
      have e2 : addDs ([], P) (d :: rr) = addDs (d :: a', P) b := by rw [← hab, addDs_append, e1]
      rw [e2, addDs_full _ _ (.inl hal)] at h
      have hT : p10 767 ≤ num (d :: a') := by
        have := num_ge d a' hd
        rwa [show a'.length = 767 by simp at hal; exact hal] at this
      have hnr : num (d :: rr) = num (d :: a') * p10 b.length + num b := by rw [← hab, num_append]
      have hlr : ((d :: rr).length : Int) = 768 + b.length := by rw [← hab, List.length_append, hal]; omega
      rw [hnr, hlr]
      have hlb := num_lt b hDb
      by_cases hz : ∀ x ∈ b, x = 0
      · rw [if_pos (.inr hz)] at h
        have := near_is hDa (by simpa using hd) h
        rw [hal] at this
        rw [num_zero_of hz, Nat.add_zero]
        refine this.same ?_
        have s := SameV.shift (num (d :: a')) b.length (P - ((768 : Nat) : Int))
        rwa [show P - ((768 : Nat) : Int) - (b.length : Int) = P - (768 + (b.length : Int)) by omega] at s
      · rw [if_neg (by intro h; rcases h with h | h; simp only at h; omega; exact hz h)] at h
        simp only at h
        have hD1 : Digs (d :: a' ++ [1]) := by
          intro x hx
          rw [List.mem_append] at hx
          rcases hx with hx | hx
          · exact hDa x hx
          · simp at hx; omega
        have := near_is hD1 (by simpa using hd) h
        rw [List.length_append, hal, num_append] at this
        have hp := num_pos_of hz
        by_cases h309 : 309 < P
        · have hr : r = 9218868437227405312 := by
            have hb : IsNear (num (d :: a') * p10 [1].length + num [1]) (P - ((768 + [1].length : Nat) : Int)) 9218868437227405312 := by
              refine IsNear.big (j := 768) ?_ ?_
              · have : p10 768 = p10 767 * p10 1 := by rw [← p10_add]
                rw [this]
                have := Nat.mul_le_mul_right (p10 1) hT
                show _ ≤ num (d :: a') * p10 1 + num [1]
                omega
              · simp; omega
            exact this.uniq hb
          rw [hr]
          refine IsNear.big (j := 767 + b.length) ?_ (by omega)
          rw [p10_add]
          have := Nat.mul_le_mul_right (p10 b.length) hT
          omega
        · have h2 : IsNear (num (d :: a') * p10 1 + 1) (P - 768 - ((1 : Nat) : Int)) r := by
            have e3 : num [1] = 1 := by simp [num]
            rw [e3, show P - ((768 + [1].length : Nat) : Int) = P - 768 - ((1 : Nat) : Int) by simp; omega] at this
            exact this
          have := IsNear.rest (by omega) hT (by omega) (by decide) hp hlb h2
          rwa [show P - 768 - (b.length : Int) = P - (768 + (b.length : Int)) by omega] at this
end Go.Proofs.YtmkkibaacclhnaaGreat

namespace Go.Proofs.YtmkkibaacclhnaaGreat
open Go.RowKit

/-- the mark of an exponent -/
def Mk (c : UInt8) : Prop := c = 101 ∨ c = 69
def exM (mk : UInt8) (s ex : List UInt8) : List UInt8 := if ex = [] then [] else mk :: (s ++ ex)
/-- digits ahead of a point -/
def WhOk (wh : List UInt8) : Prop := AllD wh ∧ wh ≠ [] ∧ ¬ (wh.head? = some 48 ∧ 1 < wh.length)
/-- a token's pieces -/
structure Pc (l : List UInt8) (neg : Bool) (wh fr : List UInt8) (en : Bool) (ex : List UInt8) : Prop where
  w : WhOk wh
  f : AllD fr
  x : AllD ex
  e0 : ex = [] → en = false
  l : ∃ mk s, Mk mk ∧ SgOk s en ∧ l = sgP neg ++ (wh ++ (frP fr ++ exM mk s ex))
theorem exM_noD {mk : UInt8} (h : Mk mk) (s ex : List UInt8) : NoD (exM mk s ex) := by
  unfold exM; split
  · intro c h; cases h
  · intro c hc; simp at hc; subst hc; rcases h with rfl | rfl <;> decide
theorem exM_head {mk : UInt8} (h : Mk mk) (s ex : List UInt8) : (exM mk s ex).head? ≠ some 46 := by
  unfold exM; split
  · simp
  · rcases h with rfl | rfl <;> simp
theorem cutE_mk {mk : UInt8} (h : Mk mk) (r : List UInt8) : cutE (mk :: r) = (r, true) := by
  rcases h with rfl | rfl
  · rw [cutE, cutP_yes]; rfl
  · rw [cutE, cutP_no (by simp), cutP_yes]; rfl
theorem cutL3_mk {n : Bool} {wh fr s ex : List UInt8} {en : Bool} {mk : UInt8} (hm : Mk mk) (hs : SgOk s en) (hD : AllD ex) (he : ex = [] → en = false) : cutL3 n wh fr (exM mk s ex) = some (n, wh, fr, en, ex) := by
  by_cases h0 : ex = []
  · have hen := he h0
    subst h0; subst hen
    rw [exM, if_pos rfl, cutL3, cutE, cutP_no (by simp), cutP_no (by simp)]
    rfl
  · rw [exM, if_neg h0, cutL3, cutE_mk hm]
    simp only [if_true]
    rw [cutS_ok hs h0 hD]
    have := takeWhile_app (b := []) hD (by intro c h; cases h)
    rw [List.append_nil] at this
    rw [this.1, this.2, if_neg h0]
    rfl
theorem Pc.cut {l : List UInt8} {neg : Bool} {wh fr : List UInt8} {en : Bool} {ex : List UInt8} (h : Pc l neg wh fr en ex) : cutL l = some (neg, wh, fr, en, ex) := by
  obtain ⟨mk, s, hm, hs, rfl⟩ := h.l
  obtain ⟨hw, h0, h1⟩ := h.w
  have hsp := takeWhile_app hw (frP_noD fr _ (exM_noD hm s ex))
  have hcut : cutP 45 (sgP neg ++ (wh ++ (frP fr ++ exM mk s ex))) = (wh ++ (frP fr ++ exM mk s ex), neg) := by
    cases neg
    · rw [sgP, if_neg (by simp), List.nil_append, cutP_no (head_noD h0 hw (by decide))]
    · rw [sgP, if_pos rfl, List.singleton_append, cutP_yes]
  rw [cutL, hcut]
  simp only
  rw [hsp.1, hsp.2, cutL1, if_neg (by intro h; rcases h with h | h; exact h0 h; exact h1 h), cutL2_ok h.f (exM_noD hm s ex) (exM_head hm s ex), cutL3_mk hm hs h.x h.e0]
theorem Pc.run {l : List UInt8} {neg : Bool} {wh fr : List UInt8} {en : Bool} {ex : List UInt8} (h : Pc l neg wh fr en ex) :
    ∃ k, Ends k ∧ run t0 l = some ⟨k, neg, (addDs ([], (wh.length : Int)) (dv wh ++ dv fr)).1, (addDs ([], (wh.length : Int)) (dv wh ++ dv fr)).2,
      min (num (dv ex)) ((addDs ([], (wh.length : Int)) (dv wh ++ dv fr)).2.natAbs + 632), en⟩ := by
  obtain ⟨mk, s, hm, hs, rfl⟩ := h.l
  obtain ⟨hw, h0, h1⟩ := h.w
  obtain ⟨s1, hs1, e1⟩ := run_sgP neg (wh ++ (frP fr ++ exM mk s ex))
  obtain ⟨s2, hs2, e2⟩ := run_wholes (neg := neg) s1 hs1 wh hw h0 h1
  obtain ⟨s3, hs3, e3⟩ := run_frP (neg := neg) (D := (addDs ([], (wh.length : Int)) (dv wh)).1) (P := (addDs ([], (wh.length : Int)) (dv wh)).2) s2 hs2 fr (exM mk s ex) h.f
  rw [e1, run_append, e2]
  show ∃ k, Ends k ∧ Go.Proofs.YtmkkibaacclhnaaGreat.run _ _ = _
  rw [e3]
  rw [show ((addDs ([], (wh.length : Int)) (dv wh)).1, (addDs ([], (wh.length : Int)) (dv wh)).2) = addDs ([], (wh.length : Int)) (dv wh) from rfl, ← addDs_append]
  by_cases hx0 : ex = []
  · have hen := h.e0 hx0
    subst hx0; subst hen
    refine ⟨s3, by unfold Ends; omega, ?_⟩
    rw [exM, if_pos rfl]
    simp only [Go.Proofs.YtmkkibaacclhnaaGreat.run]
    rw [show min (num (dv [])) ((addDs ([], (wh.length : Int)) (dv wh ++ dv fr)).2.natAbs + 632) = 0 from by show min 0 _ = 0; omega]
  · refine ⟨8, by unfold Ends; omega, ?_⟩
    rw [exM, if_neg hx0]
    exact run_exP s3 hs3 mk hm s ex en hx0 hs h.x
theorem cutP_inv (c : UInt8) (l : List UInt8) : l = (if (cutP c l).2 = true then c :: (cutP c l).1 else (cutP c l).1) := by
  unfold cutP
  split
  · rename_i h
    cases l with
    | nil => cases h
    | cons x l => simp at h; subst h; rfl
  · rfl
theorem cutS_inv (r : List UInt8) : ∃ s, SgOk s (cutS r).2 ∧ r = s ++ (cutS r).1 := by
  have h1 := cutP_inv 43 r
  have h2 := cutP_inv 45 r
  unfold cutS
  cases a : (cutP 43 r).2
  · simp only [Bool.false_eq_true, if_false]
    cases b : (cutP 45 r).2
    · rw [b] at h2
      exact ⟨[], .inl ⟨rfl, rfl⟩, by simpa using h2⟩
    · rw [b] at h2
      exact ⟨[45], .inr (.inr ⟨rfl, rfl⟩), by simpa using h2⟩
  · rw [a] at h1
    simp only [if_true]
    exact ⟨[43], .inr (.inl ⟨rfl, rfl⟩), by simpa using h1⟩
theorem cutE_inv {r : List UInt8} (h : (cutE r).2 = true) : ∃ mk, Mk mk ∧ r = mk :: (cutE r).1 := by
  have h1 := cutP_inv 101 r
  have h2 := cutP_inv 69 r
  unfold cutE at h ⊢
  cases a : (cutP 101 r).2
  · rw [a] at h
    simp only [Bool.false_eq_true, if_false] at h ⊢
    rw [h] at h2
    exact ⟨69, .inr rfl, by simpa using h2⟩
  · rw [a] at h1
    simp only [if_true]
    exact ⟨101, .inl rfl, by simpa using h1⟩
theorem takeWhile_all (l : List UInt8) : AllD (l.takeWhile isD) := fun c hc => List.all_eq_true.1 List.all_takeWhile c hc
theorem cutL4_inv {n : Bool} {wh fr : List UInt8} {en : Bool} {ex r : List UInt8} {x : Bool × List UInt8 × List UInt8 × Bool × List UInt8} (h : cutL4 n wh fr en ex r = some x) : r = [] ∧ x = (n, wh, fr, en, ex) := by
  unfold cutL4 at h
  split at h
  · rename_i hr; exact ⟨hr, (Option.some.inj h).symm⟩
  · cases h
theorem cutL3_inv {n : Bool} {wh fr r : List UInt8} {x : Bool × List UInt8 × List UInt8 × Bool × List UInt8} (h : cutL3 n wh fr r = some x) :
    ∃ en ex mk s, x = (n, wh, fr, en, ex) ∧ AllD ex ∧ (ex = [] → en = false) ∧ Mk mk ∧ SgOk s en ∧ r = exM mk s ex := by
  unfold cutL3 at h
  split at h
  · rename_i hE
    split at h
    · cases h
    · rename_i h0
      obtain ⟨h1, rfl⟩ := cutL4_inv h
      obtain ⟨mk, hm, e1⟩ := cutE_inv hE
      obtain ⟨s, hs, e2⟩ := cutS_inv (cutE r).1
      refine ⟨_, _, mk, s, rfl, takeWhile_all _, fun h => absurd h h0, hm, hs, ?_⟩
      rw [exM, if_neg h0]
      have e3 : (cutS (cutE r).1).1 = (cutS (cutE r).1).1.takeWhile isD := by
        conv => lhs; rw [← List.takeWhile_append_dropWhile (p := isD) (l := (cutS (cutE r).1).1), h1, List.append_nil]
      rw [← e3, ← e2]
      exact e1
  · obtain ⟨h1, rfl⟩ := cutL4_inv h
    exact ⟨_, _, 101, [], rfl, allD_nil, fun _ => rfl, .inl rfl, .inl ⟨rfl, rfl⟩, by rw [h1, exM, if_pos rfl]⟩
theorem cut_Pc {l : List UInt8} {neg : Bool} {wh fr : List UInt8} {en : Bool} {ex : List UInt8} (h : cutL l = some (neg, wh, fr, en, ex)) : Pc l neg wh fr en ex := by
  have e0 := cutP_inv 45 l
  have el : l = sgP (cutP 45 l).2 ++ (cutP 45 l).1 := by
    cases a : (cutP 45 l).2
    · rw [a] at e0; simpa [sgP] using e0
    · rw [a] at e0; simpa [sgP] using e0
  have e1 : (cutP 45 l).1.takeWhile isD ++ (cutP 45 l).1.dropWhile isD = (cutP 45 l).1 := List.takeWhile_append_dropWhile
  have hA := takeWhile_all (cutP 45 l).1
  unfold cutL at h
  generalize (cutP 45 l).2 = n at *
  generalize (cutP 45 l).1.takeWhile isD = W at *
  generalize (cutP 45 l).1.dropWhile isD = R at *
  rw [← e1] at el
  clear e0 e1
  unfold cutL1 at h
  split at h
  · cases h
  rename_i hw
  have hW : WhOk W := ⟨hA, fun h => hw (.inl h), fun h => hw (.inr h)⟩
  unfold cutL2 at h
  split at h
  · rename_i hp
    split at h
    · cases h
    · rename_i hf
      obtain ⟨en', ex', mk, s, hx, h1, h2, h3, h4, h5⟩ := cutL3_inv h
      simp only [Prod.mk.injEq] at hx
      obtain ⟨rfl, rfl, rfl, rfl, rfl⟩ := hx
      refine ⟨hW, takeWhile_all _, h1, h2, mk, s, h3, h4, ?_⟩
      have e2 := cutP_inv 46 R
      rw [hp] at e2
      simp only [if_true] at e2
      rw [frP, if_neg hf, ← h5, List.cons_append, List.takeWhile_append_dropWhile, ← e2]
      exact el
  · obtain ⟨en', ex', mk, s, hx, h1, h2, h3, h4, h5⟩ := cutL3_inv h
    simp only [Prod.mk.injEq] at hx
    obtain ⟨rfl, rfl, rfl, rfl, rfl⟩ := hx
    refine ⟨hW, allD_nil, h1, h2, mk, s, h3, h4, ?_⟩
    rw [frP, if_pos rfl, ← h5]
    exact el
/-- what has come, by the state that it led to -/
inductive Dec : Nat → List UInt8 → Prop
  | s0 : Dec 0 []
  | s1 : Dec 1 [45]
  | s2 (neg : Bool) : Dec 2 (sgP neg ++ [48])
  | s3 (neg : Bool) (wh : List UInt8) : AllD wh → wh ≠ [] → wh.head? ≠ some 48 → Dec 3 (sgP neg ++ wh)
  | s4 (neg : Bool) (wh : List UInt8) : WhOk wh → Dec 4 (sgP neg ++ (wh ++ [46]))
  | s5 (neg : Bool) (wh fr : List UInt8) : WhOk wh → AllD fr → fr ≠ [] → Dec 5 (sgP neg ++ (wh ++ 46 :: fr))
  | s6 (neg : Bool) (wh fr : List UInt8) (mk : UInt8) : WhOk wh → AllD fr → Mk mk → Dec 6 (sgP neg ++ (wh ++ (frP fr ++ [mk])))
  | s7 (neg : Bool) (wh fr : List UInt8) (mk : UInt8) (s : List UInt8) (en : Bool) : WhOk wh → AllD fr → Mk mk → SgOk s en → Dec 7 (sgP neg ++ (wh ++ (frP fr ++ mk :: s)))
  | s8 (neg : Bool) (wh fr : List UInt8) (mk : UInt8) (s : List UInt8) (en : Bool) (ex : List UInt8) : WhOk wh → AllD fr → Mk mk → SgOk s en → AllD ex → ex ≠ [] → Dec 8 (sgP neg ++ (wh ++ (frP fr ++ mk :: (s ++ ex))))
theorem allD_one {c : UInt8} (h : isD c = true) : AllD [c] := by intro x hx; rw [List.mem_singleton] at hx; rw [hx]; exact h
theorem wh_zero : WhOk [48] := ⟨allD_48, by simp, by simp⟩
theorem wh_of {wh : List UInt8} (h1 : AllD wh) (h2 : wh ≠ []) (h3 : wh.head? ≠ some 48) : WhOk wh := ⟨h1, h2, fun h => h3 h.1⟩
theorem Dec.next {s : Nat} {a : List UInt8} (h : Dec s a) (c : UInt8) (hk : beh s c ≠ 0) : Dec (beh s c) (a ++ [c]) := by
  cases h with
  | s0 =>
    have e : beh 0 c = if c = 45 then 1 else if c = 48 then 2 else if isD c = true then 3 else 0 := by simp [beh]
    rw [e] at hk ⊢
    repeat' split at hk
    · rename_i h; subst h; exact Dec.s1
    · rename_i h1 h; subst h; exact Dec.s2 false
    · rename_i h1 h2 h; rw [if_neg h1, if_neg h2, if_pos h]; exact Dec.s3 false [c] (allD_one h) (by simp) (by simpa using h2)
    · exact absurd rfl hk
  | s1 =>
    have e : beh 1 c = if c = 48 then 2 else if isD c = true then 3 else 0 := by simp [beh]
    rw [e] at hk ⊢
    repeat' split at hk
    · rename_i h; subst h; exact Dec.s2 true
    · rename_i h2 h; rw [if_neg h2, if_pos h]; exact Dec.s3 true [c] (allD_one h) (by simp) (by simpa using h2)
    · exact absurd rfl hk
  | s2 neg =>
    have e : beh 2 c = if c = 46 then 4 else if c = 101 ∨ c = 69 then 6 else 0 := by simp [beh]
    rw [e] at hk ⊢
    repeat' split at hk
    · rename_i h; subst h; rw [List.append_assoc]; exact Dec.s4 neg [48] wh_zero
    · rename_i h2 h; rw [if_neg h2, if_pos h, List.append_assoc]; exact Dec.s6 neg [48] [] c wh_zero allD_nil h
    · exact absurd rfl hk
  | s3 neg wh h1 h2 h3 =>
    have e : beh 3 c = if isD c = true then 3 else if c = 46 then 4 else if c = 101 ∨ c = 69 then 6 else 0 := by simp [beh]
    rw [e] at hk ⊢
    repeat' split at hk
    · rename_i h; rw [if_pos h, List.append_assoc]; exact Dec.s3 neg _ (h1.append (allD_one h)) (by simp) (by rw [head_app h2]; exact h3)
    · rename_i h0 h; subst h; rw [if_neg h0, if_pos rfl, List.append_assoc]; exact Dec.s4 neg wh (wh_of h1 h2 h3)
    · rename_i h0 h0' h; rw [if_neg h0, if_neg h0', if_pos h, List.append_assoc]; exact Dec.s6 neg wh [] c (wh_of h1 h2 h3) allD_nil h
    · exact absurd rfl hk
  | s4 neg wh h1 =>
    have e : beh 4 c = if isD c = true then 5 else 0 := by simp [beh]
    rw [e] at hk ⊢
    repeat' split at hk
    · rename_i h; rw [if_pos h, List.append_assoc, List.append_assoc]; exact Dec.s5 neg wh [c] h1 (allD_one h) (by simp)
    · exact absurd rfl hk
  | s5 neg wh fr h1 h2 h3 =>
    have e : beh 5 c = if isD c = true then 5 else if c = 101 ∨ c = 69 then 6 else 0 := by simp [beh]
    rw [e] at hk ⊢
    repeat' split at hk
    · rename_i h; rw [if_pos h, List.append_assoc, List.append_assoc, List.cons_append]; exact Dec.s5 neg wh _ h1 (h2.append (allD_one h)) (by simp)
    · rename_i h0 h
      rw [if_neg h0, if_pos h, List.append_assoc, List.append_assoc]
      have := Dec.s6 neg wh fr c h1 h2 h
      rwa [frP, if_neg h3] at this
    · exact absurd rfl hk
  | s6 neg wh fr mk h1 h2 h3 =>
    have e : beh 6 c = if c = 43 ∨ c = 45 then 7 else if isD c = true then 8 else 0 := by simp [beh]
    rw [e] at hk ⊢
    repeat' split at hk
    · rename_i h
      rw [if_pos h, List.append_assoc, List.append_assoc, List.append_assoc]
      rcases h with rfl | rfl
      · exact Dec.s7 neg wh fr mk [43] false h1 h2 h3 (.inr (.inl ⟨rfl, rfl⟩))
      · exact Dec.s7 neg wh fr mk [45] true h1 h2 h3 (.inr (.inr ⟨rfl, rfl⟩))
    · rename_i h0 h
      rw [if_neg h0, if_pos h, List.append_assoc, List.append_assoc, List.append_assoc]
      exact Dec.s8 neg wh fr mk [] false [c] h1 h2 h3 (.inl ⟨rfl, rfl⟩) (allD_one h) (by simp)
    · exact absurd rfl hk
  | s7 neg wh fr mk s en h1 h2 h3 h4 =>
    have e : beh 7 c = if isD c = true then 8 else 0 := by simp [beh]
    rw [e] at hk ⊢
    repeat' split at hk
    · rename_i h
      rw [if_pos h, List.append_assoc, List.append_assoc, List.append_assoc, List.cons_append]
      exact Dec.s8 neg wh fr mk s en [c] h1 h2 h3 h4 (allD_one h) (by simp)
    · exact absurd rfl hk
  | s8 neg wh fr mk s en ex h1 h2 h3 h4 h5 h6 =>
    have e : beh 8 c = if isD c = true then 8 else 0 := by simp [beh]
    rw [e] at hk ⊢
    repeat' split at hk
    · rename_i h
      rw [if_pos h, List.append_assoc, List.append_assoc, List.append_assoc, List.cons_append, List.append_assoc]
      exact Dec.s8 neg wh fr mk s en _ h1 h2 h3 h4 (h5.append (allD_one h)) (by simp)
    · exact absurd rfl hk
theorem snoc_indC {P : List UInt8 → Prop} (h0 : P []) (h : ∀ a x, P a → P (a ++ [x])) (l : List UInt8) : P l := by
  rw [← List.reverse_reverse l]
  generalize l.reverse = r
  induction r with
  | nil => exact h0
  | cons c r ih => rw [List.reverse_cons]; exact h _ _ ih
theorem run_dec (l : List UInt8) : ∀ t, run t0 l = some t → Dec t.st l := by
  refine snoc_indC (P := fun l => ∀ t, run t0 l = some t → Dec t.st l) ?_ ?_ l
  · intro t h
    simp only [run, Option.some.injEq] at h
    subst h
    exact Dec.s0
  · intro a c ih t h
    rw [run_append] at h
    cases hr : run t0 a with
    | none => rw [hr] at h; cases h
    | some t' =>
      rw [hr] at h
      have h2 : nxt t' c = some t := by rw [← run_one]; exact h
      unfold nxt at h2
      split at h2
      · cases h2
      · rename_i hb
        simp only [Option.some.injEq] at h2
        have := (ih t' hr).next c hb
        rw [← h2, nxtTo_st]
        exact this
theorem run_Pc {l : List UInt8} {t : Tk} (h : run t0 l = some t) (he : Ends t.st) : ∃ neg wh fr en ex, Pc l neg wh fr en ex := by
  have hd := run_dec l t h
  generalize t.st = k at *
  cases hd with
  | s0 => unfold Ends at he; omega
  | s1 => unfold Ends at he; omega
  | s2 neg => exact ⟨neg, [48], [], false, [], wh_zero, allD_nil, allD_nil, fun _ => rfl, 101, [], .inl rfl, .inl ⟨rfl, rfl⟩, by simp [frP, exM]⟩
  | s3 neg wh h1 h2 h3 => exact ⟨neg, wh, [], false, [], wh_of h1 h2 h3, allD_nil, allD_nil, fun _ => rfl, 101, [], .inl rfl, .inl ⟨rfl, rfl⟩, by simp [frP, exM]⟩
  | s4 neg wh h1 => unfold Ends at he; omega
  | s5 neg wh fr h1 h2 h3 => exact ⟨neg, wh, fr, false, [], h1, h2, allD_nil, fun _ => rfl, 101, [], .inl rfl, .inl ⟨rfl, rfl⟩, by simp [frP, exM, h3]⟩
  | s6 neg wh fr mk h1 h2 h3 => unfold Ends at he; omega
  | s7 neg wh fr mk s en h1 h2 h3 h4 => unfold Ends at he; omega
  | s8 neg wh fr mk s en ex h1 h2 h3 h4 h5 h6 => exact ⟨neg, wh, fr, en, ex, h1, h2, h5, fun h => absurd h h6, mk, s, h3, h4, by simp [exM, h6]⟩
/-- the power of ten that a token's pieces say -/
def powX (fr : List UInt8) (en : Bool) (ex : List UInt8) : Int := (if en then -(num (dv ex) : Int) else (num (dv ex) : Int)) - fr.length
end Go.Proofs.YtmkkibaacclhnaaGreat
