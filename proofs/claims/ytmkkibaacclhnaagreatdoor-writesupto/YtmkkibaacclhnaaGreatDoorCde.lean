/-
  A step of the walk, the part named Cde. No theorem of the row.
-/
import Derived.Test.YtmkkibaacclhnaaGreatDoorTri
namespace Go.Proofs.YtmkkibaacclhnaaGreatDoor
open Go.RowKit

theorem dec_slice (m : Nat) (h : m < 10) : (ByteArray.mk #[48, 49, 50, 51, 52, 53, 54, 55, 56, 57]).extract m (m + 1) = ofL [UInt8.ofNat (48 + m)] := by
  have : m = 0 ∨ m = 1 ∨ m = 2 ∨ m = 3 ∨ m = 4 ∨ m = 5 ∨ m = 6 ∨ m = 7 ∨ m = 8 ∨ m = 9 := by omega
  rcases this with rfl | rfl | rfl | rfl | rfl | rfl | rfl | rfl | rfl | rfl <;> rfl
end Go.Proofs.YtmkkibaacclhnaaGreatDoor

namespace Go.Proofs.YtmkkibaacclhnaaGreatDoor
open Go.RowKit

/-- X is the token that is printed for m -/
def PT (m : Nat) (X : List UInt8) : Prop := (m = 0 ∧ X = [48]) ∨ (m ≠ 0 ∧ ∃ (D : Nat) (pw : Int), Short m D pw ∧ D ≤ 90071992547409920 ∧ -5000 ≤ pw ∧ pw ≤ 5000 ∧ X = layL (dgs D) pw)
theorem PT.len {m : Nat} {X : List UInt8} (h : PT m X) : X.length ≤ 100 := by
  rcases h with ⟨_, rfl⟩ | ⟨_, D, pw, _, h2, h3, h4, rfl⟩
  · decide
  · exact layL_len _ _ (dgs_len20 D (by omega)) h3 h4
theorem PT.tok {m : Nat} {X : List UInt8} (h : PT m X) (hm : m < 9218868437227405312) : ∃ wh fr s ex en, Tok X wh fr s ex en ∧ wh.length + fr.length ≤ 100 ∧
    (m = 0 → num (dv wh ++ dv fr) = 0) ∧ (m ≠ 0 → RndAt (num (dv wh ++ dv fr)) (powI (ofL wh) (ofL fr) en (ofL ex) - fr.length) m) := by
  rcases h with ⟨h0, rfl⟩ | ⟨h0, D, pw, h1, h2, h3, h4, rfl⟩
  · have := tok_dgs 0
    rw [dgs_lt (by omega)] at this
    exact ⟨_, _, _, _, _, this, by decide, fun _ => by decide, fun h => absurd h0 h⟩
  · have hr := h1.rnd h0
    have hpos := hr.pos h0
    obtain ⟨p1, p2⟩ := h1.point h0 hm
    obtain ⟨wh, fr, s, ex, en, ht, hlen, hS⟩ := lay_tok D pw (by omega) (dgs_len20 D (by omega)) p1 p2
    exact ⟨wh, fr, s, ex, en, ht, hlen, fun h => absurd h h0, fun _ => hr.same hS⟩
/-- a token whose value rounds to a number is read as it -/
theorem parse_val {t wh fr s ex : List UInt8} {en : Bool} (h : Tok t wh fr s ex en) (hl : t.length ≤ 1000) (hd : wh.length + fr.length ≤ 768) {m : Nat} (hm : m < 9218868437227405312)
    (h0 : m = 0 → num (dv wh ++ dv fr) = 0) (h1 : m ≠ 0 → RndAt (num (dv wh ++ dv fr)) (powI (ofL wh) (ofL fr) en (ofL ex) - fr.length) m) (w : World) :
    Calls Tryz.prog 22 #[.string (ofL t)] w fun e w' => e = .returned (.tuple #[.int .u64 m, .int .i64 0]) ∧ Fr (fun _ => False) w w' := by
  have hv : parseV false m = (m, 0) := by unfold parseV; rw [if_neg (by omega)]; rfl
  by_cases hz : m = 0
  · refine (parse_zero false h hl hd (h0 hz) w).mono ?_
    rintro e w' ⟨he, hF⟩
    subst hz
    rw [hv] at he
    exact ⟨he, hF⟩
  · refine (parse_tok false h hl hd w).mono ?_
    rintro e w' ⟨r, hr, he, hF⟩
    have := (hr m hz hm).2 (h1 hz)
    subst this
    rw [hv] at he
    exact ⟨he, hF⟩
end Go.Proofs.YtmkkibaacclhnaaGreatDoor

namespace Go.Proofs.YtmkkibaacclhnaaGreatDoor
open Go.RowKit

/-- N times 10^x is read as r; the greatest r says that it is out of range -/
def IsNear (N : Nat) (x : Int) (r : Nat) : Prop := (r < 9218868437227405312 ∧ RndAt N x r) ∨ (r = 9218868437227405312 ∧ mid 9218868437227405311 * p10 (-x).toNat ≤ 2 * (N * pP x))
theorem IsNear.uniq {N r s : Nat} {x : Int} (h1 : IsNear N x r) (h2 : IsNear N x s) : r = s := by
  rcases h1 with ⟨a1, b1⟩ | ⟨a1, b1⟩ <;> rcases h2 with ⟨a2, b2⟩ | ⟨a2, b2⟩
  · exact Rnd.uniq (p10_pos _) b1 b2
  · have := rnd_small (p10_pos _) b1 a1; omega
  · have := rnd_small (p10_pos _) b2 a2; omega
  · omega
theorem IsNear.same {c d r : Nat} {pw qw : Int} (e : SameV c pw d qw) (h : IsNear c pw r) : IsNear d qw r := by
  rcases h with ⟨a, b⟩ | ⟨a, b⟩
  · exact .inl ⟨a, b.same e⟩
  · refine .inr ⟨a, ?_⟩
    unfold SameV at e
    unfold pP at b ⊢
    have h1 := p10_pos (-pw).toNat
    refine Nat.le_of_mul_le_mul_right (c := p10 (-pw).toNat) ?_ h1
    have h2 := Nat.mul_le_mul_right (p10 (-qw).toNat) b
    generalize p2 1074 = s at *
    have e1 : 2 * (c * (p10 pw.toNat * s)) * p10 (-qw).toNat = 2 * (s * (c * p10 pw.toNat * p10 (-qw).toNat)) := by
      simp only [Nat.mul_assoc, Nat.mul_left_comm, Nat.mul_comm]
    have e2 : 2 * (d * (p10 qw.toNat * s)) * p10 (-pw).toNat = 2 * (s * (d * p10 qw.toNat * p10 (-pw).toNat)) := by
      simp only [Nat.mul_assoc, Nat.mul_left_comm, Nat.mul_comm]
    rw [e1, e] at h2
    rw [e2]
    rw [Nat.mul_right_comm]
    exact h2
/-- too small -/
theorem IsNear.small {N j : Nat} {x : Int} (hN : N < p10 j) (hx : (j : Int) + x ≤ -324) : IsNear N x 0 := by
  refine .inl ⟨by omega, .inl rfl, .inl ?_⟩
  unfold pP
  rw [mid_0, Nat.one_mul, show x.toNat = 0 by omega, show p10 0 = 1 from rfl, Nat.one_mul]
  have h1 : p10 (j + 324) ≤ p10 (-x).toNat := p10_le _ _ (by omega)
  rw [p10_add] at h1
  have h2 := small_1
  have h3 : N * (2 * p2 1074) ≤ p10 j * (2 * p2 1074) := Nat.mul_le_mul_right _ (Nat.le_of_lt hN)
  have h4 : p10 j * (2 * p2 1074) < p10 j * p10 324 := Nat.mul_lt_mul_of_pos_left h2 (p10_pos j)
  rw [Nat.mul_left_comm] at h3
  omega
theorem IsNear.zero (x : Int) : IsNear 0 x 0 := by
  refine .inl ⟨by omega, .inl rfl, .inl ?_⟩
  rw [mid_0, Nat.one_mul, Nat.zero_mul]
  exact p10_pos _
def p5 (k : Nat) : Nat := 5 ^ k
theorem p5_le {a b : Nat} (h : a ≤ b) : p5 a ≤ p5 b := Nat.pow_le_pow_right (by omega) h
theorem p5_1074 : p2 53 * p5 1074 ≤ p10 767 := by decide +kernel
/-- between two numbers of 768 digits no middle lies -/
theorem no_mid (T q r : Nat) (hT : p10 767 ≤ T) : mid r * p10 q ≤ p2 1075 * T ∨ p2 1075 * (T + 1) ≤ mid r * p10 q := by
  obtain ⟨E, m, _, v1, v2, hm⟩ := V_rep r
  have hm53 : m < 9007199254740992 := by omega
  have e1 : mid r * p10 q = (2 * m + 1) * p5 q * p2 (E + q) := by
    unfold mid
    rw [v1, v2, ← Nat.add_mul, p2_add]
    have : p10 q = p5 q * p2 q := by
      unfold p10 p2 p5
      rw [← Nat.mul_pow]
    rw [this]
    show (m + (m + 1)) * p2 E * (p5 q * p2 q) = _
    rw [show m + (m + 1) = 2 * m + 1 by omega]
    generalize 2 * m + 1 = a
    simp only [Nat.mul_assoc, Nat.mul_left_comm, Nat.mul_comm]
  rw [e1]
  by_cases h : 1075 ≤ E + q
  · rw [show E + q = 1075 + (E + q - 1075) by omega, p2_add]
    have e2 : (2 * m + 1) * p5 q * (p2 1075 * p2 (E + q - 1075)) = p2 1075 * ((2 * m + 1) * p5 q * p2 (E + q - 1075)) := Nat.mul_left_comm ..
    rw [e2]
    rcases Nat.lt_or_ge T ((2 * m + 1) * p5 q * p2 (E + q - 1075)) with h1 | h1
    · exact .inr (Nat.mul_le_mul_left _ h1)
    · exact .inl (Nat.mul_le_mul_left _ h1)
  · left
    have a1 : (2 * m + 1) * p5 q ≤ p2 54 * p5 1074 := by
      refine Nat.mul_le_mul ?_ (p5_le (by omega))
      have : p2 54 = 2 * p2 53 := p2_succ 53
      rw [this, p2_53]
      omega
    have a2 : p2 (E + q) ≤ p2 1074 := p2_le (by omega)
    refine Nat.le_trans (Nat.mul_le_mul a1 a2) ?_
    have e54 : p2 54 = 2 * p2 53 := p2_succ 53
    have e75 : p2 1075 = 2 * p2 1074 := p2_succ 1074
    have k := Nat.le_trans p5_1074 hT
    rw [e54, e75]
    generalize p5 1074 = f at *
    generalize p2 53 = a at *
    generalize p2 1074 = s at *
    have e3 : 2 * a * f * s = 2 * s * (a * f) := by simp only [Nat.mul_assoc, Nat.mul_left_comm, Nat.mul_comm]
    rw [e3]
    exact Nat.mul_le_mul_left _ k
/-- a rest behind 768 digits: against a middle all that counts is that there is one -/
theorem rest_mid {T q k rem r : Nat} (hT : p10 767 ≤ T) (h1 : 0 < rem) (h2 : rem < p10 k) :
    (mid r * p10 q ≤ p2 1075 * T → mid r * p10 (q + k) < 2 * ((T * p10 k + rem) * p2 1074)) ∧ (¬ mid r * p10 q ≤ p2 1075 * T → 2 * ((T * p10 k + rem) * p2 1074) < mid r * p10 (q + k)) := by
  have hs := p2_pos 1074
  have e75 : p2 1075 = 2 * p2 1074 := p2_succ 1074
  have hno := no_mid T q r hT
  rw [p10_add, ← Nat.mul_assoc]
  rw [e75] at hno ⊢
  generalize mid r * p10 q = M at *
  generalize p2 1074 = s at *
  generalize p10 k = p at *
  constructor
  · intro h
    have := Nat.mul_le_mul_right p h
    have e1 : 2 * s * T * p = 2 * (T * p * s) := by simp only [Nat.mul_assoc, Nat.mul_left_comm, Nat.mul_comm]
    have e2 : (T * p + rem) * s = T * p * s + rem * s := Nat.add_mul ..
    have e3 : 0 < rem * s := Nat.mul_pos h1 hs
    omega
  · intro h
    have h := hno.resolve_left h
    have := Nat.mul_le_mul_right p h
    have e1 : 2 * s * (T + 1) * p = 2 * (T * p * s) + 2 * (p * s) := by
      have a1 : 2 * s * T * p = 2 * (T * p * s) := by simp only [Nat.mul_assoc, Nat.mul_left_comm, Nat.mul_comm]
      have a2 : 2 * s * p = 2 * (p * s) := by rw [Nat.mul_assoc, Nat.mul_comm s p]
      rw [Nat.mul_add, Nat.mul_one, Nat.add_mul, a1, a2]
    have e2 : (T * p + rem) * s = T * p * s + rem * s := Nat.add_mul ..
    have e3 : rem * s < p * s := Nat.mul_lt_mul_of_pos_right h2 hs
    omega
/-- so it may be any -/
theorem IsNear.rest {T k rem j rem' r : Nat} {Q : Int} (hQ : Q ≤ -1) (hT : p10 767 ≤ T) (h1 : 0 < rem) (h2 : rem < p10 k) (h1' : 0 < rem') (h2' : rem' < p10 j) (h : IsNear (T * p10 k + rem) (Q - k) r) : IsNear (T * p10 j + rem') (Q - j) r := by
  obtain ⟨q, hq⟩ : ∃ q : Nat, Q = -(q : Int) := ⟨(-Q).toNat, by omega⟩
  have f : ∀ i : Nat, (Q - i).toNat = 0 ∧ (-(Q - i)).toNat = q + i := fun i => ⟨by omega, by omega⟩
  unfold IsNear RndAt Rnd pP at *
  rw [(f k).1, (f k).2] at h
  rw [(f j).1, (f j).2]
  rw [show p10 0 = 1 from rfl, Nat.one_mul] at *
  have A := fun r => rest_mid (q := q) (r := r) hT h1 h2
  have B := fun r => rest_mid (q := q) (r := r) hT h1' h2'
  rcases h with ⟨hr, a, b⟩ | ⟨hr, a⟩
  · refine .inl ⟨hr, ?_, .inl ((B r).2 ?_)⟩
    · rcases a with a | a | ⟨a, _⟩
      · exact .inl a
      · refine .inr (.inl ((B (r - 1)).1 ?_))
        by_cases c : mid (r - 1) * p10 q ≤ p2 1075 * T
        · exact c
        · have := (A (r - 1)).2 c; omega
      · by_cases c : mid (r - 1) * p10 q ≤ p2 1075 * T
        · have := (A (r - 1)).1 c; omega
        · have := (A (r - 1)).2 c; omega
    · intro c
      have := (A r).1 c
      omega
  · refine .inr ⟨hr, Nat.le_of_lt ((B _).1 ?_)⟩
    by_cases c : mid 9218868437227405311 * p10 q ≤ p2 1075 * T
    · exact c
    · have := (A _).2 c; omega
end Go.Proofs.YtmkkibaacclhnaaGreatDoor

namespace Go.Proofs.YtmkkibaacclhnaaGreatDoor
open Go.RowKit

/-- the mark of an exponent -/
def Mk (c : UInt8) : Prop := c = 101 ∨ c = 69
def exM (mk : UInt8) (s ex : List UInt8) : List UInt8 := if ex = [] then [] else mk :: (s ++ ex)
/-- digits ahead of a point -/
def WhOk (wh : List UInt8) : Prop := AllD wh ∧ wh ≠ [] ∧ ¬ (wh.head? = some 48 ∧ 1 < wh.length)
/-- a token's pieces -/
structure Pc (l : List UInt8) (neg : Bool) (wh fr : List UInt8) (en : Bool) (ex : List UInt8) : Prop where
  w : WhOk wh
  f : AllD fr
  x : AllD ex
  e0 : ex = [] → en = false
  l : ∃ mk s, Mk mk ∧ SgOk s en ∧ l = sgP neg ++ (wh ++ (frP fr ++ exM mk s ex))
theorem Pc.run {l : List UInt8} {neg : Bool} {wh fr : List UInt8} {en : Bool} {ex : List UInt8} (h : Pc l neg wh fr en ex) :
    ∃ k, Ends k ∧ run t0 l = some ⟨k, neg, (addDs ([], (wh.length : Int)) (dv wh ++ dv fr)).1, (addDs ([], (wh.length : Int)) (dv wh ++ dv fr)).2,
      min (num (dv ex)) ((addDs ([], (wh.length : Int)) (dv wh ++ dv fr)).2.natAbs + 632), en⟩ := by
  obtain ⟨mk, s, hm, hs, rfl⟩ := h.l
  obtain ⟨hw, h0, h1⟩ := h.w
  obtain ⟨s1, hs1, e1⟩ := run_sgP neg (wh ++ (frP fr ++ exM mk s ex))
  obtain ⟨s2, hs2, e2⟩ := run_wholes (neg := neg) s1 hs1 wh hw h0 h1
  obtain ⟨s3, hs3, e3⟩ := run_frP (neg := neg) (D := (addDs ([], (wh.length : Int)) (dv wh)).1) (P := (addDs ([], (wh.length : Int)) (dv wh)).2) s2 hs2 fr (exM mk s ex) h.f
  rw [e1, run_append, e2]
  show ∃ k, Ends k ∧ Go.Proofs.YtmkkibaacclhnaaGreatDoor.run _ _ = _
  rw [e3]
  rw [show ((addDs ([], (wh.length : Int)) (dv wh)).1, (addDs ([], (wh.length : Int)) (dv wh)).2) = addDs ([], (wh.length : Int)) (dv wh) from rfl, ← addDs_append]
  by_cases hx0 : ex = []
  · have hen := h.e0 hx0
    subst hx0; subst hen
    refine ⟨s3, by unfold Ends; omega, ?_⟩
    rw [exM, if_pos rfl]
    simp only [Go.Proofs.YtmkkibaacclhnaaGreatDoor.run]
    rw [show min (num (dv [])) ((addDs ([], (wh.length : Int)) (dv wh ++ dv fr)).2.natAbs + 632) = 0 from by show min 0 _ = 0; omega]
  · refine ⟨8, by unfold Ends; omega, ?_⟩
    rw [exM, if_neg hx0]
    exact run_exP s3 hs3 mk hm s ex en hx0 hs h.x
/-- what has come, by the state that it led to -/
inductive Dec : Nat → List UInt8 → Prop
  | s0 : Dec 0 []
  | s1 : Dec 1 [45]
  | s2 (neg : Bool) : Dec 2 (sgP neg ++ [48])
  | s3 (neg : Bool) (wh : List UInt8) : AllD wh → wh ≠ [] → wh.head? ≠ some 48 → Dec 3 (sgP neg ++ wh)
  | s4 (neg : Bool) (wh : List UInt8) : WhOk wh → Dec 4 (sgP neg ++ (wh ++ [46]))
  | s5 (neg : Bool) (wh fr : List UInt8) : WhOk wh → AllD fr → fr ≠ [] → Dec 5 (sgP neg ++ (wh ++ 46 :: fr))
  | s6 (neg : Bool) (wh fr : List UInt8) (mk : UInt8) : WhOk wh → AllD fr → Mk mk → Dec 6 (sgP neg ++ (wh ++ (frP fr ++ [mk])))
  | s7 (neg : Bool) (wh fr : List UInt8) (mk : UInt8) (s : List UInt8) (en : Bool) : WhOk wh → AllD fr → Mk mk → SgOk s en → Dec 7 (sgP neg ++ (wh ++ (frP fr ++ mk :: s)))
  | s8 (neg : Bool) (wh fr : List UInt8) (mk : UInt8) (s : List UInt8) (en : Bool) (ex : List UInt8) : WhOk wh → AllD fr → Mk mk → SgOk s en → AllD ex → ex ≠ [] → Dec 8 (sgP neg ++ (wh ++ (frP fr ++ mk :: (s ++ ex))))
theorem allD_one {c : UInt8} (h : isD c = true) : AllD [c] := by intro x hx; rw [List.mem_singleton] at hx; rw [hx]; exact h
theorem wh_zero : WhOk [48] := ⟨allD_48, by simp, by simp⟩
theorem wh_of {wh : List UInt8} (h1 : AllD wh) (h2 : wh ≠ []) (h3 : wh.head? ≠ some 48) : WhOk wh := ⟨h1, h2, fun h => h3 h.1⟩
theorem Dec.next {s : Nat} {a : List UInt8} (h : Dec s a) (c : UInt8) (hk : beh s c ≠ 0) : Dec (beh s c) (a ++ [c]) := by
  cases h with
  | s0 =>
    have e : beh 0 c = if c = 45 then 1 else if c = 48 then 2 else if isD c = true then 3 else 0 := by simp [beh]
    rw [e] at hk ⊢
    repeat' split at hk
    · rename_i h; subst h; exact Dec.s1
    · rename_i h1 h; subst h; exact Dec.s2 false
    · rename_i h1 h2 h; rw [if_neg h1, if_neg h2, if_pos h]; exact Dec.s3 false [c] (allD_one h) (by simp) (by simpa using h2)
    · exact absurd rfl hk
  | s1 =>
    have e : beh 1 c = if c = 48 then 2 else if isD c = true then 3 else 0 := by simp [beh]
    rw [e] at hk ⊢
    repeat' split at hk
    · rename_i h; subst h; exact Dec.s2 true
    · rename_i h2 h; rw [if_neg h2, if_pos h]; exact Dec.s3 true [c] (allD_one h) (by simp) (by simpa using h2)
    · exact absurd rfl hk
  | s2 neg =>
    have e : beh 2 c = if c = 46 then 4 else if c = 101 ∨ c = 69 then 6 else 0 := by simp [beh]
    rw [e] at hk ⊢
    repeat' split at hk
    · rename_i h; subst h; rw [List.append_assoc]; exact Dec.s4 neg [48] wh_zero
    · rename_i h2 h; rw [if_neg h2, if_pos h, List.append_assoc]; exact Dec.s6 neg [48] [] c wh_zero allD_nil h
    · exact absurd rfl hk
  | s3 neg wh h1 h2 h3 =>
    have e : beh 3 c = if isD c = true then 3 else if c = 46 then 4 else if c = 101 ∨ c = 69 then 6 else 0 := by simp [beh]
    rw [e] at hk ⊢
    repeat' split at hk
    · rename_i h; rw [if_pos h, List.append_assoc]; exact Dec.s3 neg _ (h1.append (allD_one h)) (by simp) (by rw [head_app h2]; exact h3)
    · rename_i h0 h; subst h; rw [if_neg h0, if_pos rfl, List.append_assoc]; exact Dec.s4 neg wh (wh_of h1 h2 h3)
    · rename_i h0 h0' h; rw [if_neg h0, if_neg h0', if_pos h, List.append_assoc]; exact Dec.s6 neg wh [] c (wh_of h1 h2 h3) allD_nil h
    · exact absurd rfl hk
  | s4 neg wh h1 =>
    have e : beh 4 c = if isD c = true then 5 else 0 := by simp [beh]
    rw [e] at hk ⊢
    repeat' split at hk
    · rename_i h; rw [if_pos h, List.append_assoc, List.append_assoc]; exact Dec.s5 neg wh [c] h1 (allD_one h) (by simp)
    · exact absurd rfl hk
  | s5 neg wh fr h1 h2 h3 =>
    have e : beh 5 c = if isD c = true then 5 else if c = 101 ∨ c = 69 then 6 else 0 := by simp [beh]
    rw [e] at hk ⊢
    repeat' split at hk
    · rename_i h; rw [if_pos h, List.append_assoc, List.append_assoc, List.cons_append]; exact Dec.s5 neg wh _ h1 (h2.append (allD_one h)) (by simp)
    · rename_i h0 h
      rw [if_neg h0, if_pos h, List.append_assoc, List.append_assoc]
      have := Dec.s6 neg wh fr c h1 h2 h
      rwa [frP, if_neg h3] at this
    · exact absurd rfl hk
  | s6 neg wh fr mk h1 h2 h3 =>
    have e : beh 6 c = if c = 43 ∨ c = 45 then 7 else if isD c = true then 8 else 0 := by simp [beh]
    rw [e] at hk ⊢
    repeat' split at hk
    · rename_i h
      rw [if_pos h, List.append_assoc, List.append_assoc, List.append_assoc]
      rcases h with rfl | rfl
      · exact Dec.s7 neg wh fr mk [43] false h1 h2 h3 (.inr (.inl ⟨rfl, rfl⟩))
      · exact Dec.s7 neg wh fr mk [45] true h1 h2 h3 (.inr (.inr ⟨rfl, rfl⟩))
    · rename_i h0 h
      rw [if_neg h0, if_pos h, List.append_assoc, List.append_assoc, List.append_assoc]
      exact Dec.s8 neg wh fr mk [] false [c] h1 h2 h3 (.inl ⟨rfl, rfl⟩) (allD_one h) (by simp)
    · exact absurd rfl hk
  | s7 neg wh fr mk s en h1 h2 h3 h4 =>
    have e : beh 7 c = if isD c = true then 8 else 0 := by simp [beh]
    rw [e] at hk ⊢
    repeat' split at hk
    · rename_i h
      rw [if_pos h, List.append_assoc, List.append_assoc, List.append_assoc, List.cons_append]
      exact Dec.s8 neg wh fr mk s en [c] h1 h2 h3 h4 (allD_one h) (by simp)
    · exact absurd rfl hk
  | s8 neg wh fr mk s en ex h1 h2 h3 h4 h5 h6 =>
    have e : beh 8 c = if isD c = true then 8 else 0 := by simp [beh]
    rw [e] at hk ⊢
    repeat' split at hk
    · rename_i h
      rw [if_pos h, List.append_assoc, List.append_assoc, List.append_assoc, List.cons_append, List.append_assoc]
      exact Dec.s8 neg wh fr mk s en _ h1 h2 h3 h4 (h5.append (allD_one h)) (by simp)
    · exact absurd rfl hk
end Go.Proofs.YtmkkibaacclhnaaGreatDoor
