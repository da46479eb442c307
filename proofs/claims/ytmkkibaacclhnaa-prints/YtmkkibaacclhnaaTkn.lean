/-
  A step of the walk of the numbers, the part named Tkn: a token byte by byte, as numbers alone. No theorem of the row.
-/
import Derived.Test.YtmkkibaacclhnaaStr
namespace Go.Proofs.Ytmkkibaacclhnaa
open Go.RowKit

/-- a token as far as it has come -/
structure Tk where
  st : Nat
  neg : Bool
  D : List Nat
  P : Int
  pw : Nat
  pn : Bool

/-- the state behind one more byte; 0 if it may not stand there -/
def beh (s : Nat) (c : UInt8) : Nat :=
  if s = 0 ∧ c = 45 then 1
  else if (s = 0 ∨ s = 1) ∧ c = 48 then 2
  else if (s = 0 ∨ s = 1 ∨ s = 3) ∧ isD c = true then 3
  else if (s = 2 ∨ s = 3) ∧ c = 46 then 4
  else if (s = 4 ∨ s = 5) ∧ isD c = true then 5
  else if (s = 2 ∨ s = 3 ∨ s = 5) ∧ (c = 101 ∨ c = 69) then 6
  else if s = 6 ∧ (c = 43 ∨ c = 45) then 7
  else if (s = 6 ∨ s = 7 ∨ s = 8) ∧ isD c = true then 8
  else 0

/-- what a byte makes of a token, whose state it leads to k -/
def nxtTo (t : Tk) (c : UInt8) (k : Nat) : Tk :=
  if k = 1 then ⟨1, true, t.D, t.P, t.pw, t.pn⟩
  else if k = 2 ∨ k = 3 then ⟨k, t.neg, (addD (t.D, t.P + 1) (c.toNat - 48)).1, (addD (t.D, t.P + 1) (c.toNat - 48)).2, t.pw, t.pn⟩
  else if k = 5 then ⟨k, t.neg, (addD (t.D, t.P) (c.toNat - 48)).1, (addD (t.D, t.P) (c.toNat - 48)).2, t.pw, t.pn⟩
  else if k = 7 then ⟨k, t.neg, t.D, t.P, t.pw, decide (c = 45)⟩
  else if k = 8 then ⟨k, t.neg, t.D, t.P, min (t.pw * 10 + (c.toNat - 48)) (t.P.natAbs + 632), t.pn⟩
  else ⟨k, t.neg, t.D, t.P, t.pw, t.pn⟩
def nxt (t : Tk) (c : UInt8) : Option Tk := if beh t.st c = 0 then none else some (nxtTo t c (beh t.st c))
/-- bytes, one behind the other -/
def run (t : Tk) : List UInt8 → Option Tk
  | [] => some t
  | c :: l => match nxt t c with
    | none => none
    | some t' => run t' l
def t0 : Tk := ⟨0, false, [], 0, 0, false⟩

theorem run_append (t : Tk) (a b : List UInt8) : run t (a ++ b) = (run t a).bind (fun t' => run t' b) := by
  induction a generalizing t with
  | nil => rfl
  | cons c a ih =>
    show (match nxt t c with | none => none | some t' => run t' (a ++ b)) = _
    simp only [run]
    cases nxt t c with
    | none => rfl
    | some t' => exact ih t'
theorem run_one (t : Tk) (c : UInt8) : run t [c] = nxt t c := by
  simp only [run]
  cases nxt t c <;> rfl
theorem run_snoc {t t' : Tk} {a : List UInt8} (c : UInt8) (h : run t a = some t') : run t (a ++ [c]) = nxt t' c := by
  rw [run_append, h]
  exact run_one t' c
theorem run_none {t t' : Tk} {a : List UInt8} {c : UInt8} (b : List UInt8) (h : run t a = some t') (hc : nxt t' c = none) : run t (a ++ c :: b) = none := by
  rw [run_append, h]
  show run t' (c :: b) = none
  simp only [run, hc]

theorem beh_lt (s : Nat) (c : UInt8) : beh s c ≤ 8 := by
  unfold beh
  repeat' split
  all_goals omega
theorem nxtTo_st (t : Tk) (c : UInt8) (k : Nat) : (nxtTo t c k).st = k := by
  unfold nxtTo
  repeat' split
  all_goals simp_all

/-- what is kept of a token, always -/
structure TkOk (t : Tk) (k : Nat) : Prop where
  st : t.st ≤ 8
  digs : Digs t.D
  head : t.D.head? ≠ some 0
  len : t.D.length ≤ 769
  p1 : -(k : Int) ≤ t.P
  p2 : t.P ≤ k
  pw : t.pw ≤ t.P.natAbs + 632
theorem t0_ok : TkOk t0 0 := ⟨by decide, (by intro d h; cases h), by simp [t0], by simp [t0], by simp [t0], by simp [t0], by simp [t0]⟩

theorem isD_iff (c : UInt8) : isD c = true ↔ 48 ≤ c.toNat ∧ c.toNat ≤ 57 := by unfold isD; rw [decide_eq_true_iff]

/-- where digits are laid, no exponent has come -/
def PwZero (t : Tk) : Prop := t.st ≤ 7 → t.pw = 0
theorem beh_digit {s : Nat} {c : UInt8} (h : beh s c = 2 ∨ beh s c = 3 ∨ beh s c = 5 ∨ beh s c = 8) : isD c = true := by
  unfold beh at h
  by_cases h48 : c = 48
  · subst h48; decide
  · revert h
    repeat' split
    all_goals first | (intro h; omega) | (intro _; simp_all)

theorem beh_small {s : Nat} {c : UInt8} (hs : s = 8) : beh s c = 0 ∨ beh s c = 8 := by
  subst hs
  unfold beh
  repeat' split
  all_goals simp_all

theorem nxt_ok {t t' : Tk} {k : Nat} {c : UInt8} (h : TkOk t k) (hz : PwZero t) (he : nxt t c = some t') : TkOk t' (k + 1) ∧ PwZero t' := by
  unfold nxt at he
  split at he
  · cases he
  rename_i h0
  simp only [Option.some.injEq] at he
  have hb := beh_lt t.st c
  have hdig := @beh_digit t.st c
  have hsm := @beh_small t.st c
  have hst := h.st
  have hlen := h.len
  have hp1 := h.p1
  have hp2 := h.p2
  have hpw := h.pw
  unfold PwZero at hz
  generalize beh t.st c = b at *
  have hd9 : b = 2 ∨ b = 3 ∨ b = 5 ∨ b = 8 → c.toNat - 48 ≤ 9 := fun hh => by have := (isD_iff c).1 (hdig hh); omega
  have a1 : ∀ P', (b = 2 ∨ b = 3 ∨ b = 5 ∨ b = 8) → Digs (addD (t.D, P') (c.toNat - 48)).1 ∧ (addD (t.D, P') (c.toNat - 48)).1.head? ≠ some 0 := fun P' hh => addD_digs (t.D, P') _ (hd9 hh) h.digs h.head
  have a2 : ∀ P', (addD (t.D, P') (c.toNat - 48)).1.length ≤ 769 := fun P' => addD_len _ _ h.len
  have a3 : ∀ P', P' - 1 ≤ (addD (t.D, P') (c.toNat - 48)).2 ∧ (addD (t.D, P') (c.toNat - 48)).2 ≤ P' := fun P' => addD_P (t.D, P') _
  subst he
  unfold nxtTo
  split
  · exact ⟨⟨by simp, h.digs, h.head, h.len, by simp only; omega, by simp only; omega, h.pw⟩, fun _ => hz (by omega)⟩
  split
  · rename_i h1 h2
    have hx := a1 (t.P + 1) (by omega)
    have hy := a3 (t.P + 1)
    have hz0 := hz (by omega)
    refine ⟨⟨by simp only; omega, hx.1, hx.2, a2 _, by simp only; omega, by simp only; omega, by simp only; omega⟩, fun _ => hz0⟩
  split
  · rename_i h1 h2 h3
    have hx := a1 t.P (by omega)
    have hy := a3 t.P
    have hz0 := hz (by omega)
    refine ⟨⟨by simp only; omega, hx.1, hx.2, a2 _, by simp only; omega, by simp only; omega, by simp only; omega⟩, fun _ => hz0⟩
  split
  · exact ⟨⟨by simp only; omega, h.digs, h.head, h.len, by simp only; omega, by simp only; omega, h.pw⟩, fun _ => hz (by omega)⟩
  split
  · refine ⟨⟨by simp only; omega, h.digs, h.head, h.len, by simp only; omega, by simp only; omega, by simp only; omega⟩, fun hh => ?_⟩
    simp only at hh; omega
  · exact ⟨⟨by simp only; omega, h.digs, h.head, h.len, by simp only; omega, by simp only; omega, h.pw⟩, fun _ => hz (by omega)⟩

/-- laying digits does not look at the place -/
theorem addD_shift (D : List Nat) (P k : Int) (d : Nat) : addD (D, P + k) d = ((addD (D, P) d).1, (addD (D, P) d).2 + k) := by
  unfold addD
  simp only
  repeat' split
  all_goals simp only
  all_goals first | rfl | (refine Prod.ext rfl ?_; simp only; omega)
theorem addDs_shift (x : List Nat × Int) (k : Int) (ds : List Nat) : addDs (x.1, x.2 + k) ds = ((addDs x ds).1, (addDs x ds).2 + k) := by
  induction ds generalizing x with
  | nil => rfl
  | cons d ds ih =>
    show addDs (addD (x.1, x.2 + k) d) ds = _
    rw [addD_shift, ih]
    rfl

/-- the digits that bytes are -/
def dv (l : List UInt8) : List Nat := l.map (fun c => c.toNat - 48)
theorem dig_ofL (l : List UInt8) : dig (ofL l) = dv l := by simp [dig, ofL, dv]
def AllD (l : List UInt8) : Prop := ∀ c ∈ l, isD c = true

theorem isD_ne' {c d : UInt8} (h : isD c = true) (hd : isD d = false) : c ≠ d := by rintro rfl; rw [h] at hd; cases hd

theorem run_whole {neg pn : Bool} {pw : Nat} {D : List Nat} {P : Int} (l : List UInt8) (hl : AllD l) :
    run ⟨3, neg, D, P, pw, pn⟩ l = some ⟨3, neg, (addDs (D, P + l.length) (dv l)).1, (addDs (D, P + l.length) (dv l)).2, pw, pn⟩ := by
  induction l generalizing D P with
  | nil => simp [run, addDs, dv]
  | cons c l ih =>
    have hc := hl c List.mem_cons_self
    have h45 := isD_ne' hc (show isD 45 = false by decide)
    have hb : beh 3 c = 3 := by simp [beh, hc]
    simp only [run, nxt, hb]
    rw [if_neg (by decide)]
    simp only [nxtTo]
    rw [if_neg (by decide), if_pos (by decide)]
    rw [ih (fun x hx => hl x (List.mem_cons_of_mem _ hx))]
    have e : addDs (D, P + ((c :: l).length : Nat)) (dv (c :: l)) = addDs ((addD (D, P + 1) (c.toNat - 48)).1, (addD (D, P + 1) (c.toNat - 48)).2 + (l.length : Nat)) (dv l) := by
      rw [← addD_shift, show P + 1 + ((l.length : Nat) : Int) = P + (((c :: l).length : Nat) : Int) by rw [List.length_cons]; omega]
      rfl
    rw [e]

theorem run_wholes {neg : Bool} (s : Nat) (hs : s = 0 ∨ s = 1) (l : List UInt8) (hl : AllD l) (h0 : l ≠ []) (h1 : ¬ (l.head? = some 48 ∧ 1 < l.length)) :
    ∃ k, (k = 2 ∨ k = 3) ∧ run ⟨s, neg, [], 0, 0, false⟩ l = some ⟨k, neg, (addDs ([], (l.length : Int)) (dv l)).1, (addDs ([], (l.length : Int)) (dv l)).2, 0, false⟩ := by
  cases l with
  | nil => exact absurd rfl h0
  | cons c l =>
    have hc := hl c List.mem_cons_self
    have h45 := isD_ne' hc (show isD 45 = false by decide)
    by_cases h48 : c = 48
    · subst h48
      have hn : l = [] := by
        cases l with
        | nil => rfl
        | cons x l => exact absurd ⟨rfl, by simp⟩ h1
      subst hn
      refine ⟨2, .inl rfl, ?_⟩
      have hb : beh s 48 = 2 := by rcases hs with rfl | rfl <;> decide
      simp only [run, nxt, hb]
      rw [if_neg (by decide)]
      rfl
    · refine ⟨3, .inr rfl, ?_⟩
      have hb : beh s c = 3 := by rcases hs with rfl | rfl <;> simp [beh, hc, h45, h48]
      simp only [run, nxt, hb]
      rw [if_neg (by decide)]
      simp only [nxtTo]
      rw [if_neg (by decide), if_pos (by decide)]
      simp only [Int.zero_add]
      rw [run_whole l (fun x hx => hl x (List.mem_cons_of_mem _ hx)), ← addD_shift, show (1 : Int) + ((l.length : Nat) : Int) = (((c :: l).length : Nat) : Int) by rw [List.length_cons]; omega]
      rfl

theorem run_frac {neg pn : Bool} {pw : Nat} {D : List Nat} {P : Int} (s : Nat) (hs : s = 4 ∨ s = 5) (l : List UInt8) (h0 : l ≠ []) (hl : AllD l) :
    run ⟨s, neg, D, P, pw, pn⟩ l = some ⟨5, neg, (addDs (D, P) (dv l)).1, (addDs (D, P) (dv l)).2, pw, pn⟩ := by
  induction l generalizing D P s with
  | nil => exact absurd rfl h0
  | cons c l ih =>
    have hc := hl c List.mem_cons_self
    have h45 := isD_ne' hc (show isD 45 = false by decide)
    have h46 := isD_ne' hc (show isD 46 = false by decide)
    have hb : beh s c = 5 := by rcases hs with rfl | rfl <;> simp [beh, hc]
    simp only [run, nxt, hb]
    rw [if_neg (by decide)]
    simp only [nxtTo]
    rw [if_neg (by decide), if_neg (by decide), if_pos (by decide)]
    cases l with
    | nil => rfl
    | cons x l =>
      rw [ih 5 (.inr rfl) (by simp) (fun x hx => hl x (List.mem_cons_of_mem _ hx))]
      rfl

theorem run_power {neg pn : Bool} {pw : Nat} {D : List Nat} {P : Int} (s : Nat) (hs : s = 6 ∨ s = 7 ∨ s = 8) (l pre : List UInt8) (h0 : l ≠ []) (hl : AllD l) (hp : pw = min (num (dv pre)) (P.natAbs + 632)) :
    run ⟨s, neg, D, P, pw, pn⟩ l = some ⟨8, neg, D, P, min (num (dv (pre ++ l))) (P.natAbs + 632), pn⟩ := by
  induction l generalizing pw pre s with
  | nil => exact absurd rfl h0
  | cons c l ih =>
    have hc := hl c List.mem_cons_self
    have h45 := isD_ne' hc (show isD 45 = false by decide)
    have h43 := isD_ne' hc (show isD 43 = false by decide)
    have hb : beh s c = 8 := by rcases hs with rfl | rfl | rfl <;> simp [beh, hc, h45, h43]
    simp only [run, nxt, hb]
    rw [if_neg (by decide)]
    simp only [nxtTo]
    rw [if_neg (by decide), if_neg (by decide), if_neg (by decide), if_neg (by decide), if_pos (by decide)]
    have e : min (pw * 10 + (c.toNat - 48)) (P.natAbs + 632) = min (num (dv (pre ++ [c]))) (P.natAbs + 632) := by
      rw [hp, num_le_step]
      simp [dv]
    cases l with
    | nil => rw [e]; rfl
    | cons x l =>
      rw [ih 8 (.inr (.inr rfl)) (pre ++ [c]) (by simp) (fun x hx => hl x (List.mem_cons_of_mem _ hx)) e, List.append_assoc]
      rfl

def sgP (neg : Bool) : List UInt8 := if neg then [45] else []
def frP (fr : List UInt8) : List UInt8 := if fr = [] then [] else 46 :: fr
def exP (s ex : List UInt8) : List UInt8 := if ex = [] then [] else 101 :: (s ++ ex)
/-- a sign of an exponent -/
def SgOk (s : List UInt8) (en : Bool) : Prop := (s = [] ∧ en = false) ∨ (s = [43] ∧ en = false) ∨ (s = [45] ∧ en = true)

theorem run_sgP (neg : Bool) (l : List UInt8) : ∃ s, (s = 0 ∨ s = 1) ∧ run t0 (sgP neg ++ l) = run ⟨s, neg, [], 0, 0, false⟩ l := by
  cases neg
  · exact ⟨0, .inl rfl, rfl⟩
  · exact ⟨1, .inr rfl, rfl⟩

theorem run_frP {neg : Bool} {D : List Nat} {P : Int} (s : Nat) (hs : s = 2 ∨ s = 3) (fr l : List UInt8) (hf : AllD fr) :
    ∃ k, (k = 2 ∨ k = 3 ∨ k = 5) ∧ run ⟨s, neg, D, P, 0, false⟩ (frP fr ++ l) = run ⟨k, neg, (addDs (D, P) (dv fr)).1, (addDs (D, P) (dv fr)).2, 0, false⟩ l := by
  by_cases h0 : fr = []
  · subst h0
    exact ⟨s, by omega, rfl⟩
  · refine ⟨5, by omega, ?_⟩
    rw [frP, if_neg h0, List.cons_append]
    have hb : beh s 46 = 4 := by rcases hs with rfl | rfl <;> decide
    simp only [run, nxt, hb]
    rw [if_neg (by decide)]
    show run ⟨4, neg, D, P, 0, false⟩ (fr ++ l) = _
    rw [run_append, run_frac 4 (.inl rfl) fr h0 hf]
    rfl

theorem run_exP {neg : Bool} {D : List Nat} {P : Int} (k : Nat) (hk : k = 2 ∨ k = 3 ∨ k = 5) (m : UInt8) (hm : m = 101 ∨ m = 69) (s ex : List UInt8) (en : Bool) (h0 : ex ≠ []) (hs : SgOk s en) (hx : AllD ex) :
    run ⟨k, neg, D, P, 0, false⟩ (m :: (s ++ ex)) = some ⟨8, neg, D, P, min (num (dv ex)) (P.natAbs + 632), en⟩ := by
  have hb : beh k m = 6 := by rcases hk with rfl | rfl | rfl <;> rcases hm with rfl | rfl <;> decide
  simp only [run, nxt, hb]
  rw [if_neg (by decide)]
  show run ⟨6, neg, D, P, 0, false⟩ (s ++ ex) = _
  have hp : (0 : Nat) = min (num (dv [])) (P.natAbs + 632) := by
    show 0 = min 0 _
    omega
  rcases hs with ⟨rfl, rfl⟩ | ⟨rfl, rfl⟩ | ⟨rfl, rfl⟩
  · exact run_power 6 (.inl rfl) ex [] h0 hx hp
  · show run ⟨7, neg, D, P, 0, false⟩ ex = _
    exact run_power 7 (.inr (.inl rfl)) ex [] h0 hx hp
  · show run ⟨7, neg, D, P, 0, true⟩ ex = _
    exact run_power 7 (.inr (.inl rfl)) ex [] h0 hx hp

/-- the states in which a token may end -/
def Ends (k : Nat) : Prop := k = 2 ∨ k = 3 ∨ k = 5 ∨ k = 8

/-- a token, piece by piece -/
theorem run_tok {neg : Bool} {wh fr s ex : List UInt8} {en : Bool} (hw : AllD wh) (hf : AllD fr) (hx : AllD ex) (hs : SgOk s en) (he : ex = [] → en = false) (h0 : wh ≠ []) (h1 : ¬ (wh.head? = some 48 ∧ 1 < wh.length)) :
    ∃ k, Ends k ∧ run t0 (sgP neg ++ (wh ++ (frP fr ++ exP s ex))) = some ⟨k, neg, (addDs ([], (wh.length : Int)) (dv wh ++ dv fr)).1, (addDs ([], (wh.length : Int)) (dv wh ++ dv fr)).2,
      min (num (dv ex)) ((addDs ([], (wh.length : Int)) (dv wh ++ dv fr)).2.natAbs + 632), en⟩ := by
  obtain ⟨s1, hs1, e1⟩ := run_sgP neg (wh ++ (frP fr ++ exP s ex))
  obtain ⟨s2, hs2, e2⟩ := run_wholes (neg := neg) s1 hs1 wh hw h0 h1
  obtain ⟨s3, hs3, e3⟩ := run_frP (neg := neg) (D := (addDs ([], (wh.length : Int)) (dv wh)).1) (P := (addDs ([], (wh.length : Int)) (dv wh)).2) s2 hs2 fr (exP s ex) hf
  rw [e1, run_append, e2]
  show ∃ k, Ends k ∧ run _ _ = _
  rw [e3]
  rw [show ((addDs ([], (wh.length : Int)) (dv wh)).1, (addDs ([], (wh.length : Int)) (dv wh)).2) = addDs ([], (wh.length : Int)) (dv wh) from rfl, ← addDs_append]
  by_cases hx0 : ex = []
  · have hen := he hx0
    subst hx0; subst hen
    refine ⟨s3, by unfold Ends; omega, ?_⟩
    rw [exP, if_pos rfl]
    simp only [run]
    rw [show min (num (dv [])) ((addDs ([], (wh.length : Int)) (dv wh ++ dv fr)).2.natAbs + 632) = 0 from by show min 0 _ = 0; omega]
  · refine ⟨8, by unfold Ends; omega, ?_⟩
    rw [exP, if_neg hx0]
    exact run_exP s3 hs3 101 (.inl rfl) s ex en hx0 hs hx
end Go.Proofs.Ytmkkibaacclhnaa
