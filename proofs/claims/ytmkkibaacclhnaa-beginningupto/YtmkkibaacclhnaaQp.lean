/-
  A step of the walk of the parser, the part named Qp: what a text is read as, whatever the pieces; its end; blanks around it. No theorem of the row.
-/
import Derived.Test.YtmkkibaacclhnaaPt
namespace Go.Proofs.Ytmkkibaacclhnaa
open Go.RowKit

theorem psNest_came {s s' : Ps} {a b : Nat} (e : psNest s a b = .ok s') : s'.came = s.came := by
  unfold psNest at e
  split at e
  · cases e
  · cases e; rfl
theorem psNest_err {s : Ps} {a b n : Nat} (e : psNest s a b = .error n) : n ≠ 0 := by
  unfold psNest at e
  split at e
  · cases e; omega
  · cases e
theorem psBegin_came {s s' : Ps} {c : UInt8} (e : psBegin s c = .ok s') : s'.came = s.came := by
  unfold psBegin at e
  split at e
  · cases e; rfl
  split at e
  · cases e; rfl
  split at e
  · cases e; rfl
  split at e
  · cases e; rfl
  split at e
  · exact psNest_came e
  split at e
  · exact psNest_came e
  split at e
  · cases e
  · cases e; rfl
theorem psBegin_err {s : Ps} {c : UInt8} {n : Nat} (e : psBegin s c = .error n) : n ≠ 0 := by
  unfold psBegin at e
  split at e
  · cases e
  split at e
  · cases e
  split at e
  · cases e
  split at e
  · cases e
  split at e
  · exact psNest_err e
  split at e
  · exact psNest_err e
  split at e
  · cases e; omega
  · cases e
theorem psOut_came {s s' : Ps} {c : UInt8} (e : psOut s c = .ok s') : s'.came = s.came := by
  unfold psOut at e
  split at e
  · cases e; rfl
  unfold psBetween at e
  split at e
  · cases e; rfl
  split at e
  · exact psBegin_came e
  split at e
  · cases e; rfl
  split at e
  · cases e; rfl
  split at e
  · unfold psBehind at e
    split at e
    · cases e; rfl
    split at e
    · cases e; rfl
    split at e
    · cases e; rfl
    · cases e
  · cases e
theorem psOut_err {s : Ps} {c : UInt8} {n : Nat} (e : psOut s c = .error n) : n ≠ 0 := by
  unfold psOut at e
  split at e
  · cases e
  unfold psBetween at e
  split at e
  · cases e
  split at e
  · exact psBegin_err e
  split at e
  · cases e
  split at e
  · cases e
  split at e
  · unfold psBehind at e
    split at e
    · cases e
    split at e
    · cases e
    split at e
    · cases e
    · cases e; omega
  · cases e; omega
theorem map_err {α β : Type} {x : Except Nat α} {f : α → β} {n : Nat} (e : x.map f = .error n) : x = .error n := by
  cases x with
  | error m => exact congrArg _ (by simpa [Except.map] using e)
  | ok a => cases e
theorem trNext_errN {t : Tr} {c : UInt8} {n : Nat} (e : trNext t c = .error n) : n ≠ 0 := by
  unfold trNext at e
  split at e
  · have e := map_err e
    unfold trGo at e
    split at e
    · cases e; omega
    · cases e
  split at e
  · have e := map_err e
    unfold trEsc at e
    split at e
    · cases e
    split at e
    · cases e; omega
    split at e
    · cases e; omega
    · cases e
  split at e
  · have e := map_err e
    unfold trDig at e
    split at e
    · cases e; omega
    split at e
    · split at e
      · cases e; omega
      · cases e
    split at e
    · split at e
      · cases e; omega
      · cases e
    split at e
    · cases e
    · cases e
  unfold trChar at e
  split at e
  · cases e
  split at e
  · cases e; omega
  split at e
  · cases e
  split at e
  · cases e; omega
  split at e
  · cases e
  have e := map_err e
  unfold trSev at e
  split at e
  · cases e
  · cases e; omega
theorem psEndTok_cameN {s s' : Ps} (e : psEndTok s = .ok s') : s'.came = s.came ∧ s'.opn = s.opn ∧ s'.st = 5 := by
  unfold psEndTok at e
  split at e
  · cases e
  · cases e; exact ⟨rfl, rfl, rfl⟩
theorem psTake_came {s s' : Ps} {c : UInt8} (e : psTake s c = .ok s') : s'.came = s.came := by
  unfold psTake at e
  split at e
  · unfold psWordOn at e
    split at e
    · cases e
    split at e
    · cases e
    split at e
    · cases e; rfl
    · cases e; rfl
  split at e
  · unfold psTokOn at e
    split at e
    · split at e
      · cases e
      · cases e; rfl
    · split at e
      · cases e
      · rename_i s1 h1
        exact (psOut_came e).trans (psEndTok_cameN h1).1
  split at e
  · unfold psTextOn at e
    split at e
    · cases e
    · cases e; rfl
    · split at e
      · cases e; rfl
      · cases e; rfl
  · exact psOut_came e
theorem psTake_err {s : Ps} {c : UInt8} {n : Nat} (e : psTake s c = .error n) : n ≠ 0 := by
  unfold psTake at e
  split at e
  · unfold psWordOn at e
    split at e
    · cases e; omega
    split at e
    · cases e; omega
    split at e
    · cases e
    · cases e
  split at e
  · unfold psTokOn at e
    split at e
    · split at e
      · cases e; omega
      · cases e
    · split at e
      · rename_i m h1
        unfold psEndTok at h1
        split at h1
        · rename_i h2
          cases h1; cases e; exact h2
        · cases h1
      · exact psOut_err e
  split at e
  · unfold psTextOn at e
    split at e
    · rename_i m h1
      cases e
      exact trNext_errN h1
    · cases e
    · split at e <;> cases e
  · exact psOut_err e

theorem psRun_came {s s' : Ps} {l : List UInt8} (e : psRun s l = .ok s') : s'.came = s.came + l.length := by
  induction l generalizing s with
  | nil => simp only [psRun, Except.ok.injEq] at e; subst e; rfl
  | cons c l ih =>
    rw [psRun] at e
    split at e
    · cases e
    · rename_i s1 h1
      have h2 := ih e
      have h3 := psTake_came h1
      rw [h2, List.length_cons, show (psMore s1).came = s1.came + 1 from rfl, h3]
      omega
/-- a wrong byte is the first one, and stays it -/
theorem psRun_err {s : Ps} {l : List UInt8} {n c : Nat} (e : psRun s l = .error (n, c)) : n ≠ 0 ∧ s.came ≤ c ∧ c < s.came + l.length ∧ ∀ j, (c < s.came + j → psRun s (l.take j) = .error (n, c)) ∧ (s.came + j ≤ c → ∃ s', psRun s (l.take j) = .ok s') := by
  induction l generalizing s with
  | nil => simp [psRun] at e
  | cons x l ih =>
    have e0 := e
    rw [psRun] at e
    split at e
    · rename_i m h1
      simp only [Except.error.injEq, Prod.mk.injEq] at e
      obtain ⟨rfl, rfl⟩ := e
      refine ⟨psTake_err h1, Nat.le_refl _, by simp, fun j => ⟨fun hj => ?_, fun hj => ?_⟩⟩
      · cases j with
        | zero => omega
        | succ j =>
          rw [List.take_succ_cons, psRun, h1]
      · have : j = 0 := by omega
        subst this
        exact ⟨s, rfl⟩
    · rename_i s1 h1
      have h3 := psTake_came h1
      obtain ⟨a, b, d, f⟩ := ih e
      have h4 : (psMore s1).came = s.came + 1 := by rw [← h3]; rfl
      rw [h4] at b d f
      refine ⟨a, by omega, by rw [List.length_cons]; omega, fun j => ?_⟩
      cases j with
      | zero => exact ⟨fun hj => by omega, fun _ => ⟨s, rfl⟩⟩
      | succ j =>
        rw [List.take_succ_cons, psRun, h1]
        have := f j
        exact ⟨fun hj => this.1 (by omega), fun hj => this.2 (by omega)⟩
theorem psRun_take {s s' : Ps} {l : List UInt8} (e : psRun s l = .ok s') (j : Nat) : ∃ s1, psRun s (l.take j) = .ok s1 := by
  rw [← List.take_append_drop j l, psRun_append] at e
  cases h : psRun s (l.take j) with
  | error x => rw [h] at e; cases e
  | ok s1 => exact ⟨s1, rfl⟩
theorem psRun_ok {s s' : Ps} {m k : Nat} {l : List UInt8} (h : PsOk s m k) (e : psRun s l = .ok s') : PsOk s' (m + 3 * l.length) (k + l.length) := by
  induction l generalizing s m k with
  | nil => simp only [psRun, Except.ok.injEq] at e; subst e; exact h
  | cons c l ih =>
    rw [psRun] at e
    split at e
    · cases e
    · rename_i s1 h1
      have := ih (psMore_ok (psTake_ok h h1)) e
      rw [List.length_cons, show m + 3 * (l.length + 1) = m + 3 + 3 * l.length by omega, show k + (l.length + 1) = k + 1 + l.length by omega]
      exact this

/-- where a text begins is of no matter -/
def up (k : Nat) (s : Ps) : Ps := ⟨s.depth, s.came + k, s.st, s.items, s.opn, s.word, s.tok, s.tx⟩
def upE (k : Nat) : Except Nat Ps → Except Nat Ps
  | .ok s => .ok (up k s)
  | .error n => .error n
theorem psNest_up (k : Nat) (s : Ps) (a b : Nat) : psNest (up k s) a b = upE k (psNest s a b) := by
  unfold psNest
  by_cases h : s.opn.length = s.depth
  · rw [if_pos h, if_pos (show (up k s).opn.length = (up k s).depth from h)]; rfl
  · rw [if_neg h, if_neg (show ¬ (up k s).opn.length = (up k s).depth from h)]; rfl
theorem psBegin_up (k : Nat) (s : Ps) (c : UInt8) : psBegin (up k s) c = upE k (psBegin s c) := by
  unfold psBegin
  rw [psNest_up, psNest_up]
  by_cases h1 : c = 110
  · rw [if_pos h1, if_pos h1]; rfl
  rw [if_neg h1, if_neg h1]
  by_cases h2 : c = 102
  · rw [if_pos h2, if_pos h2]; rfl
  rw [if_neg h2, if_neg h2]
  by_cases h3 : c = 116
  · rw [if_pos h3, if_pos h3]; rfl
  rw [if_neg h3, if_neg h3]
  by_cases h4 : c = 34
  · rw [if_pos h4, if_pos h4]; rfl
  rw [if_neg h4, if_neg h4]
  by_cases h5 : c = 91
  · rw [if_pos h5, if_pos h5]
  rw [if_neg h5, if_neg h5]
  by_cases h6 : c = 123
  · rw [if_pos h6, if_pos h6]
  rw [if_neg h6, if_neg h6, show (up k s).tok = s.tok from rfl]
  cases nxt s.tok c <;> rfl
theorem psBehind_up (k : Nat) (s : Ps) (c : UInt8) : psBehind (up k s) c = upE k (psBehind s c) := by
  unfold psBehind
  rw [show psArr (up k s) = psArr s from rfl]
  by_cases h1 : psArr s = true ∧ c = 44
  · rw [if_pos h1, if_pos h1]; rfl
  rw [if_neg h1, if_neg h1]
  by_cases h2 : psArr s = false ∧ c = 44
  · rw [if_pos h2, if_pos h2]; rfl
  rw [if_neg h2, if_neg h2]
  by_cases h3 : (psArr s = true ∧ c = 93) ∨ (psArr s = false ∧ c = 125)
  · rw [if_pos h3, if_pos h3]; rfl
  rw [if_neg h3, if_neg h3]
  rfl
theorem psOut_up (k : Nat) (s : Ps) (c : UInt8) : psOut (up k s) c = upE k (psOut s c) := by
  unfold psOut
  by_cases h0 : blank c = true
  · rw [if_pos h0, if_pos h0]; rfl
  rw [if_neg h0, if_neg h0]
  unfold psBetween
  rw [psBegin_up, psBehind_up, show (up k s).st = s.st from rfl, show (up k s).opn = s.opn from rfl]
  by_cases h1 : (s.st = 1 ∧ c = 93) ∨ (s.st = 3 ∧ c = 125)
  · rw [if_pos h1, if_pos h1]; rfl
  rw [if_neg h1, if_neg h1]
  by_cases h2 : s.st = 0 ∨ s.st = 1
  · rw [if_pos h2, if_pos h2]
  rw [if_neg h2, if_neg h2]
  by_cases h3 : (s.st = 2 ∨ s.st = 3) ∧ c = 34
  · rw [if_pos h3, if_pos h3]; rfl
  rw [if_neg h3, if_neg h3]
  by_cases h4 : s.st = 4 ∧ c = 58
  · rw [if_pos h4, if_pos h4]; rfl
  rw [if_neg h4, if_neg h4]
  by_cases h5 : s.st = 5 ∧ s.opn ≠ []
  · rw [if_pos h5, if_pos h5]
  rw [if_neg h5, if_neg h5]
  rfl
theorem psEndTok_up (k : Nat) (s : Ps) : psEndTok (up k s) = upE k (psEndTok s) := by
  unfold psEndTok
  rw [show (up k s).tok = s.tok from rfl]
  by_cases h : (tokV s.tok).2 ≠ 0
  · rw [if_pos h, if_pos h]; rfl
  · rw [if_neg h, if_neg h]; rfl
theorem psTake_up (k : Nat) (s : Ps) (c : UInt8) : psTake (up k s) c = upE k (psTake s c) := by
  unfold psTake
  rw [psOut_up, show (up k s).st = s.st from rfl]
  by_cases h6 : s.st = 6
  · rw [if_pos h6, if_pos h6]
    unfold psWordOn
    rw [show (up k s).word = s.word from rfl]
    cases s.word with
    | nil => rfl
    | cons x r =>
      simp only
      by_cases h1 : c ≠ x
      · rw [if_pos h1, if_pos h1]; rfl
      rw [if_neg h1, if_neg h1]
      by_cases h2 : r = []
      · rw [if_pos h2, if_pos h2]; rfl
      · rw [if_neg h2, if_neg h2]; rfl
  rw [if_neg h6, if_neg h6]
  by_cases h7 : s.st = 7
  · rw [if_pos h7, if_pos h7]
    unfold psTokOn
    rw [psEndTok_up, show (up k s).tok = s.tok from rfl]
    cases nxt s.tok c with
    | some t =>
      simp only
      by_cases h1 : tokLost t = true
      · rw [if_pos h1, if_pos h1]; rfl
      · rw [if_neg h1, if_neg h1]; rfl
    | none =>
      simp only
      cases psEndTok s with
      | error n => rfl
      | ok s1 => exact psOut_up k s1 c
  rw [if_neg h7, if_neg h7]
  by_cases h8 : s.st = 8 ∨ s.st = 9
  · rw [if_pos h8, if_pos h8]
    unfold psTextOn
    rw [show (up k s).tx = s.tx from rfl, show (up k s).st = s.st from rfl]
    cases trNext s.tx c with
    | error n => rfl
    | ok p =>
      obtain ⟨t, b⟩ := p
      cases b with
      | false => rfl
      | true =>
        simp only
        by_cases h1 : s.st = 8
        · rw [if_pos h1, if_pos h1]; rfl
        · rw [if_neg h1, if_neg h1]; rfl
  · rw [if_neg h8, if_neg h8]
theorem psMore_up (k : Nat) (s : Ps) : psMore (up k s) = up k (psMore s) := by
  show Ps.mk _ _ _ _ _ _ _ _ = Ps.mk _ _ _ _ _ _ _ _
  congr 1
  show s.came + k + 1 = s.came + 1 + k
  omega
theorem psRun_up (k : Nat) (s : Ps) (l : List UInt8) : psRun (up k s) l = match psRun s l with | .ok s' => .ok (up k s') | .error (n, c) => .error (n, c + k) := by
  induction l generalizing s with
  | nil => rfl
  | cons c l ih =>
    rw [psRun, psRun, psTake_up]
    cases psTake s c with
    | error n => rfl
    | ok s1 =>
      show psRun (psMore (up k s1)) l = _
      rw [psMore_up, ih]

/-- the end of a text: its items, and an error -/
noncomputable def psEnd (s : Ps) : List It × Nat :=
  if s.st = 7 ∧ s.opn = [] then
    match psEndTok s with
    | .error n => if n = 6 then ([], 6) else ([], 7)
    | .ok s' => (s'.items, 0)
  else if s.st = 5 ∧ s.opn = [] then (s.items, 0) else ([], 7)
/-- what is said of a text as a whole -/
noncomputable def psFin : Except (Nat × Nat) Ps → List It × Nat × Nat
  | .error (n, c) => ([], n, c)
  | .ok s => ((psEnd s).1, (psEnd s).2, s.came)
/-- what is said of a piece -/
def errOf : Except (Nat × Nat) Ps → Nat
  | .error (n, _) => n
  | .ok _ => 0
theorem psEnd_err (s : Ps) : (psEnd s).2 = 0 ∨ (psEnd s).2 = 6 ∨ (psEnd s).2 = 7 := by
  unfold psEnd
  repeat' split
  all_goals simp
theorem psEnd_none (s : Ps) (h : (psEnd s).2 ≠ 0) : (psEnd s).1 = [] := by
  unfold psEnd at h ⊢
  repeat' split
  all_goals simp_all

theorem blank_sp : blank 32 = true := by decide
theorem blank_tb : blank 9 = true := by decide
theorem blank_cr : blank 13 = true := by decide
theorem blank_nl : blank 10 = true := by decide
theorem nxt_blank (t : Tk) (c : UInt8) (h : c = 13 ∨ c = 10) : nxt t c = none := by
  have hb : beh t.st c = 0 := by
    unfold beh
    rcases h with rfl | rfl
    · simp [isD]
    · simp [isD]
  unfold nxt
  rw [if_pos hb]
theorem psTake_out {s : Ps} (c : UInt8) (h : s.st ≤ 5) : psTake s c = psOut s c := by
  unfold psTake
  rw [if_neg (by omega), if_neg (by omega), if_neg (by omega)]
theorem psTake_blank {s : Ps} (c : UInt8) (h : s.st ≤ 5) (hb : blank c = true) : psTake s c = .ok s := by
  rw [psTake_out c h]
  unfold psOut
  rw [if_pos hb]
/-- blanks ahead -/
theorem psRun_ahead (d : Nat) (l : List UInt8) : psRun (ps0 d) (32 :: 9 :: l) = psRun (up 2 (ps0 d)) l := by
  rw [psRun, psTake_blank 32 (Nat.zero_le 5) blank_sp]
  simp only
  rw [psRun, psTake_blank 9 (show (psMore (ps0 d)).st ≤ 5 from Nat.zero_le 5) blank_tb]
  rfl
/-- blanks behind -/
theorem psRun_behind (s : Ps) (h : (psEnd s).2 = 0) : ∃ s', psRun s [13, 10] = .ok s' ∧ psEnd s' = psEnd s ∧ s'.came = s.came + 2 := by
  have key : ∀ s1 : Ps, s1.st = 5 → s1.opn = [] → psEnd s1 = (s1.items, 0) := by
    intro s1 h1 h2
    unfold psEnd
    rw [if_neg (by omega), if_pos ⟨h1, h2⟩]
  have two : ∀ s1 : Ps, s1.st = 5 → ∀ s2 : Ps, psTake s2 13 = .ok s1 → psRun s2 [13, 10] = .ok (psMore (psMore s1)) := by
    intro s1 h1 s2 h2
    rw [psRun, h2]
    simp only
    rw [psRun, psTake_blank 10 (show (psMore s1).st ≤ 5 by show s1.st ≤ 5; omega) blank_nl]
    rfl
  by_cases h7 : s.st = 7 ∧ s.opn = []
  · cases hx : psEndTok s with
    | error n =>
      exfalso
      unfold psEnd at h
      rw [if_pos h7, hx] at h
      simp only at h
      split at h <;> simp at h
    | ok s1 =>
      obtain ⟨a, b, c⟩ := psEndTok_cameN hx
      have ht : psTake s 13 = .ok s1 := by
        unfold psTake
        rw [if_neg (by omega), if_pos h7.1]
        unfold psTokOn
        rw [nxt_blank _ _ (.inl rfl), hx]
        simp only
        unfold psOut
        rw [if_pos blank_cr]
      refine ⟨_, two s1 c s ht, ?_, ?_⟩
      · rw [key (psMore (psMore s1)) c (b.trans h7.2)]
        unfold psEnd
        rw [if_pos h7, hx]
        rfl
      · show s1.came + 1 + 1 = _
        omega
  · by_cases h5 : s.st = 5 ∧ s.opn = []
    · have ht : psTake s 13 = .ok s := psTake_blank 13 (by omega) blank_cr
      refine ⟨_, two s h5.1 s ht, ?_, rfl⟩
      rw [key (psMore (psMore s)) h5.1 h5.2, key s h5.1 h5.2]
      rfl
    · exfalso
      unfold psEnd at h
      rw [if_neg h7, if_neg h5] at h
      simp at h
theorem psEnd_up (k : Nat) (s : Ps) : psEnd (up k s) = psEnd s := by
  unfold psEnd
  rw [psEndTok_up, show (up k s).st = s.st from rfl, show (up k s).opn = s.opn from rfl]
  by_cases h7 : s.st = 7 ∧ s.opn = []
  · rw [if_pos h7, if_pos h7]
    cases psEndTok s <;> rfl
  · rw [if_neg h7, if_neg h7]
    rfl
/-- a text that is right is right with blanks around it -/
theorem psFin_around (d : Nat) (l : List UInt8) (h : (psFin (psRun (ps0 d) l)).2.1 = 0) :
    psFin (psRun (ps0 d) (32 :: 9 :: (l ++ [13, 10]))) = ((psFin (psRun (ps0 d) l)).1, 0, l.length + 4) := by
  rw [psRun_ahead, psRun_append, psRun_up]
  cases hx : psRun (ps0 d) l with
  | error x =>
    obtain ⟨n, c⟩ := x
    rw [hx] at h
    exact absurd h (psRun_err hx).1
  | ok s =>
    rw [hx] at h
    have hc := psRun_came hx
    have h0 : (psEnd s).2 = 0 := h
    obtain ⟨s', a, b, c⟩ := psRun_behind (up 2 s) (by rw [psEnd_up]; exact h0)
    simp only
    rw [a]
    show ((psEnd s').1, (psEnd s').2, s'.came) = ((psEnd s).1, 0, l.length + 4)
    rw [b, psEnd_up, h0, c, show (up 2 s).came = s.came + 2 from rfl, hc]
    congr 2
    show 0 + l.length + 2 + 2 = _
    omega
/-- a beginning up to the wrong byte, or to the end, is right so far -/
theorem psFin_take (d : Nat) (l : List UInt8) (j : Nat) (h : j ≤ (psFin (psRun (ps0 d) l)).2.2) : errOf (psRun (ps0 d) (l.take j)) = 0 := by
  cases hx : psRun (ps0 d) l with
  | error x =>
    obtain ⟨n, c⟩ := x
    rw [hx] at h
    obtain ⟨s', hs⟩ := ((psRun_err hx).2.2.2 j).2 (by show 0 + j ≤ c; have : j ≤ c := h; omega)
    rw [hs]
    rfl
  | ok s =>
    obtain ⟨s', hs⟩ := psRun_take hx j
    rw [hs]
    rfl
theorem psFin_at (d : Nat) (l : List UInt8) : (psFin (psRun (ps0 d) l)).2.2 ≤ l.length := by
  cases hx : psRun (ps0 d) l with
  | error x =>
    obtain ⟨n, c⟩ := x
    have := (psRun_err hx).2.2.1
    show c ≤ _
    have h0 : (ps0 d).came = 0 := rfl
    omega
  | ok s =>
    have := psRun_came hx
    show s.came ≤ _
    have h0 : (ps0 d).came = 0 := rfl
    omega
end Go.Proofs.Ytmkkibaacclhnaa
