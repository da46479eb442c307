/-
  A step of the walk, the part named Pt. No theorem of the row.
-/
import Derived.Test.YtmkkibaacclhnaaGreatPop
namespace Go.Proofs.YtmkkibaacclhnaaGreat
open Go.RowKit

theorem bump_get (items : List It) (opn : List Nat) (i : Nat) (x : It) (h : items[i]? = some x) : ∃ x', (bump items opn)[i]? = some x' ∧ x'.n ≤ x.n + 1 ∧ x'.k = x.k := by
  rcases List.eq_nil_or_concat opn with rfl | ⟨pre, j, rfl⟩
  · exact ⟨x, h, by omega, rfl⟩
  · rw [List.concat_eq_append, bump_last, List.getElem?_modify, h]
    by_cases hj : j = i
    · exact ⟨⟨x.k, x.n + 1, x.b, x.s⟩, by simp [hj], Nat.le_refl _, rfl⟩
    · exact ⟨x, by simp [hj], by omega, rfl⟩
theorem bump_len (items : List It) (opn : List Nat) : (bump items opn).length = items.length := by
  rcases List.eq_nil_or_concat opn with rfl | ⟨pre, j, rfl⟩
  · rfl
  · rw [List.concat_eq_append, bump_last, List.length_modify]
theorem TkOk.more {t : Tk} {k : Nat} (h : TkOk t k) : TkOk t (k + 1) := ⟨h.st, h.digs, h.head, h.len, by have := h.p1; omega, by have := h.p2; omega, h.pw⟩
theorem t0_okk (k : Nat) : TkOk t0 k := by
  induction k with
  | zero => exact t0_ok
  | succ k ih => exact ih.more
theorem tr0_okk (k : Nat) : TrOk tr0 k := by
  induction k with
  | zero => exact tr0_ok
  | succ k ih => exact ih.more
theorem t0_pw : PwZero t0 := fun _ => rfl
/-- what holds of a parser whatever its state -/
structure PsC (s : Ps) (m : Nat) : Prop where
  dep1 : 1 ≤ s.depth
  dep2 : s.depth ≤ 1000
  opn : ∀ i ∈ s.opn, ∃ x, s.items[i]? = some x ∧ x.n ≤ m
  oln : s.opn.length ≤ m
  iln : s.items.length ≤ m
  wln : s.word.length ≤ 4
structure PsOk (s : Ps) (m k : Nat) : Prop where
  c : PsC s m
  st : s.st ≤ 9
  o13 : s.st = 1 ∨ s.st = 3 → s.opn ≠ []
  wrd : s.st = 6 → s.word ≠ []
  tok : s.st ≠ 7 → s.tok = t0
  tk1 : TkOk s.tok k
  tk2 : PwZero s.tok
  tx : s.st ≠ 8 → s.st ≠ 9 → s.tx = tr0
  txk : TrOk s.tx k
theorem PsC.up {s : Ps} {m m' : Nat} (h : PsC s m) (hm : m ≤ m') : PsC s m' :=
  ⟨h.dep1, h.dep2, fun i hi => by obtain ⟨x, a, b⟩ := h.opn i hi; exact ⟨x, a, by omega⟩, by have := h.oln; omega, by have := h.iln; omega, h.wln⟩
theorem PsC.ok {s : Ps} {m : Nat} (h : PsC s m) (hm : m ≤ 10000000) : OpnOk s := fun i hi => by obtain ⟨x, a, b⟩ := h.opn i hi; exact ⟨x, a, by omega⟩
/-- states behind and between values -/
theorem PsC.at {s : Ps} {m : Nat} (h : PsC s m) (k : Nat) (hst : s.st = 0 ∨ s.st = 2 ∨ s.st = 4 ∨ s.st = 5) (ht : s.tok = t0) (hx : s.tx = tr0) : PsOk s m k :=
  ⟨h, by omega, fun h => by omega, fun h => by omega, fun _ => ht, by rw [ht]; exact t0_okk k, by rw [ht]; exact t0_pw, fun _ _ => hx, by rw [hx]; exact tr0_okk k⟩
theorem PsC.endValue {s : Ps} {m : Nat} (h : PsC s m) : PsC (psEndValue s) (m + 1) :=
  ⟨h.dep1, h.dep2, fun i hi => by
    obtain ⟨x, a, b⟩ := h.opn i hi
    obtain ⟨x', a', b', _⟩ := bump_get s.items s.opn i x a
    exact ⟨x', a', by omega⟩, by have := h.oln; show s.opn.length ≤ _; omega, by have := h.iln; show (bump s.items s.opn).length ≤ _; rw [bump_len]; omega, h.wln⟩
theorem PsC.endInner {s : Ps} {m : Nat} (h : PsC s m) : PsC (psEndInner s) (m + 1) :=
  PsC.endValue (s := ⟨s.depth, s.came, s.st, s.items, s.opn.dropLast, s.word, s.tok, s.tx⟩)
    ⟨h.dep1, h.dep2, fun i hi => h.opn i (List.dropLast_subset _ hi), by have := h.oln; show s.opn.dropLast.length ≤ m; rw [List.length_dropLast]; omega, h.iln, h.wln⟩
/-- an item more -/
theorem PsC.item {s : Ps} {m : Nat} (h : PsC s m) (x : It) (st : Nat) (w : List UInt8) (hw : w.length ≤ 4) (t : Tk) (r : Tr) : PsC ⟨s.depth, s.came, st, s.items ++ [x], s.opn, w, t, r⟩ (m + 1) := by
  refine ⟨h.dep1, h.dep2, ?_, ?_, ?_, hw⟩
  · intro i hi
    obtain ⟨y, a, b⟩ := h.opn i hi
    refine ⟨y, ?_, by omega⟩
    show (s.items ++ [x])[i]? = some y
    rw [List.getElem?_append_left]
    · exact a
    · rcases Nat.lt_or_ge i s.items.length with h1 | h1
      · exact h1
      · rw [List.getElem?_eq_none h1] at a; cases a
  · have := h.oln; show s.opn.length ≤ _; omega
  · have := h.iln; show (s.items ++ [x]).length ≤ _; simp; omega
theorem psNest_ok {s s' : Ps} {m k kd st : Nat} (h : PsOk s m k) (h0 : s.st = 0 ∨ s.st = 1) (hst : st = 1 ∨ st = 3) (e : psNest s kd st = .ok s') : PsOk s' (m + 1) k := by
  unfold psNest at e
  split at e
  · cases e
  simp only [Except.ok.injEq] at e
  subst e
  have ht := h.tok (by omega)
  have hx := h.tx (by omega) (by omega)
  have hi := h.c.item ⟨kd, 0, 0, []⟩ st s.word h.c.wln s.tok s.tx
  refine ⟨⟨hi.dep1, hi.dep2, ?_, ?_, hi.iln, hi.wln⟩, by show st ≤ 9; omega, fun _ => by simp, fun (h : st = 6) => by omega, fun _ => ht, h.tk1, h.tk2, fun _ _ => hx, h.txk⟩
  · intro i hm
    have hm : i ∈ s.opn ++ [s.items.length] := hm
    rcases List.mem_append.1 hm with h1 | h1
    · exact hi.opn i h1
    · simp at h1
      subst h1
      exact ⟨⟨kd, 0, 0, []⟩, by simp, Nat.zero_le _⟩
  · have := h.c.oln
    show (s.opn ++ [s.items.length]).length ≤ m + 1
    simp; omega
theorem psBegin_ok {s s' : Ps} {m k : Nat} {c : UInt8} (h : PsOk s m k) (h0 : s.st = 0 ∨ s.st = 1) (e : psBegin s c = .ok s') : PsOk s' (m + 1) (k + 1) := by
  have ht := h.tok (by omega)
  have hx := h.tx (by omega) (by omega)
  have word : ∀ kd rest, rest ≠ [] → rest.length ≤ 4 → PsOk (psWord s kd rest) (m + 1) (k + 1) := fun kd rest hr hl =>
    ⟨h.c.item ⟨kd, 0, 0, []⟩ 6 rest hl s.tok s.tx, by show 6 ≤ 9; omega, fun (h : 6 = 1 ∨ 6 = 3) => by omega, fun _ => hr, fun _ => ht, h.tk1.more, h.tk2, fun _ _ => hx, h.txk.more⟩
  have upk : ∀ {s m}, PsOk s m k → PsOk s m (k + 1) := fun h => ⟨h.c, h.st, h.o13, h.wrd, h.tok, h.tk1.more, h.tk2, h.tx, h.txk.more⟩
  unfold psBegin at e
  split at e
  · simp only [Except.ok.injEq] at e; subst e; exact word _ _ (by simp) (by simp)
  split at e
  · simp only [Except.ok.injEq] at e; subst e; exact word _ _ (by simp) (by simp)
  split at e
  · simp only [Except.ok.injEq] at e; subst e; exact word _ _ (by simp) (by simp)
  split at e
  · simp only [Except.ok.injEq] at e; subst e
    have hc := h.c.up (show m ≤ m + 1 by omega)
    exact ⟨⟨hc.dep1, hc.dep2, hc.opn, hc.oln, hc.iln, hc.wln⟩, by show 9 ≤ 9; omega, fun (h : 9 = 1 ∨ 9 = 3) => by omega, fun (h : 9 = 6) => by omega, fun _ => ht, h.tk1.more, h.tk2, fun _ h => absurd rfl h, h.txk.more⟩
  split at e
  · exact upk (psNest_ok h h0 (.inl rfl) e)
  split at e
  · exact upk (psNest_ok h h0 (.inr rfl) e)
  split at e
  · cases e
  · rename_i t hn
    simp only [Except.ok.injEq] at e; subst e
    have hk := nxt_ok h.tk1 h.tk2 hn
    have hc := h.c.up (show m ≤ m + 1 by omega)
    exact ⟨⟨hc.dep1, hc.dep2, hc.opn, hc.oln, hc.iln, hc.wln⟩, by show 7 ≤ 9; omega, fun (h : 7 = 1 ∨ 7 = 3) => by omega, fun (h : 7 = 6) => by omega, fun h => absurd rfl h, hk.1, hk.2, fun _ _ => hx, h.txk.more⟩
theorem psSt_ok {s : Ps} {m k : Nat} (h : PsC s m) (st : Nat) (hst : st = 0 ∨ st = 2 ∨ st = 4 ∨ st = 5) (ht : s.tok = t0) (hx : s.tx = tr0) : PsOk (psSt s st) (m + 1) k :=
  PsC.at (s := psSt s st) (by have hc := h.up (show m ≤ m + 1 by omega); exact ⟨hc.dep1, hc.dep2, hc.opn, hc.oln, hc.iln, hc.wln⟩) k hst ht hx
theorem psBehind_ok {s s' : Ps} {m k : Nat} {c : UInt8} (h : PsOk s m k) (h5 : s.st = 5) (e : psBehind s c = .ok s') : PsOk s' (m + 1) (k + 1) := by
  have ht := h.tok (by omega)
  have hx := h.tx (by omega) (by omega)
  unfold psBehind at e
  split at e
  · simp only [Except.ok.injEq] at e; subst e; exact psSt_ok h.c 0 (by omega) ht hx
  split at e
  · simp only [Except.ok.injEq] at e; subst e; exact psSt_ok h.c 2 (by omega) ht hx
  split at e
  · simp only [Except.ok.injEq] at e; subst e; exact h.c.endInner.at (k + 1) (.inr (.inr (.inr rfl))) ht hx
  · cases e
theorem psOut_ok {s s' : Ps} {m k : Nat} {c : UInt8} (h : PsOk s m k) (h5 : s.st ≤ 5) (e : psOut s c = .ok s') : PsOk s' (m + 1) (k + 1) := by
  have ht := h.tok (by omega)
  have hx := h.tx (by omega) (by omega)
  unfold psOut at e
  split at e
  · simp only [Except.ok.injEq] at e; subst e
    exact ⟨h.c.up (by omega), h.st, h.o13, h.wrd, h.tok, h.tk1.more, h.tk2, h.tx, h.txk.more⟩
  unfold psBetween at e
  split at e
  · simp only [Except.ok.injEq] at e; subst e; exact h.c.endInner.at (k + 1) (.inr (.inr (.inr rfl))) ht hx
  split at e
  · exact psBegin_ok h (by assumption) e
  split at e
  · simp only [Except.ok.injEq] at e; subst e
    have hc := h.c.up (show m ≤ m + 1 by omega)
    exact ⟨⟨hc.dep1, hc.dep2, hc.opn, hc.oln, hc.iln, hc.wln⟩, by show 8 ≤ 9; omega, fun (h : 8 = 1 ∨ 8 = 3) => by omega, fun (h : 8 = 6) => by omega, fun _ => ht, h.tk1.more, h.tk2, fun h _ => absurd rfl h, h.txk.more⟩
  split at e
  · simp only [Except.ok.injEq] at e; subst e; exact psSt_ok h.c 0 (by omega) ht hx
  split at e
  · rename_i h6
    exact psBehind_ok h h6.1 e
  · cases e
/-- a token has ended -/
theorem psEndTok_ok {s s' : Ps} {m k : Nat} (h : PsOk s m k) (h7 : s.st = 7) (e : psEndTok s = .ok s') : PsOk s' (m + 2) k ∧ s'.st = 5 := by
  have hx := h.tx (by omega) (by omega)
  unfold psEndTok at e
  split at e
  · cases e
  simp only [Except.ok.injEq] at e; subst e
  have hc := (h.c.item ⟨3, 0, (tokV s.tok).1, []⟩ s.st s.word h.c.wln t0 s.tx).endValue
  exact ⟨hc.at k (.inr (.inr (.inr rfl))) rfl hx, rfl⟩
theorem psTake_ok {s s' : Ps} {m k : Nat} {c : UInt8} (h : PsOk s m k) (e : psTake s c = .ok s') : PsOk s' (m + 3) (k + 1) := by
  have upm : ∀ {s m m'}, PsOk s m (k + 1) → m ≤ m' → PsOk s m' (k + 1) := fun h hm => ⟨h.c.up hm, h.st, h.o13, h.wrd, h.tok, h.tk1, h.tk2, h.tx, h.txk⟩
  unfold psTake at e
  split at e
  · -- a word
    rename_i h6
    have ht := h.tok (by omega)
    have hx := h.tx (by omega) (by omega)
    have hwl := h.c.wln
    unfold psWordOn at e
    split at e
    · cases e
    rename_i x r hw
    rw [hw] at hwl
    simp at hwl
    split at e
    · cases e
    have hc : PsC ⟨s.depth, s.came, s.st, s.items, s.opn, r, s.tok, s.tx⟩ m := ⟨h.c.dep1, h.c.dep2, h.c.opn, h.c.oln, h.c.iln, by show r.length ≤ 4; omega⟩
    split at e
    · simp only [Except.ok.injEq] at e; subst e
      exact upm (hc.endValue.at (k + 1) (.inr (.inr (.inr rfl))) ht hx) (by omega)
    · rename_i hr
      simp only [Except.ok.injEq] at e; subst e
      exact ⟨hc.up (by omega), h.st, fun (h : s.st = 1 ∨ s.st = 3) => by omega, fun _ => hr, fun _ => ht, h.tk1.more, h.tk2, fun _ _ => hx, h.txk.more⟩
  rename_i h6
  split at e
  · -- a token
    rename_i h7
    have hx := h.tx (by omega) (by omega)
    unfold psTokOn at e
    split at e
    · rename_i t hn
      split at e
      · cases e
      simp only [Except.ok.injEq] at e; subst e
      have hk := nxt_ok h.tk1 h.tk2 hn
      have hc := h.c.up (show m ≤ m + 3 by omega)
      exact ⟨⟨hc.dep1, hc.dep2, hc.opn, hc.oln, hc.iln, hc.wln⟩, h.st, fun (h : s.st = 1 ∨ s.st = 3) => by omega, fun (h : s.st = 6) => by omega, fun h => absurd h7 h, hk.1, hk.2, fun _ _ => hx, h.txk.more⟩
    · split at e
      · cases e
      · rename_i s1 h1
        obtain ⟨h2, h3⟩ := psEndTok_ok h h7 h1
        exact psOut_ok h2 (by omega) e
  rename_i h7
  split at e
  · -- a text
    rename_i h89
    have ht := h.tok h7
    unfold psTextOn at e
    split at e
    · cases e
    · rename_i t hn
      simp only [Except.ok.injEq] at e; subst e
      have hk := trNext_ok h.txk hn
      have hc := h.c.up (show m ≤ m + 3 by omega)
      exact ⟨⟨hc.dep1, hc.dep2, hc.opn, hc.oln, hc.iln, hc.wln⟩, h.st, h.o13, h.wrd, h.tok, h.tk1.more, h.tk2, fun (h1 : s.st ≠ 8) (h2 : s.st ≠ 9) => by omega, hk⟩
    · rename_i t hn
      split at e
      · simp only [Except.ok.injEq] at e; subst e
        exact upm ((h.c.item ⟨4, 0, 0, t.made⟩ 4 s.word h.c.wln s.tok tr0).at (k + 1) (.inr (.inr (.inl rfl))) ht rfl) (by omega)
      · simp only [Except.ok.injEq] at e; subst e
        exact upm ((h.c.item ⟨4, 0, 0, t.made⟩ s.st s.word h.c.wln s.tok tr0).endValue.at (k + 1) (.inr (.inr (.inr rfl))) ht rfl) (by omega)
  · rename_i h89
    have := h.st
    exact upm (psOut_ok h (by omega) e) (by omega)
theorem psMore_ok {s : Ps} {m k : Nat} (h : PsOk s m k) : PsOk (psMore s) m k := ⟨⟨h.c.dep1, h.c.dep2, h.c.opn, h.c.oln, h.c.iln, h.c.wln⟩, h.st, h.o13, h.wrd, h.tok, h.tk1, h.tk2, h.tx, h.txk⟩
theorem ps0_ok (d : Nat) (h1 : 1 ≤ d) (h2 : d ≤ 1000) : PsOk (ps0 d) 0 0 := by
  refine PsC.at (s := ps0 d) ⟨h1, h2, ?_, ?_, ?_, ?_⟩ 0 (.inl rfl) rfl rfl
  · intro i hi; cases hi
  · exact Nat.le_refl _
  · exact Nat.le_refl _
  · exact Nat.zero_le _
end Go.Proofs.YtmkkibaacclhnaaGreat
