/-
  A step of the walk of the parser, the part named Pa: a text read byte by byte, as numbers alone. No theorem of the row.
-/
import Derived.Test.YtmkkibaacclhnaaTkA
namespace Go.Proofs.Ytmkkibaacclhnaa
open Go.RowKit

/-- a reader of a text, as far as it has come -/
structure Tr where
  st : Nat
  made : List UInt8
  lack : Nat
  lo : Nat
  hi : Nat
  dg : Nat
  code : Nat
  high : Nat
def tr0 : Tr := ⟨0, [], 0, 0, 0, 0, 0, 0⟩

/-- what a digit of an escape says -/
def hexV (c : UInt8) : Option Nat :=
  if 48 ≤ c.toNat ∧ c.toNat ≤ 57 then some (c.toNat - 48)
  else if 97 ≤ c.toNat ∧ c.toNat ≤ 102 then some (c.toNat - 87)
  else if 65 ≤ c.toNat ∧ c.toNat ≤ 70 then some (c.toNat - 55)
  else none
/-- what a byte behind a backslash stands for -/
def escV (c : UInt8) : Option UInt8 :=
  if c = 34 ∨ c = 92 ∨ c = 47 then some c
  else if c = 98 then some 8
  else if c = 102 then some 12
  else if c = 110 then some 10
  else if c = 114 then some 13
  else if c = 116 then some 9
  else none
/-- a character's bytes -/
def encR (n : Nat) : List UInt8 :=
  if n < 128 then [UInt8.ofNat n]
  else if n < 2048 then [UInt8.ofNat (192 + n / 64), UInt8.ofNat (128 + n % 64)]
  else if n < 65536 then [UInt8.ofNat (224 + n / 4096), UInt8.ofNat (128 + n / 64 % 64), UInt8.ofNat (128 + n % 64)]
  else [UInt8.ofNat (240 + n / 262144), UInt8.ofNat (128 + n / 4096 % 64), UInt8.ofNat (128 + n / 64 % 64), UInt8.ofNat (128 + n % 64)]

/-- the first byte of several -/
def trSev (t : Tr) (c : UInt8) : Except Nat Tr :=
  if 194 ≤ c.toNat ∧ c.toNat ≤ 244 then
    .ok ⟨1, t.made ++ [c], if c.toNat ≤ 223 then 1 else if c.toNat ≤ 239 then 2 else 3, if c.toNat = 224 then 160 else if c.toNat = 240 then 144 else 128, if c.toNat = 237 then 159 else if c.toNat = 244 then 143 else 191, t.dg, t.code, t.high⟩
  else .error 2
/-- where a character may begin -/
def trChar (t : Tr) (c : UInt8) : Except Nat (Tr × Bool) :=
  if c = 92 then .ok (⟨2, t.made, t.lack, t.lo, t.hi, t.dg, t.code, t.high⟩, false)
  else if t.high ≠ 0 then .error 5
  else if c = 34 then .ok (t, true)
  else if c.toNat < 32 then .error 3
  else if c.toNat < 128 then .ok (⟨t.st, t.made ++ [c], t.lack, t.lo, t.hi, t.dg, t.code, t.high⟩, false)
  else (trSev t c).map (fun t' => (t', false))
/-- within a character of several bytes -/
def trGo (t : Tr) (c : UInt8) : Except Nat Tr :=
  if c.toNat < t.lo ∨ t.hi < c.toNat then .error 2
  else .ok ⟨if t.lack - 1 = 0 then 0 else t.st, t.made ++ [c], t.lack - 1, 128, 191, t.dg, t.code, t.high⟩
/-- behind a backslash -/
def trEsc (t : Tr) (c : UInt8) : Except Nat Tr :=
  if c = 117 then .ok ⟨3, t.made, t.lack, t.lo, t.hi, 0, 0, t.high⟩
  else if t.high ≠ 0 then .error 5
  else match escV c with
    | none => .error 3
    | some x => .ok ⟨0, t.made ++ [x], t.lack, t.lo, t.hi, t.dg, t.code, t.high⟩
/-- behind an escape's last digit -/
def trEnd (t : Tr) : Tr :=
  if t.high ≠ 0 then ⟨0, t.made ++ encR (65536 + (t.high - 55296) * 1024 + (t.code - 56320)), t.lack, t.lo, t.hi, t.dg, t.code, 0⟩
  else if 55296 ≤ t.code ∧ t.code < 56320 then ⟨0, t.made, t.lack, t.lo, t.hi, t.dg, t.code, t.code⟩
  else ⟨0, t.made ++ encR t.code, t.lack, t.lo, t.hi, t.dg, t.code, t.high⟩
def trAdd (t : Tr) (h : Nat) : Tr := ⟨t.st, t.made, t.lack, t.lo, t.hi, t.dg + 1, t.code * 16 + h, t.high⟩
/-- a digit of an escape -/
def trDig (t : Tr) (c : UInt8) : Except Nat Tr :=
  match hexV c with
  | none => .error 3
  | some h =>
    if t.dg + 1 = 1 then (if t.high ≠ 0 ∧ t.code * 16 + h ≠ 13 then .error 5 else .ok (trAdd t h))
    else if t.dg + 1 = 2 then (if decide (220 ≤ t.code * 16 + h ∧ t.code * 16 + h < 224) ≠ decide (t.high ≠ 0) then .error 5 else .ok (trAdd t h))
    else if t.dg + 1 = 4 then .ok (trEnd (trAdd t h))
    else .ok (trAdd t h)
/-- one more byte -/
def trNext (t : Tr) (c : UInt8) : Except Nat (Tr × Bool) :=
  if t.st = 1 then (trGo t c).map (fun t' => (t', false))
  else if t.st = 2 then (trEsc t c).map (fun t' => (t', false))
  else if t.st = 3 then (trDig t c).map (fun t' => (t', false))
  else trChar t c

/-- what is kept of a reader, always -/
structure TrOk (t : Tr) (k : Nat) : Prop where
  st : t.st ≤ 3
  len : t.made.length ≤ 4 * k
  lack : t.lack ≤ 3
  lack1 : t.st = 1 → 1 ≤ t.lack
  lo : t.lo ≤ 255
  hi : t.hi ≤ 255
  dg : t.st = 3 → t.dg ≤ 3
  dg4 : t.dg ≤ 4
  code : t.code < 65536
  codeD : t.st = 3 → t.code < 16 ^ t.dg
  high : t.high = 0 ∨ (55296 ≤ t.high ∧ t.high < 56320)
  low2 : t.st = 3 → t.dg = 2 → (t.high ≠ 0 ↔ 220 ≤ t.code ∧ t.code < 224)
  low3 : t.st = 3 → t.dg = 3 → (t.high ≠ 0 ↔ 220 ≤ t.code / 16 ∧ t.code / 16 < 224)
theorem tr0_ok : TrOk tr0 0 := by constructor <;> simp [tr0]

theorem hexV_lt {c : UInt8} {h : Nat} (e : hexV c = some h) : h < 16 := by
  unfold hexV at e
  repeat' split at e
  all_goals (try cases e)
  all_goals omega
theorem encR_len (n : Nat) : (encR n).length ≤ 4 := by
  unfold encR
  repeat' split
  all_goals simp

theorem TrOk.more {t : Tr} {k : Nat} (h : TrOk t k) : TrOk t (k + 1) := ⟨h.st, by have := h.len; omega, h.lack, h.lack1, h.lo, h.hi, h.dg, h.dg4, h.code, h.codeD, h.high, h.low2, h.low3⟩

theorem trNext_ok {t t' : Tr} {k : Nat} {c : UInt8} {b : Bool} (h : TrOk t k) (e : trNext t c = .ok (t', b)) : TrOk t' (k + 1) := by
  have hl := h.len
  unfold trNext at e
  split at e
  · -- within a character
    rename_i h1
    unfold trGo at e
    split at e
    · cases e
    · simp only [Except.map, Except.ok.injEq, Prod.mk.injEq] at e
      obtain ⟨rfl, rfl⟩ := e
      have hlk := h.lack
      have hl1 := h.lack1 h1
      refine ⟨by simp only; split <;> omega, by simp; omega, by simp only; omega, ?_, by simp only; omega, by simp only; omega, ?_, h.dg4, h.code, ?_, h.high, ?_, ?_⟩
      · simp only; intro hh; split at hh <;> omega
      all_goals (simp only; intro hh; split at hh <;> omega)
  split at e
  · unfold trEsc at e
    split at e
    · simp only [Except.map, Except.ok.injEq, Prod.mk.injEq] at e
      obtain ⟨rfl, rfl⟩ := e
      refine ⟨by simp, by simp only; omega, h.lack, by simp, h.lo, h.hi, by simp, by simp, by simp, by simp, h.high, by simp, by simp⟩
    split at e
    · cases e
    · cases hx : escV c with
      | none => rw [hx] at e; cases e
      | some x =>
        rw [hx] at e
        simp only [Except.map, Except.ok.injEq, Prod.mk.injEq] at e
        obtain ⟨rfl, rfl⟩ := e
        refine ⟨by simp, by simp; omega, h.lack, by simp, h.lo, h.hi, by simp, h.dg4, h.code, by simp, h.high, by simp, by simp⟩
  split at e
  · rename_i h1 h2 h3
    unfold trDig at e
    have hdg := h.dg h3
    have hcd := h.codeD h3
    have hl2 := h.low2 h3
    have hl3 := h.low3 h3
    cases hx : hexV c with
    | none => rw [hx] at e; cases e
    | some x =>
      rw [hx] at e
      have hlt := hexV_lt hx
      simp only at e
      have hpow : t.code * 16 + x < 16 ^ (t.dg + 1) := by
        rw [Nat.pow_succ]
        omega
      have hpow4 : 16 ^ (t.dg + 1) ≤ 65536 := by
        have : 16 ^ (t.dg + 1) ≤ 16 ^ 4 := Nat.pow_le_pow_right (by omega) (by omega)
        simpa using this
      have base : t.dg + 1 ≤ 3 → (t.dg + 1 = 2 → (t.high ≠ 0 ↔ 220 ≤ t.code * 16 + x ∧ t.code * 16 + x < 224)) → TrOk (trAdd t x) (k + 1) := by
        intro hd hlow
        refine ⟨h.st, by show t.made.length ≤ _; omega, h.lack, h.lack1, h.lo, h.hi, fun _ => hd, by show t.dg + 1 ≤ 4; omega, by show t.code * 16 + x < 65536; omega, fun _ => hpow, h.high, fun _ hd2 => hlow hd2, fun _ hd3 => ?_⟩
        have hd3 : t.dg + 1 = 3 := hd3
        show t.high ≠ 0 ↔ 220 ≤ (t.code * 16 + x) / 16 ∧ (t.code * 16 + x) / 16 < 224
        rw [show (t.code * 16 + x) / 16 = t.code by omega]
        exact hl2 (by omega)
      split at e
      · rename_i hd1
        split at e
        · cases e
        · simp only [Except.map, Except.ok.injEq, Prod.mk.injEq] at e
          obtain ⟨rfl, rfl⟩ := e
          exact base (by omega) (by omega)
      split at e
      · rename_i hd1 hd2
        split at e
        · cases e
        · rename_i hne
          simp only [Except.map, Except.ok.injEq, Prod.mk.injEq] at e
          obtain ⟨rfl, rfl⟩ := e
          refine base (by omega) (fun _ => ?_)
          simp only [ne_eq, decide_eq_decide, Classical.not_not] at hne
          exact hne.symm
      split at e
      · rename_i hd1 hd2 hd4
        simp only [Except.map, Except.ok.injEq, Prod.mk.injEq] at e
        obtain ⟨rfl, rfl⟩ := e
        have hc64 : t.code * 16 + x < 65536 := by omega
        have he1 := encR_len (65536 + (t.high - 55296) * 1024 + (t.code * 16 + x - 56320))
        have he2 := encR_len (t.code * 16 + x)
        unfold trEnd
        split
        · refine ⟨by simp, ?_, h.lack, by simp, h.lo, h.hi, by simp, by simp [trAdd]; omega, by simp only [trAdd]; omega, by simp, .inl rfl, by simp, by simp⟩
          simp only [trAdd, List.length_append] at *
          omega
        split
        · rename_i hs
          refine ⟨by simp, by simp only [trAdd]; omega, h.lack, by simp, h.lo, h.hi, by simp, by simp [trAdd]; omega, by simp only [trAdd]; omega, by simp, .inr hs, by simp, by simp⟩
        · refine ⟨by simp, ?_, h.lack, by simp, h.lo, h.hi, by simp, by simp [trAdd]; omega, by simp only [trAdd]; omega, by simp, h.high, by simp, by simp⟩
          simp only [trAdd, List.length_append] at *
          omega
      · simp only [Except.map, Except.ok.injEq, Prod.mk.injEq] at e
        obtain ⟨rfl, rfl⟩ := e
        exact base (by omega) (by omega)
  · rename_i h1 h2 h3
    have hst0 : t.st = 0 := by have := h.st; omega
    unfold trChar at e
    split at e
    · simp only [Except.ok.injEq, Prod.mk.injEq] at e
      obtain ⟨rfl, rfl⟩ := e
      refine ⟨by simp, by simp only; omega, h.lack, by simp, h.lo, h.hi, by simp, h.dg4, h.code, by simp, h.high, by simp, by simp⟩
    split at e
    · cases e
    split at e
    · simp only [Except.ok.injEq, Prod.mk.injEq] at e
      obtain ⟨rfl, rfl⟩ := e
      exact h.more
    split at e
    · cases e
    split at e
    · simp only [Except.ok.injEq, Prod.mk.injEq] at e
      obtain ⟨rfl, rfl⟩ := e
      refine ⟨h.st, by simp; omega, h.lack, h.lack1, h.lo, h.hi, h.dg, h.dg4, h.code, h.codeD, h.high, h.low2, h.low3⟩
    · unfold trSev at e
      split at e
      · simp only [Except.map, Except.ok.injEq, Prod.mk.injEq] at e
        obtain ⟨rfl, rfl⟩ := e
        refine ⟨by simp, by simp; omega, by simp only; split <;> (try split) <;> omega, by simp only; intro _; split <;> (try split) <;> omega, by simp only; split <;> (try split) <;> omega, by simp only; split <;> (try split) <;> omega, by simp, h.dg4, h.code, by simp, h.high, by simp, by simp⟩
      · cases e
end Go.Proofs.Ytmkkibaacclhnaa
