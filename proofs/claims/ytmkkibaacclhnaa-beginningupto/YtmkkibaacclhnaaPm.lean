/-
  A step of the walk of the parser, the part named Pm: a text of values read byte by byte, as numbers alone. No theorem of the row.
-/
import Derived.Test.YtmkkibaacclhnaaPa
import Derived.Test.YtmkkibaacclhnaaCde
namespace Go.Proofs.Ytmkkibaacclhnaa
open Go.RowKit

/-- an item -/
structure It where
  k : Nat
  n : Nat
  b : Nat
  s : List UInt8
/-- a parser, as far as it has come -/
structure Ps where
  depth : Nat
  came : Nat
  st : Nat
  items : List It
  opn : List Nat
  word : List UInt8
  tok : Tk
  tx : Tr
def ps0 (depth : Nat) : Ps := ⟨depth, 0, 0, [], [], [], t0, tr0⟩

/-- the number that is nearest -/
noncomputable def nearF (D : List Nat) (P : Int) : Nat := open Classical in if h : ∃ r, NearV D P r then h.choose else 0
theorem near_uniq {D : List Nat} {P : Int} {r s : Nat} (hD : Digs D) (hh : D.head? ≠ some 0) (h1 : NearV D P r) (h2 : NearV D P s) : r = s := (near_is hD hh h1).uniq (near_is hD hh h2)
theorem nearF_eq {D : List Nat} {P : Int} {r : Nat} (hD : Digs D) (hh : D.head? ≠ some 0) (h : NearV D P r) : nearF D P = r := by
  have hex : ∃ r, NearV D P r := ⟨r, h⟩
  unfold nearF
  rw [dif_pos hex]
  exact near_uniq hD hh hex.choose_spec h
/-- what a token says in its end: bits, and an error -/
noncomputable def tokV (t : Tk) : Nat × Nat := open Classical in if Ends t.st then parseV t.neg (nearF t.D t.at) else (0, 3)
/-- nothing that goes on with it brings it back -/
def tokLost (t : Tk) : Bool := decide (7 ≤ t.st) && !t.pn && oor t.D t.at

def blank (c : UInt8) : Bool := decide (c = 32 ∨ c = 10 ∨ c = 13 ∨ c = 9)
/-- one more in what a value stands in -/
def bump (items : List It) : List Nat → List It
  | [] => items
  | i :: r => match r with
    | [] => items.modify i (fun x => ⟨x.k, x.n + 1, x.b, x.s⟩)
    | _ :: _ => bump items r
def psEndValue (s : Ps) : Ps := ⟨s.depth, s.came, 5, bump s.items s.opn, s.opn, s.word, s.tok, s.tx⟩
def psEndInner (s : Ps) : Ps := psEndValue ⟨s.depth, s.came, s.st, s.items, s.opn.dropLast, s.word, s.tok, s.tx⟩
def psWord (s : Ps) (k : Nat) (rest : List UInt8) : Ps := ⟨s.depth, s.came, 6, s.items ++ [⟨k, 0, 0, []⟩], s.opn, rest, s.tok, s.tx⟩
def psNest (s : Ps) (k st : Nat) : Except Nat Ps :=
  if s.opn.length = s.depth then .error 4 else .ok ⟨s.depth, s.came, st, s.items ++ [⟨k, 0, 0, []⟩], s.opn ++ [s.items.length], s.word, s.tok, s.tx⟩
def psSt (s : Ps) (st : Nat) : Ps := ⟨s.depth, s.came, st, s.items, s.opn, s.word, s.tok, s.tx⟩
def psBegin (s : Ps) (c : UInt8) : Except Nat Ps :=
  if c = 110 then .ok (psWord s 0 [117, 108, 108])
  else if c = 102 then .ok (psWord s 1 [97, 108, 115, 101])
  else if c = 116 then .ok (psWord s 2 [114, 117, 101])
  else if c = 34 then .ok (psSt s 9)
  else if c = 91 then psNest s 5 1
  else if c = 123 then psNest s 6 3
  else match nxt s.tok c with
    | none => .error 3
    | some t => .ok ⟨s.depth, s.came, 7, s.items, s.opn, s.word, t, s.tx⟩
/-- does what the last value stands in hold values, not pairs? -/
def psArr (s : Ps) : Bool := match s.opn.getLast? with
  | none => false
  | some i => match s.items[i]? with
    | none => false
    | some x => decide (x.k = 5)
def psBehind (s : Ps) (c : UInt8) : Except Nat Ps :=
  if psArr s = true ∧ c = 44 then .ok (psSt s 0)
  else if psArr s = false ∧ c = 44 then .ok (psSt s 2)
  else if (psArr s = true ∧ c = 93) ∨ (psArr s = false ∧ c = 125) then .ok (psEndInner s)
  else .error 3
def psBetween (s : Ps) (c : UInt8) : Except Nat Ps :=
  if (s.st = 1 ∧ c = 93) ∨ (s.st = 3 ∧ c = 125) then .ok (psEndInner s)
  else if s.st = 0 ∨ s.st = 1 then psBegin s c
  else if (s.st = 2 ∨ s.st = 3) ∧ c = 34 then .ok (psSt s 8)
  else if s.st = 4 ∧ c = 58 then .ok (psSt s 0)
  else if s.st = 5 ∧ s.opn ≠ [] then psBehind s c
  else .error 3
def psOut (s : Ps) (c : UInt8) : Except Nat Ps := if blank c = true then .ok s else psBetween s c
def psWordOn (s : Ps) (c : UInt8) : Except Nat Ps :=
  match s.word with
  | [] => .error 3
  | x :: r => if c ≠ x then .error 3 else if r = [] then .ok (psEndValue ⟨s.depth, s.came, s.st, s.items, s.opn, r, s.tok, s.tx⟩) else .ok ⟨s.depth, s.came, s.st, s.items, s.opn, r, s.tok, s.tx⟩
/-- the token has ended -/
noncomputable def psEndTok (s : Ps) : Except Nat Ps :=
  if (tokV s.tok).2 ≠ 0 then .error (tokV s.tok).2 else .ok (psEndValue ⟨s.depth, s.came, s.st, s.items ++ [⟨3, 0, (tokV s.tok).1, []⟩], s.opn, s.word, t0, s.tx⟩)
noncomputable def psTokOn (s : Ps) (c : UInt8) : Except Nat Ps :=
  match nxt s.tok c with
  | some t => if tokLost t = true then .error 6 else .ok ⟨s.depth, s.came, s.st, s.items, s.opn, s.word, t, s.tx⟩
  | none => match psEndTok s with
    | .error n => .error n
    | .ok s' => psOut s' c
def psTextOn (s : Ps) (c : UInt8) : Except Nat Ps :=
  match trNext s.tx c with
  | .error n => .error n
  | .ok (t, false) => .ok ⟨s.depth, s.came, s.st, s.items, s.opn, s.word, s.tok, t⟩
  | .ok (t, true) =>
    if s.st = 8 then .ok ⟨s.depth, s.came, 4, s.items ++ [⟨4, 0, 0, t.made⟩], s.opn, s.word, s.tok, tr0⟩
    else .ok (psEndValue ⟨s.depth, s.came, s.st, s.items ++ [⟨4, 0, 0, t.made⟩], s.opn, s.word, s.tok, tr0⟩)
/-- one byte more -/
noncomputable def psTake (s : Ps) (c : UInt8) : Except Nat Ps :=
  if s.st = 6 then psWordOn s c
  else if s.st = 7 then psTokOn s c
  else if s.st = 8 ∨ s.st = 9 then psTextOn s c
  else psOut s c
def psMore (s : Ps) : Ps := ⟨s.depth, s.came + 1, s.st, s.items, s.opn, s.word, s.tok, s.tx⟩
/-- bytes, one behind the other; of a wrong one its error and its place -/
noncomputable def psRun (s : Ps) : List UInt8 → Except (Nat × Nat) Ps
  | [] => .ok s
  | c :: l => match psTake s c with
    | .error n => .error (n, s.came)
    | .ok s' => psRun (psMore s') l

theorem psRun_append (s : Ps) (a b : List UInt8) : psRun s (a ++ b) = match psRun s a with | .error x => .error x | .ok s' => psRun s' b := by
  induction a generalizing s with
  | nil => rfl
  | cons c a ih =>
    simp only [List.cons_append, psRun]
    cases psTake s c with
    | error n => rfl
    | ok s' => exact ih _
end Go.Proofs.Ytmkkibaacclhnaa
