/-
  A step of the walk, the part named Sa. No theorem of the row.
-/
import Derived.Test.YtmkkibaacclhnaaGreatDoorPa
import Derived.Test.YtmkkibaacclhnaaGreatDoorWa
import Derived.Defers
import Derived.Recover
import Derived.BigQuiet
namespace Go.Proofs.YtmkkibaacclhnaaGreatDoor
open Go.RowKit

/-- what a rule comes to: something and the rest; a wrong byte (its error; the rest from it on); the text has ended -/
inductive RO (α : Type) where
  | ok (a : α) (rest : List UInt8)
  | wrong (n : Nat) (rest : List UInt8)
  | ended
/-- the least and the greatest number of a character that begins so -/
def begGo : Nat → Nat → Nat → List UInt8 → Option (Nat × Nat)
  | 0, low, top, _ => some (low, top)
  | k + 1, low, top, [] => begGo k (64 * low) (64 * top + 63) []
  | k + 1, low, top, c :: r => if c.toNat < 128 ∨ 191 < c.toNat then none else begGo k (64 * low + c.toNat - 128) (64 * top + c.toNat - 128) r
def begSize (c : Nat) : Nat := if 192 ≤ c ∧ c < 224 then 2 else if 224 ≤ c ∧ c < 240 then 3 else if 240 ≤ c ∧ c < 248 then 4 else 0
def begBase (c : Nat) : Nat := if 192 ≤ c ∧ c < 224 then 192 else if 224 ≤ c ∧ c < 240 then 224 else 240
def begLeast (k : Nat) : Nat := if k = 2 then 128 else if k = 3 then 2048 else 65536
def begOk (k low top : Nat) : Nat := if top < begLeast k ∨ 1114111 < low ∨ (55296 ≤ low ∧ top ≤ 57343) then 0 else k
def begN (c : Nat) (r : List UInt8) : Nat := if begSize c = 0 then 0 else match begGo (begSize c - 1) (c - begBase c) (c - begBase c) r with
    | none => 0
    | some (low, top) => begOk (begSize c) low top
/-- how many bytes a character has that begins so; 0: none does -/
def beginsV : List UInt8 → Nat
  | [] => 0
  | c :: r => begN c.toNat r
theorem size2 {n : Nat} (h : 192 ≤ n ∧ n < 224) : begSize n = 2 ∧ begBase n = 192 := by
  unfold begSize begBase
  rw [if_pos h, if_pos h]; exact ⟨rfl, rfl⟩
theorem size3 {n : Nat} (h : 224 ≤ n ∧ n < 240) : begSize n = 3 ∧ begBase n = 224 := by
  unfold begSize begBase
  rw [if_neg (by omega), if_pos h, if_neg (by omega), if_pos h]; exact ⟨rfl, rfl⟩
theorem size4 {n : Nat} (h : 240 ≤ n ∧ n < 248) : begSize n = 4 ∧ begBase n = 240 := by
  unfold begSize begBase
  rw [if_neg (by omega), if_neg (by omega), if_pos h, if_neg (by omega), if_neg (by omega)]; exact ⟨rfl, rfl⟩
theorem size0 {n : Nat} (h : n < 192 ∨ 248 ≤ n) : begSize n = 0 := by
  unfold begSize
  rw [if_neg (by omega), if_neg (by omega), if_neg (by omega)]
theorem begN0 {n : Nat} (h : n < 192 ∨ 248 ≤ n) (r : List UInt8) : begN n r = 0 := by
  unfold begN
  rw [size0 h]; rfl
def begEnd (k : Nat) : Option (Nat × Nat) → Nat
  | none => 0
  | some (low, top) => begOk k low top
theorem begN2 {n : Nat} (h : 192 ≤ n ∧ n < 224) (r : List UInt8) : begN n r = begEnd 2 (begGo 1 (n - 192) (n - 192) r) := by
  unfold begN
  rw [(size2 h).1, (size2 h).2]
  cases begGo 1 (n - 192) (n - 192) r <;> rfl
theorem begN3 {n : Nat} (h : 224 ≤ n ∧ n < 240) (r : List UInt8) : begN n r = begEnd 3 (begGo 2 (n - 224) (n - 224) r) := by
  unfold begN
  rw [(size3 h).1, (size3 h).2]
  cases begGo 2 (n - 224) (n - 224) r <;> rfl
theorem begN4 {n : Nat} (h : 240 ≤ n ∧ n < 248) (r : List UInt8) : begN n r = begEnd 4 (begGo 3 (n - 240) (n - 240) r) := by
  unfold begN
  rw [(size4 h).1, (size4 h).2]
  cases begGo 3 (n - 240) (n - 240) r <;> rfl
theorem begOk_yes {k low top : Nat} (h : ¬ (top < begLeast k ∨ 1114111 < low ∨ (55296 ≤ low ∧ top ≤ 57343))) : begOk k low top = k := if_neg h
theorem begOk_no {k low top : Nat} (h : top < begLeast k ∨ 1114111 < low ∨ (55296 ≤ low ∧ top ≤ 57343)) : begOk k low top = 0 := if_pos h
theorem least2 : begLeast 2 = 128 := rfl
theorem least3 : begLeast 3 = 2048 := rfl
theorem least4 : begLeast 4 = 65536 := rfl
theorem begGo_no {k low top : Nat} {c : UInt8} {r : List UInt8} (h : c.toNat < 128 ∨ 191 < c.toNat) : begGo (k + 1) low top (c :: r) = none := by
  rw [begGo, if_pos h]
theorem begGo_yes {k low top : Nat} {c : UInt8} {r : List UInt8} (h : ¬ (c.toNat < 128 ∨ 191 < c.toNat)) : begGo (k + 1) low top (c :: r) = begGo k (64 * low + c.toNat - 128) (64 * top + c.toNat - 128) r := by
  rw [begGo, if_neg h]
end Go.Proofs.YtmkkibaacclhnaaGreatDoor

namespace Go.Proofs.YtmkkibaacclhnaaGreatDoor
open Go.RowKit

theorem TkOk.more {t : Tk} {k : Nat} (h : TkOk t k) : TkOk t (k + 1) := ⟨h.st, h.digs, h.head, h.len, by have := h.p1; omega, by have := h.p2; omega, h.pw⟩
theorem t0_okk (k : Nat) : TkOk t0 k := by
  induction k with
  | zero => exact t0_ok
  | succ k ih => exact ih.more
theorem tr0_okk (k : Nat) : TrOk tr0 k := by
  induction k with
  | zero => exact tr0_ok
  | succ k ih => exact ih.more
theorem t0_pw : PwZero t0 := fun _ => rfl
/-- what holds of a parser whatever its state -/
structure PsC (s : Ps) (m : Nat) : Prop where
  dep1 : 1 ≤ s.depth
  dep2 : s.depth ≤ 1000
  opn : ∀ i ∈ s.opn, ∃ x, s.items[i]? = some x ∧ x.n ≤ m
  oln : s.opn.length ≤ m
  iln : s.items.length ≤ m
  wln : s.word.length ≤ 4
structure PsOk (s : Ps) (m k : Nat) : Prop where
  c : PsC s m
  st : s.st ≤ 9
  o13 : s.st = 1 ∨ s.st = 3 → s.opn ≠ []
  wrd : s.st = 6 → s.word ≠ []
  tok : s.st ≠ 7 → s.tok = t0
  tk1 : TkOk s.tok k
  tk2 : PwZero s.tok
  tx : s.st ≠ 8 → s.st ≠ 9 → s.tx = tr0
  txk : TrOk s.tx k
theorem PsC.up {s : Ps} {m m' : Nat} (h : PsC s m) (hm : m ≤ m') : PsC s m' :=
  ⟨h.dep1, h.dep2, fun i hi => by obtain ⟨x, a, b⟩ := h.opn i hi; exact ⟨x, a, by omega⟩, by have := h.oln; omega, by have := h.iln; omega, h.wln⟩
theorem PsC.ok {s : Ps} {m : Nat} (h : PsC s m) (hm : m ≤ 10000000) : OpnOk s := fun i hi => by obtain ⟨x, a, b⟩ := h.opn i hi; exact ⟨x, a, by omega⟩
/-- states behind and between values -/
theorem PsC.at {s : Ps} {m : Nat} (h : PsC s m) (k : Nat) (hst : s.st = 0 ∨ s.st = 2 ∨ s.st = 4 ∨ s.st = 5) (ht : s.tok = t0) (hx : s.tx = tr0) : PsOk s m k :=
  ⟨h, by omega, fun h => by omega, fun h => by omega, fun _ => ht, by rw [ht]; exact t0_okk k, by rw [ht]; exact t0_pw, fun _ _ => hx, by rw [hx]; exact tr0_okk k⟩
/-- an item more -/
theorem PsC.item {s : Ps} {m : Nat} (h : PsC s m) (x : It) (st : Nat) (w : List UInt8) (hw : w.length ≤ 4) (t : Tk) (r : Tr) : PsC ⟨s.depth, s.came, st, s.items ++ [x], s.opn, w, t, r⟩ (m + 1) := by
  refine ⟨h.dep1, h.dep2, ?_, ?_, ?_, hw⟩
  · intro i hi
    obtain ⟨y, a, b⟩ := h.opn i hi
    refine ⟨y, ?_, by omega⟩
    show (s.items ++ [x])[i]? = some y
    rw [List.getElem?_append_left]
    · exact a
    · rcases Nat.lt_or_ge i s.items.length with h1 | h1
      · exact h1
      · rw [List.getElem?_eq_none h1] at a; cases a
  · have := h.oln; show s.opn.length ≤ _; omega
  · have := h.iln; show (s.items ++ [x]).length ≤ _; simp; omega
end Go.Proofs.YtmkkibaacclhnaaGreatDoor

namespace Go.Proofs.YtmkkibaacclhnaaGreatDoor
open Go.RowKit

/-- where a text begins is of no matter -/
def up (k : Nat) (s : Ps) : Ps := ⟨s.depth, s.came + k, s.st, s.items, s.opn, s.word, s.tok, s.tx⟩
/-- the end of a text: its items, and an error -/
noncomputable def psEnd (s : Ps) : List It × Nat :=
  if s.st = 7 ∧ s.opn = [] then
    match psEndTok s with
    | .error n => if n = 6 then ([], 6) else ([], 7)
    | .ok s' => (s'.items, 0)
  else if s.st = 5 ∧ s.opn = [] then (s.items, 0) else ([], 7)
end Go.Proofs.YtmkkibaacclhnaaGreatDoor

namespace Go.Proofs.YtmkkibaacclhnaaGreatDoor
open Go.RowKit

/-- what a value's rule comes to -/
inductive RV where
  | ok (n : Nat) (its : List It) (rest : List UInt8)
  | wrong (n : Nat) (rest : List UInt8)
  | ended (late : Bool)
def RO.suf {α : Type} (r : List UInt8) : RO α → Prop
  | .ok _ q => q <:+ r
  | .wrong _ q => q <:+ r ∧ q ≠ []
  | .ended => True
def RV.suf (r : List UInt8) : RV → Prop
  | .ok _ _ q => q <:+ r
  | .wrong _ q => q <:+ r ∧ q ≠ []
  | .ended _ => True
theorem RO.suf.mono {α : Type} {r r' : List UInt8} {x : RO α} (h : x.suf r) (hr : r <:+ r') : x.suf r' := by
  cases x with
  | ok a q => exact h.trans hr
  | wrong n q => exact ⟨h.1.trans hr, h.2⟩
  | ended => trivial
theorem RV.suf.mono {r r' : List UInt8} {x : RV} (h : x.suf r) (hr : r <:+ r') : x.suf r' := by
  cases x with
  | ok a b q => exact List.IsSuffix.trans h hr
  | wrong n q => exact ⟨h.1.trans hr, h.2⟩
  | ended => trivial
end Go.Proofs.YtmkkibaacclhnaaGreatDoor

namespace Go.Proofs.YtmkkibaacclhnaaGreatDoor
open Go.RowKit

/-- a parser between values, where so much is left of a text that ends at L -/
def Z (d L st : Nat) (its : List It) (o : List Nat) (r : List UInt8) : Ps := ⟨d, L - r.length, st, its, o, [], t0, tr0⟩
end Go.Proofs.YtmkkibaacclhnaaGreatDoor

namespace Go.Proofs.YtmkkibaacclhnaaGreatDoor
open Go.RowKit

/-- behind a value: a token may still be open where the text ends -/
def After (d L : Nat) (its : List It) (o : List Nat) (R : Except (Nat × Nat) Ps) : List UInt8 → Prop
  | [] => R = .ok (Z d L 5 its o []) ∨ ∃ s1, R = .ok s1 ∧ s1.st = 7 ∧ s1.opn = o ∧ psEndTok s1 = .ok (Z d L 5 its o [])
  | c :: p => R = psRun (Z d L 5 its o (c :: p)) (c :: p)
theorem After.of {d L : Nat} {its : List It} {o : List Nat} {R : Except (Nat × Nat) Ps} {p : List UInt8} (h : R = psRun (Z d L 5 its o p) p) : After d L its o R p := by
  cases p with
  | nil => exact .inl h
  | cons c p => exact h
def lateN (l : Bool) : Nat := if l = true then 6 else 7
def VRel (d L : Nat) (its : List It) (o : List Nat) (R : Except (Nat × Nat) Ps) : RV → Prop
  | .ok _ new p => After d L (bump (its ++ new) o) o R p
  | .wrong n p => R = .error (n, L - p.length)
  | .ended l => ∃ s1, R = .ok s1 ∧ psEnd s1 = ([], lateN l)
theorem VRel.same {d L : Nat} {its : List It} {o : List Nat} {R R' : Except (Nat × Nat) Ps} {x : RV} (h : VRel d L its o R x) (e : R' = R) : VRel d L its o R' x := e ▸ h
end Go.Proofs.YtmkkibaacclhnaaGreatDoor

namespace Go.Proofs.YtmkkibaacclhnaaGreatDoor
open Go.RowKit

theorem PErr.same {B : Nat} {vi vo vt vm : Value} {s : Ps} {w w' : World} {S : Nat → Prop} (h : PR B w vi vo vt vm s) (hF : Fr (fun _ => False) w w') : PErr B s.came S w w' :=
  ⟨_, hF.heap h.blk id, rfl, rfl, hF.mono (fun _ h => h.elim)⟩
end Go.Proofs.YtmkkibaacclhnaaGreatDoor

namespace Go.Proofs.YtmkkibaacclhnaaGreatDoor
open Go.RowKit

/-- all cells of a parser, out of its token's and the rest -/
theorem cells_tok {s : Ps} {vi vo vt vm vt' : Value} {cs' : Array Value} {t' : Tk} (h1 : TkIn cs' 8 vt' t') (h2 : Apart 8 (psCells s vi vo vt vm) cs') : cs' = psCells ⟨s.depth, s.came, s.st, s.items, s.opn, s.word, t', s.tx⟩ vi vo vt' vm := by
  apply Array.ext_getElem?
  intro j
  match j with
  | 0 => exact (h2.2 0 (by omega)).trans rfl
  | 1 => exact (h2.2 1 (by omega)).trans rfl
  | 2 => exact (h2.2 2 (by omega)).trans rfl
  | 3 => exact (h2.2 3 (by omega)).trans rfl
  | 4 => exact (h2.2 4 (by omega)).trans rfl
  | 5 => exact (h2.2 5 (by omega)).trans rfl
  | 6 => exact (h2.2 6 (by omega)).trans rfl
  | 7 => exact (h2.2 7 (by omega)).trans rfl
  | 8 => exact h1.c0
  | 9 => exact h1.c1
  | 10 => exact h1.c2
  | 11 => exact h1.c3
  | 12 => exact h1.c4
  | 13 => exact h1.c5
  | 14 => exact (h2.2 14 (by omega)).trans rfl
  | 15 => exact (h2.2 15 (by omega)).trans rfl
  | 16 => exact (h2.2 16 (by omega)).trans rfl
  | 17 => exact (h2.2 17 (by omega)).trans rfl
  | 18 => exact (h2.2 18 (by omega)).trans rfl
  | 19 => exact (h2.2 19 (by omega)).trans rfl
  | 20 => exact (h2.2 20 (by omega)).trans rfl
  | 21 => exact (h2.2 21 (by omega)).trans rfl
  | (j + 22) =>
    rw [Array.getElem?_eq_none (by rw [h2.1]; show 22 ≤ _; omega), Array.getElem?_eq_none (by show 22 ≤ _; omega)]
/-- the token goes on -/
theorem PC.tok {B : Nat} {S : Nat → Prop} {w0 W w' : World} {vi vo vt vm : Value} {s : Ps} {t' : Tk} (h : PC B S w0 vi vo vt vm W s) (hvm : vm.ownBlock = none) (hn : NextPost 0 B 8 113 (psCells s vi vo vt vm) vt W w' t') :
    ∃ vt', PC B S w0 vi vo vt' vm w' ⟨s.depth, s.came, s.st, s.items, s.opn, s.word, t', s.tx⟩ := by
  obtain ⟨⟨a, b, c, d, e, f⟩, g, k⟩ := h
  obtain ⟨cs', vt', ⟨a', b', c'⟩, ap, fr, nw⟩ := hn
  have he := cells_tok b' ap
  subst he
  have hs := g.size
  have hne : ∀ {e1 s1 n : Nat} {v : Value} {xs : List Value}, W.ownsRow 0 e1 s1 v n xs → e1 ≠ 113 → e1 ≠ 5 → ∀ i, v.ownBlock = some i → ¬ (i = B ∨ vt.ownBlock = some i) := by
    intro e1 s1 n v xs hv h75 h5 i hi hx
    rcases hx with rfl | hx
    · exact rowT hv a (fun h => h75 h.symm) hi
    · rcases rowNe hv d h5 with h | h
      · rw [h] at hi; cases hi
      · exact h (hi.trans hx.symm)
  refine ⟨vt', ⟨a', rowFr b fr (hne b (by decide) (by decide)), rowFr c fr (hne c (by decide) (by decide)), c', rowFr e fr (fun i hi => by rw [hvm] at hi; cases hi), .inr hvm⟩, ?_, ?_⟩
  · exact g.trans' fr (fun i hi => k i (hi.elim .inl (fun h => .inr (.inr (.inr (.inl h))))))
  · intro i hi
    rcases hi with hi | hi | hi | hi | hi
    · exact k i (.inl hi)
    · exact k i (.inr (.inl hi))
    · exact k i (.inr (.inr (.inl hi)))
    · rcases nw i hi with h1 | h1
      · exact k i (.inr (.inr (.inr (.inl h1))))
      · exact .inr (by omega)
    · exact k i (.inr (.inr (.inr (.inr hi))))
end Go.Proofs.YtmkkibaacclhnaaGreatDoor

namespace Go.Proofs.YtmkkibaacclhnaaGreatDoor
open Go.RowKit

theorem row_nil (W : World) (e size : Nat) : W.ownsRow 0 e size (.slice none 0 0) 0 [] := ⟨by simp, .inl ⟨rfl, rfl⟩⟩
theorem PC.same {B : Nat} {S : Nat → Prop} {w0 W w' : World} {vi vo vt vm : Value} {s : Ps} (h : PC B S w0 vi vo vt vm W s) (hF : Fr (fun _ => False) W w') : PC B S w0 vi vo vt vm w' s := by
  obtain ⟨⟨a, b, c, d, e, f⟩, g, k⟩ := h
  exact ⟨⟨hF.heap a id, rowFr b hF (fun _ _ => id), rowFr c hF (fun _ _ => id), rowFr d hF (fun _ _ => id), rowFr e hF (fun _ _ => id), f⟩, g.trans' hF (fun _ h => h.elim), k⟩
end Go.Proofs.YtmkkibaacclhnaaGreatDoor

namespace Go.Proofs.YtmkkibaacclhnaaGreatDoor
open Go.RowKit

theorem Fr.setRow {S : Nat → Prop} {a w : World} (h : Fr S a w) {g : Nat} (hp : S g ∨ a.heap.size ≤ g) (cs : Array Value) : Fr S a (w.setRow g cs) :=
  ⟨h.os, h.tape, h.output, by rw [setRow_size]; exact h.size, fun k hk hs => (setRow_other w g k cs (by rintro rfl; rcases hp with h1 | h1; exact hs h1; omega)).trans (h.block k hk hs)⟩
end Go.Proofs.YtmkkibaacclhnaaGreatDoor

namespace Go.Proofs.YtmkkibaacclhnaaGreatDoor
open Go.RowKit

/-- what the end of a text leaves -/
def EndPost (B came : Nat) (S : Nat → Prop) (w : World) (r : List It × Nat) (e : Ending) (w' : World) : Prop :=
  ∃ V, e = .returned (.tuple #[V, .int .i64 (r.2 : Int)]) ∧ w'.ownsRow 0 29 4 V r.1.length (itsV r.1) ∧ (∀ i, V.ownBlock = some i → S i ∨ w.heap.size ≤ i) ∧ PErr B came S w w'
theorem EndPost.nil {B came : Nat} {S : Nat → Prop} {w w' : World} {n : Nat} {v : Int} (hv : v = (n : Int)) (h : PErr B came S w w') : EndPost B came S w ([], n) (.returned (.tuple #[.slice none 0 0, .int .i64 v])) w' := by
  subst hv
  exact ⟨_, rfl, row_nil _ 29 4, (fun i h => by cases h), h⟩
end Go.Proofs.YtmkkibaacclhnaaGreatDoor

namespace Go.Proofs.YtmkkibaacclhnaaGreatDoor
open Go.RowKit

/-- what the closing leaves -/
def ClosePost (S : Nat → Prop) (w0 : World) (r : List It × Nat × Nat) (e : Ending) (w' : World) : Prop :=
  ∃ V, e = .returned (.tuple #[V, .int .i64 (r.2.1 : Int), .int .i64 (r.2.2 : Int)]) ∧ w'.ownsRow 0 29 4 V r.1.length (itsV r.1) ∧ (∀ i, V.ownBlock = some i → S i ∨ w0.heap.size ≤ i) ∧ Fr S w0 w'
theorem ClosePost.base {S T : Nat → Prop} {w0 w w' : World} {r : List It × Nat × Nat} {e : Ending} (hF : Fr S w0 w) (hT : ∀ i, T i → S i ∨ w0.heap.size ≤ i) (h : ClosePost T w r e w') : ClosePost S w0 r e w' := by
  obtain ⟨V, a, b, c, d⟩ := h
  refine ⟨V, a, b, ?_, hF.trans' d hT⟩
  intro i hi
  rcases c i hi with h1 | h1
  · exact hT i h1
  · have := hF.size
    exact .inr (by omega)
end Go.Proofs.YtmkkibaacclhnaaGreatDoor

namespace Go.Proofs.YtmkkibaacclhnaaGreatDoor
open Go.RowKit

theorem row_lt {w : World} {e size n i : Nat} {v : Value} {xs : List Value} (h : w.ownsRow 0 e size v n xs) (hi : v.ownBlock = some i) : i < w.heap.size := by
  rcases h.2 with ⟨rfl, _⟩ | ⟨g, cap, cur, rfl, _, hg, _⟩
  · cases hi
  · simp [Value.ownBlock] at hi
    subst hi
    exact lt_of_block hg
theorem PR.lt {B : Nat} {w : World} {vi vo vt vm : Value} {s : Ps} (h : PR B w vi vo vt vm s) {i : Nat} (hi : own B vi vo vt vm i) : i < w.heap.size := by
  rcases hi with rfl | hi | hi | hi | hi
  · exact lt_of_block h.blk
  · exact row_lt h.oi hi
  · exact row_lt h.oo hi
  · exact row_lt h.ot hi
  · exact row_lt h.om hi
/-- a panic's post that hangs on the deferred calls alone -/
def FreePanic (Q : Exit → Act → World → Prop) : Exit → Act → World → Prop
  | .panic ch, a, w => ∀ a' : Act, a'.defers = a.defers → Q (.panic ch) a' w
  | e, a, w => Q e a w
theorem FreePanic.imp {Q : Exit → Act → World → Prop} : ∀ (e : Exit) (a : Act) (w : World), FreePanic Q e a w → Q e a w := fun e a w h => by
  cases e <;> first | exact h | exact h a rfl
/-- a panic's post that hangs on the deferred calls and on the result's place alone -/
def KeepPanic (Q : Exit → Act → World → Prop) : Exit → Act → World → Prop
  | .panic ch, a, w => ∀ a' : Act, a'.defers = a.defers → a'.tmps[4]? = a.tmps[4]? → Q (.panic ch) a' w
  | e, a, w => Q e a w
theorem KeepPanic.imp {Q : Exit → Act → World → Prop} : ∀ (e : Exit) (a : Act) (w : World), KeepPanic Q e a w → Q e a w := fun e a w h => by
  cases e <;> first | exact h | exact h a rfl rfl
theorem KeepPanic.put {Q : Exit → Act → World → Prop} {d : Nat} (hd : d ≠ 4) (v : Value) (c : List PanicEntry) (a : Act) (w : World) (h : KeepPanic Q (.panic c) (a.put (some d) v) w) : KeepPanic Q (.panic c) a w :=
  fun a' h1 h2 => h a' h1 (h2.trans (by simp [Act.put, hd]))
/-- a cell of another's is written -/
theorem PC.other {B : Nat} {S : Nat → Prop} {w0 W : World} {vi vo vt vm : Value} {s : Ps} {Y : Nat} (h : PC B S w0 vi vo vt vm W s) (hn : ¬ own B vi vo vt vm Y) (hS : S Y ∨ w0.heap.size ≤ Y) (u : Value) : PC B S w0 vi vo vt vm (W.setCell ⟨Y, 0, none⟩ u) s := by
  obtain ⟨⟨a, b, c, d, e, f⟩, g, k⟩ := h
  refine ⟨⟨?_, rowSetOther b (fun h => hn (.inr (.inl h))) u, rowSetOther c (fun h => hn (.inr (.inr (.inl h)))) u, rowSetOther d (fun h => hn (.inr (.inr (.inr (.inl h))))) u, rowSetOther e (fun h => hn (.inr (.inr (.inr (.inr h))))) u, f⟩, g.setCell (p := ⟨Y, 0, none⟩) hS u, k⟩
  exact (Below.heap_setCell W ⟨Y, 0, none⟩ u B (fun e => hn (.inl e.symm))).trans a
end Go.Proofs.YtmkkibaacclhnaaGreatDoor

namespace Go.Proofs.YtmkkibaacclhnaaGreatDoor
open Go.RowKit

def scCells (l : List UInt8) (pos inn d : Nat) (vi : Value) (e : Nat) (en la : Bool) : Array Value :=
  #[.string (ofL l), .int .i64 (pos : Int), .int .i64 (inn : Int), .int .i64 (d : Int), vi, .int .i64 (e : Int), .bool en, .bool la]
/-- a text that is gone through: so much of it is left -/
structure SC (B : Nat) (w0 w : World) (l p : List UInt8) (inn d : Nat) (vi : Value) (its : List It) (e : Nat) (en la : Bool) : Prop where
  blk : w.heap[B]? = some (.cells (scCells l (l.length - p.length) inn d vi e en la) 120 (0, 0))
  oi : w.ownsRow 0 29 4 vi its.length (itsV its)
  suf : p <:+ l
  fr : Fr (fun _ => False) w0 w
  hB : w0.heap.size ≤ B
  hv : ∀ i, vi.ownBlock = some i → w0.heap.size ≤ i
theorem SC.cell {B : Nat} {w0 w : World} {l p p' : List UInt8} {inn inn' d : Nat} {vi : Value} {its : List It} {e e' : Nat} {en en' la la' : Bool} (h : SC B w0 w l p inn d vi its e en la) (j : Nat) (u : Value) (hp : p' <:+ l)
    (hc : (scCells l (l.length - p.length) inn d vi e en la).setIfInBounds j u = scCells l (l.length - p'.length) inn' d vi e' en' la') : SC B w0 (w.setCell ⟨B, j, none⟩ u) l p' inn' d vi its e' en' la' := by
  obtain ⟨a, b, c, f, g, k⟩ := h
  refine ⟨?_, rowSetOther b (rowT b a (by decide)) u, hp, f.setCell (p := ⟨B, j, none⟩) (.inr g) u, g, k⟩
  rw [← hc]
  exact heap_setCell_same w B j _ 120 u a
theorem SC.drew {B : Nat} {w0 w : World} {l p : List UInt8} {inn d : Nat} {vi : Value} {its : List It} {e : Nat} {en la : Bool} (h : SC B w0 w l p inn d vi its e en la) : SC B w0 w.drew l p inn d vi its e en la :=
  ⟨h.blk, h.oi, h.suf, h.fr.drew, h.hB, h.hv⟩
theorem SC.drewN {B : Nat} {w0 w : World} {l p : List UInt8} {inn d : Nat} {vi : Value} {its : List It} {e : Nat} {en la : Bool} (h : SC B w0 w l p inn d vi its e en la) (n : Nat) : SC B w0 (w.drewN n) l p inn d vi its e en la :=
  ⟨h.blk, h.oi, h.suf, h.fr.drewN n, h.hB, h.hv⟩
theorem SC.at_ {B : Nat} {w0 w : World} {l p : List UInt8} {inn d : Nat} {vi : Value} {its : List It} {e : Nat} {en la : Bool} (h : SC B w0 w l p inn d vi its e en la) : p.length ≤ l.length := h.suf.length_le
theorem suf_tail {l q : List UInt8} {c : UInt8} (h : (c :: q) <:+ l) : q <:+ l := (List.suffix_cons c q).trans h
theorem suf_pos {l q : List UInt8} {c : UInt8} (h : (c :: q) <:+ l) : l.length - q.length = l.length - (c :: q).length + 1 := by
  have := h.length_le
  simp only [List.length_cons] at this ⊢
  omega
/-- a step on -/
theorem SC.step {B : Nat} {w0 w : World} {l q : List UInt8} {c : UInt8} {inn d : Nat} {vi : Value} {its : List It} {e : Nat} {en la : Bool} (h : SC B w0 w l (c :: q) inn d vi its e en la) :
    SC B w0 (w.setCell ⟨B, 1, none⟩ (.int .i64 ((l.length - (c :: q).length : Nat) + 1 : Int))) l q inn d vi its e en la := by
  refine h.cell 1 _ (suf_tail h.suf) ?_
  rw [suf_pos h.suf]
  rfl
end Go.Proofs.YtmkkibaacclhnaaGreatDoor
