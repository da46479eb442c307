/-
  A step of the walk of the parser, the part named Pn: a parser in memory. No theorem of the row.
-/
import Derived.Test.YtmkkibaacclhnaaPm
import Derived.Test.YtmkkibaacclhnaaPe
namespace Go.Proofs.Ytmkkibaacclhnaa
open Go.RowKit

def itCells (x : It) : List Value := [.int .i64 (x.k : Int), .int .i64 (x.n : Int), .int .u64 (x.b : Int), .string (ofL x.s)]
/-- items as they lie in memory -/
def itsV (l : List It) : List Value := l.flatMap itCells
def opV (l : List Nat) : List Value := l.map (fun i : Nat => Value.int .i64 (i : Int))
theorem itsV_append (a b : List It) : itsV (a ++ b) = itsV a ++ itsV b := by simp [itsV]
theorem itsV_length (l : List It) : (itsV l).length = l.length * 4 := by
  induction l with
  | nil => rfl
  | cons x l ih =>
    have : itsV (x :: l) = itCells x ++ itsV l := rfl
    rw [this, List.length_append, ih, List.length_cons]
    simp [itCells]
    omega
theorem itsV_get (l : List It) (i j : Nat) (x : It) (hi : l[i]? = some x) (hj : j < 4) : (itsV l)[i * 4 + j]? = (itCells x)[j]? := by
  induction l generalizing i with
  | nil => simp at hi
  | cons y l ih =>
    have e : itsV (y :: l) = itCells y ++ itsV l := rfl
    have hl : (itCells y).length = 4 := rfl
    cases i with
    | zero =>
      simp at hi
      subst hi
      rw [e, List.getElem?_append_left (by rw [hl]; omega)]
      simp
    | succ i =>
      rw [e, List.getElem?_append_right (by rw [hl]; omega), hl, show (i + 1) * 4 + j - 4 = i * 4 + j by omega]
      exact ih i (by simpa using hi)
theorem itsV_modify (l : List It) (i : Nat) (x : It) (hi : l[i]? = some x) : itsV (l.modify i (fun x => ⟨x.k, x.n + 1, x.b, x.s⟩)) = (itsV l).set (i * 4 + 1) (.int .i64 ((x.n + 1 : Nat) : Int)) := by
  induction l generalizing i with
  | nil => simp at hi
  | cons y l ih =>
    have e : ∀ z r, itsV (z :: r) = itCells z ++ itsV r := fun _ _ => rfl
    cases i with
    | zero =>
      simp at hi
      subst hi
      rw [List.modify_zero_cons, e, e]
      rfl
    | succ i =>
      rw [List.modify_succ_cons, e, e, ih i (by simpa using hi), show (i + 1) * 4 + 1 = (itCells y).length + (i * 4 + 1) by show _ = 4 + _; omega, List.set_append, if_neg (by omega), Nat.add_sub_cancel_left]

/-- rows and other blocks -/
theorem rowT {w : World} {base e size n : Nat} {v : Value} {xs : List Value} {B T : Nat} {a : Array Value} (h : w.ownsRow base e size v n xs) (hB : w.heap[B]? = some (.cells a T (0, 0))) (hT : T ≠ e) : v.ownBlock ≠ some B := by
  intro he
  rcases h.2 with ⟨rfl, _⟩ | ⟨g, cap, cur, rfl, _, hg, _⟩
  · simp [Value.ownBlock] at he
  · simp [Value.ownBlock] at he
    subst he
    rw [hg] at hB
    simp at hB
    exact hT hB.2.symm
theorem rowFr {S : Nat → Prop} {w w' : World} {base e size n : Nat} {v : Value} {xs : List Value} (h : w.ownsRow base e size v n xs) (hF : Fr S w w') (hS : ∀ i, v.ownBlock = some i → ¬ S i) : w'.ownsRow base e size v n xs := by
  refine ⟨h.1, ?_⟩
  rcases h.2 with h2 | ⟨g, cap, cur, hv, h3, hg, h4⟩
  · exact .inl h2
  · exact .inr ⟨g, cap, cur, hv, h3, hF.heap hg (hS g (by rw [hv]; rfl)), h4⟩
theorem rowSetOther {w : World} {base e size n : Nat} {v : Value} {xs : List Value} (h : w.ownsRow base e size v n xs) {a : Addr} (ha : v.ownBlock ≠ some a.block) (u : Value) : (w.setCell a u).ownsRow base e size v n xs := by
  refine ⟨h.1, ?_⟩
  rcases h.2 with h2 | ⟨g, cap, cur, hv, h3, hg, h4⟩
  · exact .inl h2
  · refine .inr ⟨g, cap, cur, hv, h3, ?_, h4⟩
    rw [Below.heap_setCell w a u g (by intro e; apply ha; rw [hv, ← e]; rfl)]
    exact hg
/-- one cell of a row is written -/
theorem rowSet {w : World} {e size n g cap : Nat} {xs : List Value} (h : w.ownsRow 0 e size (.slice (some ⟨g, 0, none⟩) n cap) n xs) (j : Nat) (u : Value) : (w.setCell ⟨g, j, none⟩ u).ownsRow 0 e size (.slice (some ⟨g, 0, none⟩) n cap) n (xs.set j u) := by
  refine ⟨by rw [List.length_set]; exact h.1, ?_⟩
  rcases h.2 with ⟨h2, _⟩ | ⟨g', cap', cur, hv, h3, hg, h4, h5, h6, h7⟩
  · cases h2
  · simp at hv
    obtain ⟨rfl, rfl⟩ := hv
    refine .inr ⟨g, cap, cur.setIfInBounds j u, rfl, h3, heap_setCell_same w g j cur e u hg, h4, h5, by simpa using h6, ?_⟩
    rw [← h7, Array.toList_setIfInBounds, List.take_set]
/-- the last one of a row is given up -/
theorem rowCut {w : World} {e n g cap : Nat} {xs : List Value} {x : Value} (h : w.ownsRow 0 e 1 (.slice (some ⟨g, 0, none⟩) (n + 1) cap) (n + 1) (xs ++ [x])) : w.ownsRow 0 e 1 (.slice (some ⟨g, 0, none⟩) n cap) n xs := by
  have hl := h.1
  simp at hl
  refine ⟨by omega, ?_⟩
  rcases h.2 with ⟨h2, _⟩ | ⟨g', cap', cur, hv, h3, hg, h4, h5, h6, h7⟩
  · cases h2
  · simp at hv
    obtain ⟨rfl, rfl⟩ := hv
    refine .inr ⟨g, cap, cur, rfl, h3, hg, by omega, h5, h6, ?_⟩
    have := congrArg (List.take n) h7
    rw [List.take_take] at this
    simpa [hl] using this
theorem rowCell {w : World} {e size n g cap : Nat} {xs : List Value} (h : w.ownsRow 0 e size (.slice (some ⟨g, 0, none⟩) n cap) n xs) (j : Nat) (u : Value) (hj : xs[j]? = some u) : w.cell? ⟨g, j, none⟩ = some u := by
  have := h.cells (g := g) rfl j u hj
  cases j <;> simpa [Addr.add] using this
theorem rowFree {w : World} {e size n g cap : Nat} {xs : List Value} (h : w.ownsRow 0 e size (.slice (some ⟨g, 0, none⟩) n cap) n xs) (j : Nat) : w.frozen? ⟨g, j, none⟩ = false := by
  rcases h.2 with ⟨h2, _⟩ | ⟨g', cap', cur, hv, h3, hg, h4⟩
  · cases h2
  · simp at hv
    obtain ⟨rfl, rfl⟩ := hv
    simp [World.frozen?, hg]

/-- a parser's cells -/
def psCells (s : Ps) (vi vo vt vm : Value) : Array Value :=
  #[.int .i64 (s.depth : Int), .int .i64 (s.came : Int), .int .i64 0, .bool false, .int .i64 (s.st : Int), vi, vo, .string (ofL s.word),
    .int .i64 (s.tok.st : Int), .bool s.tok.neg, vt, .int .i64 s.tok.P, .int .i64 (s.tok.pw : Int), .bool s.tok.pn,
    .int .i64 (s.tx.st : Int), vm, .int .i64 (s.tx.lack : Int), .int .u8 (s.tx.lo : Int), .int .u8 (s.tx.hi : Int), .int .i64 (s.tx.dg : Int), .int .i32 (s.tx.code : Int), .int .i32 (s.tx.high : Int)]

/-- a parser in memory -/
structure PR (B : Nat) (w : World) (vi vo vt vm : Value) (s : Ps) : Prop where
  blk : w.heap[B]? = some (.cells (psCells s vi vo vt vm) 75 (0, 0))
  oi : w.ownsRow 0 81 4 vi s.items.length (itsV s.items)
  oo : w.ownsRow 0 3 1 vo s.opn.length (opV s.opn)
  ot : w.ownsRow 0 5 1 vt s.tok.D.length (bs s.tok.D)
  om : w.ownsRow 0 5 1 vm s.tx.made.length (us s.tx.made)
  one : vt.ownBlock = none ∨ vm.ownBlock = none
/-- the blocks that are a parser's own -/
def own (B : Nat) (vi vo vt vm : Value) (i : Nat) : Prop := i = B ∨ vi.ownBlock = some i ∨ vo.ownBlock = some i ∨ vt.ownBlock = some i ∨ vm.ownBlock = some i
/-- what has become of a parser's memory -/
structure PC (B : Nat) (S : Nat → Prop) (w0 : World) (vi vo vt vm : Value) (W : World) (s : Ps) : Prop where
  pr : PR B W vi vo vt vm s
  fr : Fr S w0 W
  ow : ∀ i, own B vi vo vt vm i → S i ∨ w0.heap.size ≤ i
theorem PC.start {B : Nat} {vi vo vt vm : Value} {w : World} {s : Ps} (h : PR B w vi vo vt vm s) : PC B (own B vi vo vt vm) w vi vo vt vm w s := ⟨h, Fr.refl _ _, fun _ h => .inl h⟩
/-- no digits and no text are kept -/
def Nn (vt vm : Value) : Prop := vt.ownBlock = none ∧ vm.ownBlock = none
/-- digits are kept within a token alone, a text's bytes within a text alone -/
def Qv (s : Ps) (vt vm : Value) : Prop := (s.st ≠ 7 → vt.ownBlock = none) ∧ (s.st ≠ 8 → s.st ≠ 9 → vm.ownBlock = none)
theorem Nn.q {vt vm : Value} (h : Nn vt vm) (s : Ps) : Qv s vt vm := ⟨fun _ => h.1, fun _ _ => h.2⟩
def PSt (B : Nat) (S : Nat → Prop) (w w' : World) (s' : Ps) : Prop := ∃ vi vo vt vm, PC B S w vi vo vt vm w' s' ∧ Qv s' vt vm

theorem PC.drew {B : Nat} {S : Nat → Prop} {w0 W : World} {vi vo vt vm : Value} {s : Ps} (h : PC B S w0 vi vo vt vm W s) : PC B S w0 vi vo vt vm W.drew s := ⟨⟨h.pr.blk, h.pr.oi, h.pr.oo, h.pr.ot, h.pr.om, h.pr.one⟩, h.fr.drew, h.ow⟩

/-- a cell of the parser's own block is written -/
theorem PC.cell {B : Nat} {S : Nat → Prop} {w0 W : World} {vi vo vt vm : Value} {s : Ps} (h : PC B S w0 vi vo vt vm W s) (j : Nat) (u : Value) (s' : Ps) (hc : (psCells s vi vo vt vm).setIfInBounds j u = psCells s' vi vo vt vm)
    (h1 : s'.items = s.items) (h2 : s'.opn = s.opn) (h3 : s'.tok.D = s.tok.D) (h4 : s'.tx.made = s.tx.made) : PC B S w0 vi vo vt vm (W.setCell ⟨B, j, none⟩ u) s' := by
  obtain ⟨⟨a, b, c, d, e, f⟩, g, k⟩ := h
  refine ⟨⟨?_, ?_, ?_, ?_, ?_, f⟩, g.setCell (k B (.inl rfl)) _, k⟩
  · rw [← hc]; exact heap_setCell_same W B j _ 75 u a
  · rw [h1]; exact rowSetOther b (rowT b a (by decide)) u
  · rw [h2]; exact rowSetOther c (rowT c a (by decide)) u
  · rw [h3]; exact rowSetOther d (rowT d a (by decide)) u
  · rw [h4]; exact rowSetOther e (rowT e a (by decide)) u
end Go.Proofs.Ytmkkibaacclhnaa
