/-
  A step of the walk, the part named Wa. No theorem of the row.
-/
import Derived.Test.YtmkkibaacclhnaaGreatDoorPe
import Derived.Deep.RegionHeld3
import Derived.Deep.RegionLaw
import Derived.RegionDies
import Derived.Deep.DeepCutAuto
import Derived.Laws.BitsAllLaws
import Derived.Test.YtmkkibaacclhnaaGreatDoorStr
import Derived.Shelf.RegionOpenPlain
namespace Go.Proofs.YtmkkibaacclhnaaGreatDoor
open Go.RowKit

def itCells (x : It) : List Value := [.int .i64 (x.k : Int), .int .i64 (x.n : Int), .int .u64 (x.b : Int), .string (ofL x.s)]
/-- items as they lie in memory -/
def itsV (l : List It) : List Value := l.flatMap itCells
def opV (l : List Nat) : List Value := l.map (fun i : Nat => Value.int .i64 (i : Int))
theorem itsV_modify (l : List It) (i : Nat) (x : It) (hi : l[i]? = some x) : itsV (l.modify i (fun x => ⟨x.k, x.n + 1, x.b, x.s⟩)) = (itsV l).set (i * 4 + 1) (.int .i64 ((x.n + 1 : Nat) : Int)) := by
  induction l generalizing i with
  | nil => simp at hi
  | cons y l ih =>
    have e : ∀ z r, itsV (z :: r) = itCells z ++ itsV r := fun _ _ => rfl
    cases i with
    | zero =>
      simp at hi
      subst hi
      rw [List.modify_zero_cons, e, e]
      rfl
    | succ i =>
      rw [List.modify_succ_cons, e, e, ih i (by simpa using hi), show (i + 1) * 4 + 1 = (itCells y).length + (i * 4 + 1) by show _ = 4 + _; omega, List.set_append, if_neg (by omega), Nat.add_sub_cancel_left]
/-- rows and other blocks -/
theorem rowT {w : World} {base e size n : Nat} {v : Value} {xs : List Value} {B T : Nat} {a : Array Value} (h : w.ownsRow base e size v n xs) (hB : w.heap[B]? = some (.cells a T (0, 0))) (hT : T ≠ e) : v.ownBlock ≠ some B := by
  intro he
  rcases h.2 with ⟨rfl, _⟩ | ⟨g, cap, cur, rfl, _, hg, _⟩
  · simp [Value.ownBlock] at he
  · simp [Value.ownBlock] at he
    subst he
    rw [hg] at hB
    simp at hB
    exact hT hB.2.symm
theorem rowFr {S : Nat → Prop} {w w' : World} {base e size n : Nat} {v : Value} {xs : List Value} (h : w.ownsRow base e size v n xs) (hF : Fr S w w') (hS : ∀ i, v.ownBlock = some i → ¬ S i) : w'.ownsRow base e size v n xs := by
  refine ⟨h.1, ?_⟩
  rcases h.2 with h2 | ⟨g, cap, cur, hv, h3, hg, h4⟩
  · exact .inl h2
  · exact .inr ⟨g, cap, cur, hv, h3, hF.heap hg (hS g (by rw [hv]; rfl)), h4⟩
theorem rowSetOther {w : World} {base e size n : Nat} {v : Value} {xs : List Value} (h : w.ownsRow base e size v n xs) {a : Addr} (ha : v.ownBlock ≠ some a.block) (u : Value) : (w.setCell a u).ownsRow base e size v n xs := by
  refine ⟨h.1, ?_⟩
  rcases h.2 with h2 | ⟨g, cap, cur, hv, h3, hg, h4⟩
  · exact .inl h2
  · refine .inr ⟨g, cap, cur, hv, h3, ?_, h4⟩
    rw [Below.heap_setCell w a u g (by intro e; apply ha; rw [hv, ← e]; rfl)]
    exact hg
/-- one cell of a row is written -/
theorem rowSet {w : World} {e size n g cap : Nat} {xs : List Value} (h : w.ownsRow 0 e size (.slice (some ⟨g, 0, none⟩) n cap) n xs) (j : Nat) (u : Value) : (w.setCell ⟨g, j, none⟩ u).ownsRow 0 e size (.slice (some ⟨g, 0, none⟩) n cap) n (xs.set j u) := by
  refine ⟨by rw [List.length_set]; exact h.1, ?_⟩
  rcases h.2 with ⟨h2, _⟩ | ⟨g', cap', cur, hv, h3, hg, h4, h5, h6, h7⟩
  · cases h2
  · simp at hv
    obtain ⟨rfl, rfl⟩ := hv
    refine .inr ⟨g, cap, cur.setIfInBounds j u, rfl, h3, heap_setCell_same w g j cur e u hg, h4, h5, by simpa using h6, ?_⟩
    rw [← h7, Array.toList_setIfInBounds, List.take_set]
theorem rowCell {w : World} {e size n g cap : Nat} {xs : List Value} (h : w.ownsRow 0 e size (.slice (some ⟨g, 0, none⟩) n cap) n xs) (j : Nat) (u : Value) (hj : xs[j]? = some u) : w.cell? ⟨g, j, none⟩ = some u := by
  have := h.cells (g := g) rfl j u hj
  cases j <;> simpa [Addr.add] using this
theorem rowFree {w : World} {e size n g cap : Nat} {xs : List Value} (h : w.ownsRow 0 e size (.slice (some ⟨g, 0, none⟩) n cap) n xs) (j : Nat) : w.frozen? ⟨g, j, none⟩ = false := by
  rcases h.2 with ⟨h2, _⟩ | ⟨g', cap', cur, hv, h3, hg, h4⟩
  · cases h2
  · simp at hv
    obtain ⟨rfl, rfl⟩ := hv
    simp [World.frozen?, hg]
/-- a parser's cells -/
def psCells (s : Ps) (vi vo vt vm : Value) : Array Value :=
  #[.int .i64 (s.depth : Int), .int .i64 (s.came : Int), .int .i64 0, .bool false, .int .i64 (s.st : Int), vi, vo, .string (ofL s.word),
    .int .i64 (s.tok.st : Int), .bool s.tok.neg, vt, .int .i64 s.tok.P, .int .i64 (s.tok.pw : Int), .bool s.tok.pn,
    .int .i64 (s.tx.st : Int), vm, .int .i64 (s.tx.lack : Int), .int .u8 (s.tx.lo : Int), .int .u8 (s.tx.hi : Int), .int .i64 (s.tx.dg : Int), .int .i32 (s.tx.code : Int), .int .i32 (s.tx.high : Int)]
/-- a parser in memory -/
structure PR (B : Nat) (w : World) (vi vo vt vm : Value) (s : Ps) : Prop where
  blk : w.heap[B]? = some (.cells (psCells s vi vo vt vm) 113 (0, 0))
  oi : w.ownsRow 0 29 4 vi s.items.length (itsV s.items)
  oo : w.ownsRow 0 3 1 vo s.opn.length (opV s.opn)
  ot : w.ownsRow 0 5 1 vt s.tok.D.length (bs s.tok.D)
  om : w.ownsRow 0 5 1 vm s.tx.made.length (us s.tx.made)
  one : vt.ownBlock = none ∨ vm.ownBlock = none
/-- the blocks that are a parser's own -/
def own (B : Nat) (vi vo vt vm : Value) (i : Nat) : Prop := i = B ∨ vi.ownBlock = some i ∨ vo.ownBlock = some i ∨ vt.ownBlock = some i ∨ vm.ownBlock = some i
/-- what has become of a parser's memory -/
structure PC (B : Nat) (S : Nat → Prop) (w0 : World) (vi vo vt vm : Value) (W : World) (s : Ps) : Prop where
  pr : PR B W vi vo vt vm s
  fr : Fr S w0 W
  ow : ∀ i, own B vi vo vt vm i → S i ∨ w0.heap.size ≤ i
theorem PC.start {B : Nat} {vi vo vt vm : Value} {w : World} {s : Ps} (h : PR B w vi vo vt vm s) : PC B (own B vi vo vt vm) w vi vo vt vm w s := ⟨h, Fr.refl _ _, fun _ h => .inl h⟩
/-- no digits and no text are kept -/
def Nn (vt vm : Value) : Prop := vt.ownBlock = none ∧ vm.ownBlock = none
/-- digits are kept within a token alone, a text's bytes within a text alone -/
def Qv (s : Ps) (vt vm : Value) : Prop := (s.st ≠ 7 → vt.ownBlock = none) ∧ (s.st ≠ 8 → s.st ≠ 9 → vm.ownBlock = none)
theorem Nn.q {vt vm : Value} (h : Nn vt vm) (s : Ps) : Qv s vt vm := ⟨fun _ => h.1, fun _ _ => h.2⟩
def PSt (B : Nat) (S : Nat → Prop) (w w' : World) (s' : Ps) : Prop := ∃ vi vo vt vm, PC B S w vi vo vt vm w' s' ∧ Qv s' vt vm
theorem PC.drew {B : Nat} {S : Nat → Prop} {w0 W : World} {vi vo vt vm : Value} {s : Ps} (h : PC B S w0 vi vo vt vm W s) : PC B S w0 vi vo vt vm W.drew s := ⟨⟨h.pr.blk, h.pr.oi, h.pr.oo, h.pr.ot, h.pr.om, h.pr.one⟩, h.fr.drew, h.ow⟩
/-- a cell of the parser's own block is written -/
theorem PC.cell {B : Nat} {S : Nat → Prop} {w0 W : World} {vi vo vt vm : Value} {s : Ps} (h : PC B S w0 vi vo vt vm W s) (j : Nat) (u : Value) (s' : Ps) (hc : (psCells s vi vo vt vm).setIfInBounds j u = psCells s' vi vo vt vm)
    (h1 : s'.items = s.items) (h2 : s'.opn = s.opn) (h3 : s'.tok.D = s.tok.D) (h4 : s'.tx.made = s.tx.made) : PC B S w0 vi vo vt vm (W.setCell ⟨B, j, none⟩ u) s' := by
  obtain ⟨⟨a, b, c, d, e, f⟩, g, k⟩ := h
  refine ⟨⟨?_, ?_, ?_, ?_, ?_, f⟩, g.setCell (k B (.inl rfl)) _, k⟩
  · rw [← hc]; exact heap_setCell_same W B j _ 113 u a
  · rw [h1]; exact rowSetOther b (rowT b a (by decide)) u
  · rw [h2]; exact rowSetOther c (rowT c a (by decide)) u
  · rw [h3]; exact rowSetOther d (rowT d a (by decide)) u
  · rw [h4]; exact rowSetOther e (rowT e a (by decide)) u
end Go.Proofs.YtmkkibaacclhnaaGreatDoor

namespace Go.Proofs.YtmkkibaacclhnaaGreatDoor
open Go.RowKit

theorem us_one (c : UInt8) : us [c] = [.int .u8 ((c.toNat : Nat) : Int)] := rfl
end Go.Proofs.YtmkkibaacclhnaaGreatDoor

namespace Go.Proofs.YtmkkibaacclhnaaGreatDoor
open Go.RowKit

theorem row_shape3 {w : World} {base e size n : Nat} {v : Value} {xs : List Value} (h : w.ownsRow base e size v n xs) : ∃ a m c, v = .slice a m c := by
  rcases h.2 with ⟨h, _⟩ | ⟨g, c, cur, h, _⟩
  · exact ⟨_, _, _, h⟩
  · exact ⟨_, _, _, h⟩
end Go.Proofs.YtmkkibaacclhnaaGreatDoor

namespace Go.Proofs.YtmkkibaacclhnaaGreatDoor
open Go.RowKit

theorem TrErr.same {B o T : Nat} {cs : Array Value} {v : Value} {t : Tr} {w w' : World} (h : TrAt 0 w B o T cs v t) (hF : Fr (fun _ => False) w w') : TrErr B o T cs v w w' :=
  ⟨cs, hF.heap h.1 id, ApartR.refl _ _, hF.mono (fun _ h => h.elim)⟩
end Go.Proofs.YtmkkibaacclhnaaGreatDoor

namespace Go.Proofs.YtmkkibaacclhnaaGreatDoor
open Go.RowKit

theorem ApartR.trans {o : Nat} {a b c : Array Value} (h : ApartR o a b) (k : ApartR o b c) : ApartR o a c := ⟨k.1.trans h.1, fun j hj => (k.2 j hj).trans (h.2 j hj)⟩
theorem TrR.trans {base B o T : Nat} {cs0 cs : Array Value} {v0 v : Value} {w0 W w' : World} {t t' : Tr} (h : TrR base B o T cs0 v0 w0 cs v W t) (k : TrPost base B o T cs v W w' t') : TrPost base B o T cs0 v0 w0 w' t' := by
  obtain ⟨cs', v', k⟩ := k
  have hs := h.fr.size
  refine ⟨cs', v', k.is, h.ap.trans k.ap, h.fr.trans' k.fr ?_, ?_⟩
  · intro i hi
    rcases hi with hi | hi
    · exact .inl (.inl hi)
    · rcases h.ow i hi with h | h
      · exact .inl (.inr h)
      · exact .inr h
  · intro g hg
    rcases k.ow g hg with h1 | h1
    · exact h.ow g h1
    · exact .inr (by omega)
end Go.Proofs.YtmkkibaacclhnaaGreatDoor

namespace Go.Proofs.YtmkkibaacclhnaaGreatDoor
open Go.RowKit

theorem rowNe {w : World} {e1 e2 s1 s2 n m : Nat} {v u : Value} {xs ys : List Value} (h : w.ownsRow 0 e1 s1 v n xs) (k : w.ownsRow 0 e2 s2 u m ys) (he : e1 ≠ e2) : v.ownBlock = none ∨ v.ownBlock ≠ u.ownBlock := by
  rcases h.2 with ⟨rfl, _⟩ | ⟨g, cap, cur, rfl, _, hg, _⟩
  · exact .inl rfl
  · right
    intro e
    exact rowT k hg he e.symm
end Go.Proofs.YtmkkibaacclhnaaGreatDoor

namespace Go.Proofs.YtmkkibaacclhnaaGreatDoor
open Go.RowKit

/-- an item's count is one more -/
theorem PC.bump {B : Nat} {S : Nat → Prop} {w0 W : World} {gi n cap : Nat} {vo vt vm : Value} {s : Ps} (i : Nat) (x : It) (h : PC B S w0 (.slice (some ⟨gi, 0, none⟩) n cap) vo vt vm W s) (hi : s.items[i]? = some x) :
    PC B S w0 (.slice (some ⟨gi, 0, none⟩) n cap) vo vt vm (W.setCell ⟨gi, i * 4 + 1, none⟩ (.int .i64 ((x.n + 1 : Nat) : Int))) ⟨s.depth, s.came, s.st, s.items.modify i (fun x => ⟨x.k, x.n + 1, x.b, x.s⟩), s.opn, s.word, s.tok, s.tx⟩ := by
  obtain ⟨⟨a, b, c, d, e, f⟩, g, k⟩ := h
  have hgB : gi ≠ B := fun h => rowT b a (show 113 ≠ 29 by decide) (by rw [← h]; rfl)
  have hn : n = s.items.length := by
    rcases b.2 with ⟨h, _⟩ | ⟨_, _, _, h, _⟩
    · cases h
    · simp at h; exact h.2.1
  subst hn
  have hother : ∀ {e2 s2 m : Nat} {v : Value} {ys : List Value}, e2 ≠ 29 → W.ownsRow 0 e2 s2 v m ys → v.ownBlock ≠ some gi := fun he hv => by
    rcases rowNe hv b he with h | h
    · rw [h]; simp
    · exact h
  refine ⟨⟨?_, ?_, ?_, ?_, ?_, f⟩, ?_, k⟩
  · show (W.setCell ⟨gi, i * 4 + 1, none⟩ _).heap[B]? = _
    rw [Below.heap_setCell W ⟨gi, i * 4 + 1, none⟩ _ B (fun e => hgB e.symm)]
    exact a
  · show (W.setCell ⟨gi, i * 4 + 1, none⟩ _).ownsRow 0 29 4 _ (s.items.modify i _).length (itsV (s.items.modify i _))
    rw [itsV_modify s.items i x hi, List.length_modify]
    exact rowSet b (i * 4 + 1) _
  · exact rowSetOther c (hother (by decide) c) _
  · exact rowSetOther d (hother (by decide) d) _
  · exact rowSetOther e (hother (by decide) e) _
  · exact g.setCell (k gi (.inr (.inl rfl))) _
/-- what every array or object that has not ended is -/
def OpnOk (s : Ps) : Prop := ∀ i ∈ s.opn, ∃ x, s.items[i]? = some x ∧ x.n ≤ 10000000
theorem PC.trans {B : Nat} {S : Nat → Prop} {w0 W w' : World} {vi vo vt vm : Value} {s s' : Ps} (h : PC B S w0 vi vo vt vm W s) (k : PSt B (own B vi vo vt vm) W w' s') : PSt B S w0 w' s' := by
  obtain ⟨ui, uo, ut, um, k, kq⟩ := k
  have hs := h.fr.size
  refine ⟨ui, uo, ut, um, ⟨k.pr, h.fr.trans' k.fr h.ow, ?_⟩, kq⟩
  intro i hi
  rcases k.ow i hi with h1 | h1
  · exact h.ow i h1
  · exact .inr (by omega)
end Go.Proofs.YtmkkibaacclhnaaGreatDoor

namespace Go.Proofs.YtmkkibaacclhnaaGreatDoor
open Go.RowKit

/-- of a parser that gave up only the place is of use -/
def PErr (B came : Nat) (S : Nat → Prop) (w w' : World) : Prop := ∃ cs, w'.heap[B]? = some (.cells cs 113 (0, 0)) ∧ cs.size = 22 ∧ cs[1]? = some (.int .i64 (came : Int)) ∧ Fr S w w'
end Go.Proofs.YtmkkibaacclhnaaGreatDoor

namespace Go.Proofs.YtmkkibaacclhnaaGreatDoor
open Go.RowKit

theorem slice_len {w : World} {e n k cap : Nat} {a : Option Addr} {size : Nat} {xs : List Value} (h : w.ownsRow 0 e size (.slice a n cap) k xs) : n = k := by
  rcases h.2 with ⟨h, h2⟩ | ⟨_, _, _, h, _⟩
  · simp at h; omega
  · simp at h; exact h.2.1
theorem row_some {w : World} {e n k cap : Nat} {a : Option Addr} {size : Nat} {xs : List Value} (h : w.ownsRow 0 e size (.slice a n cap) k xs) (hk : 0 < k) : ∃ g, a = some ⟨g, 0, none⟩ := by
  rcases h.2 with ⟨_, h2⟩ | ⟨g, _, _, h, _⟩
  · omega
  · simp at h; exact ⟨g, h.1⟩
end Go.Proofs.YtmkkibaacclhnaaGreatDoor

namespace Go.Proofs.YtmkkibaacclhnaaGreatDoor
open Go.RowKit

def encN (i : Nat) : Value := .int .i64 (i : Int)
/-- a list of places in a row of one's own -/
structure DR (w0 w : World) (blk n cap : Nat) (xs : List Nat) : Prop where
  fr : Fr (fun i => i = blk) w0 w
  row : w.ownsRow 0 3 1 (.slice (some ⟨blk, 0, none⟩) n cap) n (xs.map encN)
theorem DR.len {w0 w : World} {blk n cap : Nat} {xs : List Nat} (h : DR w0 w blk n cap xs) : xs.length = n := by
  have := h.row.1
  simpa using this
theorem DR.drewN {w0 w : World} {blk n cap : Nat} {xs : List Nat} (h : DR w0 w blk n cap xs) (k : Nat) : DR w0 (w.drewN k) blk n cap xs := ⟨h.fr.drewN k, h.row⟩
theorem DR.drew {w0 w : World} {blk n cap : Nat} {xs : List Nat} (h : DR w0 w blk n cap xs) : DR w0 w.drew blk n cap xs := ⟨h.fr.drew, h.row⟩
theorem DR.cell {w0 w : World} {blk n cap : Nat} {xs : List Nat} (h : DR w0 w blk n cap xs) (j x : Nat) (hj : xs[j]? = some x) : w.cell? ⟨blk, j, none⟩ = some (.int .i64 (x : Int)) :=
  rowCell h.row j _ (by rw [List.getElem?_map, hj]; rfl)
theorem DR.free {w0 w : World} {blk n cap : Nat} {xs : List Nat} (h : DR w0 w blk n cap xs) (j : Nat) : w.frozen? ⟨blk, j, none⟩ = false := rowFree h.row j
theorem Tryz.mixedR : Tryz.prog.follows Departure.mixedOrders = true := by kernel_rfl
theorem set_swap (P Q R : List Nat) (x y : Nat) : ((P ++ x :: (Q ++ y :: R)).set P.length y).set (P.length + 1 + Q.length) x = P ++ y :: (Q ++ x :: R) := by
  rw [List.set_append_right _ _ (Nat.le_refl _), Nat.sub_self, List.set_cons_zero, List.set_append_right _ _ (by omega), show P.length + 1 + Q.length - P.length = Q.length + 1 by omega, List.set_cons_succ, List.set_append_right _ _ (Nat.le_refl _), Nat.sub_self, List.set_cons_zero]
/-- two of them are changed about: the former one is written first -/
theorem DR.swap {w0 w : World} {blk n cap : Nat} {P Q R : List Nat} {x y : Nat} (h : DR w0 w blk n cap (P ++ x :: (Q ++ y :: R))) (i j : Nat) (hi : i = P.length) (hj : j = P.length + 1 + Q.length) :
    DR w0 ((w.setCell ⟨blk, i, none⟩ (.int .i64 (y : Int))).setCell ⟨blk, j, none⟩ (.int .i64 (x : Int))) blk n cap (P ++ y :: (Q ++ x :: R)) := by
  subst hi hj
  refine ⟨(h.fr.setCell (p := ⟨blk, P.length, none⟩) (.inl rfl) _).setCell (p := ⟨blk, P.length + 1 + Q.length, none⟩) (.inl rfl) _, ?_⟩
  have := rowSet (rowSet h.row P.length (encN y)) (P.length + 1 + Q.length) (encN x)
  rw [← List.map_set, ← List.map_set, set_swap] at this
  exact this
/-- two of them are changed about: the latter one is written first -/
theorem DR.swap' {w0 w : World} {blk n cap : Nat} {P Q R : List Nat} {x y : Nat} (h : DR w0 w blk n cap (P ++ x :: (Q ++ y :: R))) (i j : Nat) (hi : i = P.length) (hj : j = P.length + 1 + Q.length) :
    DR w0 ((w.setCell ⟨blk, j, none⟩ (.int .i64 (x : Int))).setCell ⟨blk, i, none⟩ (.int .i64 (y : Int))) blk n cap (P ++ y :: (Q ++ x :: R)) := by
  subst hi hj
  refine ⟨(h.fr.setCell (p := ⟨blk, P.length + 1 + Q.length, none⟩) (.inl rfl) _).setCell (p := ⟨blk, P.length, none⟩) (.inl rfl) _, ?_⟩
  have := rowSet (rowSet h.row (P.length + 1 + Q.length) (encN x)) P.length (encN y)
  rw [← List.map_set, ← List.map_set, List.set_comm _ _ (by omega), set_swap] at this
  exact this
theorem get_fst (P Q : List Nat) (x : Nat) : (P ++ x :: Q)[P.length]? = some x := by
  rw [List.getElem?_append_right (Nat.le_refl _), Nat.sub_self]; rfl
theorem get_snd (P Q R : List Nat) (x y : Nat) : (P ++ x :: (Q ++ y :: R))[P.length + 1 + Q.length]? = some y := by
  rw [List.getElem?_append_right (by omega), show P.length + 1 + Q.length - P.length = Q.length + 1 by omega, List.getElem?_cons_succ, List.getElem?_append_right (Nat.le_refl _), Nat.sub_self]; rfl
set_option maxRecDepth 100000 in
set_option maxHeartbeats 16000000 in
theorem swapRange_any (w0 w : World) (blk n cap k : Nat) (X A M B Y : List Nat) (g : Value) (h : DR w0 w blk n cap (X ++ A ++ M ++ B ++ Y)) (hA : A.length = k) (hB : B.length = k) (hn : n ≤ 10000000) :
    Calls Tryz.prog 224 #[.slice (some ⟨blk, 0, none⟩) n cap, .int .i64 (X.length : Int), .int .i64 ((X.length + k + M.length : Nat) : Int), .int .i64 (k : Int), g] w fun e w' => e = .returned (.tuple #[]) ∧ DR w0 w' blk n cap (X ++ B ++ M ++ A ++ Y) := by
  have hlen := h.len
  simp only [List.length_append] at hlen
  have H := hid h
  have HA := hid (And.intro hA hB)
  obtain ⟨a, ha⟩ : ∃ a, X.length = a := ⟨_, rfl⟩
  obtain ⟨b, hb⟩ : ∃ b, X.length + k + M.length = b := ⟨_, rfl⟩
  rw [hb, ha]
  have hbk : b + k ≤ n := by omega
  have hak : a + k ≤ b := by omega
  have HH := hid (And.intro ha hb)
  clear h hA hB hlen ha hb
  go_enter Tryz.func224, Tryz.ntmps224
  go_wp2
  go_loopw [10] (fun s wr => ∃ (i : Nat) (A1 A2 B1 B2 : List Nat), i ≤ k ∧ s = .int .i64 (i : Int) ∧ Hid (A = A1 ++ A2 ∧ B = B1 ++ B2 ∧ A1.length = i ∧ B1.length = i) ∧ Hid (DR w0 wr blk n cap (X ++ B1 ++ A2 ++ M ++ A1 ++ B2 ++ Y))) (fun s _ => k - (intOf s).toNat)
  case atStart => exact ⟨0, [], A, [], B, by omega, rfl, hid ⟨rfl, rfl, rfl, rfl⟩, by simpa using H⟩
  case round =>
    obtain ⟨i, A1, A2, B1, B2, hi, rfl, hS, hD⟩ := hrel
    by_cases hlt : i < k
    · obtain ⟨x, A3, hA2⟩ : ∃ x A3, A2 = x :: A3 := by
        cases A2 with
        | nil => have h1 := hS.out; have h2 := HA.out; simp at h1; rw [h1.1] at h2; omega
        | cons x A3 => exact ⟨x, A3, rfl⟩
      obtain ⟨y, B3, hB2⟩ : ∃ y B3, B2 = y :: B3 := by
        cases B2 with
        | nil => have h1 := hS.out; have h2 := HA.out; simp at h1; rw [h1.2.1] at h2; omega
        | cons x A3 => exact ⟨x, A3, rfl⟩
      subst hA2 hB2
      have hd : DR w0 wr blk n cap ((X ++ B1) ++ x :: ((A3 ++ M ++ A1) ++ y :: (B3 ++ Y))) := by simpa using hD.out
      have e1 : (X ++ B1).length = a + i := by have h1 := hS.out; have h2 := HH.out; rw [List.length_append]; omega
      have e2 : (X ++ B1).length + 1 + (A3 ++ M ++ A1).length = b + i := by
        have h1 := hS.out
        have h2 := HH.out
        have h3 := HA.out
        have h4 := congrArg List.length h1.1
        simp only [List.length_append, List.length_cons] at h4 ⊢
        omega
      obtain ⟨p, hp⟩ : ∃ p, a + i = p := ⟨_, rfl⟩
      obtain ⟨q, hq⟩ : ∃ q, b + i = q := ⟨_, rfl⟩
      rw [hp] at e1
      rw [hq] at e2
      have c1 := hd.cell p x (by rw [← e1]; exact get_fst _ _ _)
      have c2 := hd.cell q y (by rw [← e2]; exact get_snd _ _ _ _ _)
      have f1 := hd.free p
      have f2 := hd.free q
      have pi : (a : Int) + (i : Int) = (p : Int) := by omega
      have qi : (b : Int) + (i : Int) = (q : Int) := by omega
      have wp1 : IntKind.i64.wrap ((a : Int) + (i : Int)) = (p : Int) := by rw [pi]; exact IntWalk.i64_in _ (by omega)
      have wq1 : IntKind.i64.wrap ((b : Int) + (i : Int)) = (q : Int) := by rw [qi]; exact IntWalk.i64_in _ (by omega)
      have hpn : p < n := by omega
      have hqn : q < n := by omega
      have hpz : (p : Int) < (n : Int) := by omega
      have hqz : (q : Int) < (n : Int) := by omega
      have S1 := hid (hd.swap p q e1.symm e2.symm)
      have S2 := hid (hd.swap' p q e1.symm e2.symm)
      have c3 : (wr.setCell ⟨blk, p, none⟩ (.int .i64 (y : Int))).cell? ⟨blk, q, none⟩ = some (.int .i64 (y : Int)) := by
        rw [World.cell?_setCell_other _ _ _ _ (by intro e; simp only [Addr.mk.injEq] at e; omega)]; exact c2
      have f3 : (wr.setCell ⟨blk, p, none⟩ (.int .i64 (y : Int))).frozen? ⟨blk, q, none⟩ = false := by rw [World.frozen?_setCell]; exact f2
      have mixed := Tryz.mixedR
      have HE := hid (And.intro e1 e2)
      clear hd e1 e2 hp hq hi
      go_wp2
      go_big_region_o
      go_wp2
      go_roundw
      case rel =>
        refine ⟨i + 1, A1 ++ [x], A3, B1 ++ [y], B3, by omega, by go_num, hid ?_, hid ?_⟩
        · have h1 := hS.out
          simp [h1.1, h1.2.1, h1.2.2.1, h1.2.2.2]
        · have := S1.out.drew
          simpa using this
      case measure => simp [intOf]; omega
    · obtain rfl : i = k := by omega
      go_wp2
      go_end0
      refine ⟨rfl, ?_⟩
      have h1 := hS.out
      have h2 := HA.out
      have e1 : A2 = [] := by
        have := congrArg List.length h1.1
        simp at this
        exact List.eq_nil_of_length_eq_zero (by omega)
      have e2 : B2 = [] := by
        have := congrArg List.length h1.2.1
        simp at this
        exact List.eq_nil_of_length_eq_zero (by omega)
      subst e1 e2
      have h3 := hD.out
      simp at h1
      rw [h1.1, h1.2.1]
      simpa using h3
end Go.Proofs.YtmkkibaacclhnaaGreatDoor
