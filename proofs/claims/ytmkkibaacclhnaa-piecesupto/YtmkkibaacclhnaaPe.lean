/-
  A step of the walk of the parser, the part named Pe: a reader of texts in memory. No theorem of the row.
-/
import Derived.Test.YtmkkibaacclhnaaPd
namespace Go.Proofs.Ytmkkibaacclhnaa
open Go.RowKit

/-- the cells of a reader within a block -/
structure TrIn (cs : Array Value) (o : Nat) (v : Value) (t : Tr) : Prop where
  c0 : cs[o]? = some (.int .i64 (t.st : Int))
  c1 : cs[o + 1]? = some v
  c2 : cs[o + 2]? = some (.int .i64 (t.lack : Int))
  c3 : cs[o + 3]? = some (.int .u8 (t.lo : Int))
  c4 : cs[o + 4]? = some (.int .u8 (t.hi : Int))
  c5 : cs[o + 5]? = some (.int .i64 (t.dg : Int))
  c6 : cs[o + 6]? = some (.int .i32 (t.code : Int))
  c7 : cs[o + 7]? = some (.int .i32 (t.high : Int))
theorem TrIn.size {cs : Array Value} {o : Nat} {v : Value} {t : Tr} (h : TrIn cs o v t) : o + 7 < cs.size := by
  rcases Nat.lt_or_ge (o + 7) cs.size with h1 | h1
  · exact h1
  · have := h.c7
    rw [Array.getElem?_eq_none h1] at this
    cases this
theorem get_setP {cs : Array Value} {j : Nat} {v : Value} (h : j < cs.size) : (cs.setIfInBounds j v)[j]? = some v := by
  rw [Array.getElem?_setIfInBounds, if_pos rfl, if_pos h]

/-- outside of a reader's cells nothing turns -/
def ApartR (o : Nat) (cs cs' : Array Value) : Prop := cs'.size = cs.size ∧ ∀ j, j < o ∨ o + 7 < j → cs'[j]? = cs[j]?
theorem ApartR.refl (o : Nat) (cs : Array Value) : ApartR o cs cs := ⟨rfl, fun _ _ => rfl⟩
theorem ApartR.set {o : Nat} {cs cs' : Array Value} (h : ApartR o cs cs') (i : Nat) (hi : i ≤ 7) (v : Value) : ApartR o cs (cs'.setIfInBounds (o + i) v) :=
  ⟨by rw [Array.size_setIfInBounds]; exact h.1, fun j hj => by rw [set_get_ne (by omega)]; exact h.2 j hj⟩

/-- a reader in memory -/
def TrAt (base : Nat) (w : World) (B o T : Nat) (cs : Array Value) (v : Value) (t : Tr) : Prop :=
  w.heap[B]? = some (.cells cs T (0, 0)) ∧ TrIn cs o v t ∧ w.ownsRow base 5 1 v t.made.length (us t.made)

/-- what has become of a reader's memory -/
structure TrR (base B o T : Nat) (cs0 : Array Value) (v0 : Value) (w0 : World) (cs : Array Value) (v : Value) (W : World) (t : Tr) : Prop where
  is : TrAt base W B o T cs v t
  ap : ApartR o cs0 cs
  fr : Fr (fun i => i = B ∨ v0.ownBlock = some i) w0 W
  ow : ∀ g, v.ownBlock = some g → v0.ownBlock = some g ∨ w0.heap.size ≤ g
theorem TrR.start {base B o T : Nat} {cs : Array Value} {v : Value} {w : World} {t : Tr} (h : TrAt base w B o T cs v t) : TrR base B o T cs v w cs v w t := ⟨h, ApartR.refl _ _, Fr.refl _ _, fun _ h => .inl h⟩

theorem TrR.s0 {base B o T : Nat} {cs0 cs : Array Value} {v0 v : Value} {w0 W : World} {t : Tr} (hT : T ≠ 5) (h : TrR base B o T cs0 v0 w0 cs v W t) (x : Nat) : TrR base B o T cs0 v0 w0 (cs.setIfInBounds (o) (.int .i64 (x : Int))) v (W.setCell ⟨B, o, none⟩ (.int .i64 (x : Int))) ⟨x, t.made, t.lack, t.lo, t.hi, t.dg, t.code, t.high⟩ := by
  obtain ⟨⟨a, b, c⟩, d, e, f⟩ := h
  have hs := b.size
  refine ⟨⟨heap_setCell_same W B (o) cs T _ a, ⟨get_setP (by omega), by rw [set_get_ne (by omega)]; exact b.c1, by rw [set_get_ne (by omega)]; exact b.c2, by rw [set_get_ne (by omega)]; exact b.c3, by rw [set_get_ne (by omega)]; exact b.c4, by rw [set_get_ne (by omega)]; exact b.c5, by rw [set_get_ne (by omega)]; exact b.c6, by rw [set_get_ne (by omega)]; exact b.c7⟩, ownsRow_setCell_other c (a := ⟨B, o, none⟩) (row_other c a hT) _⟩, d.set 0 (by omega) _, e.setCell (.inl (.inl rfl)) _, f⟩
theorem TrR.s2 {base B o T : Nat} {cs0 cs : Array Value} {v0 v : Value} {w0 W : World} {t : Tr} (hT : T ≠ 5) (h : TrR base B o T cs0 v0 w0 cs v W t) (x : Nat) : TrR base B o T cs0 v0 w0 (cs.setIfInBounds (o + 2) (.int .i64 (x : Int))) v (W.setCell ⟨B, o + 2, none⟩ (.int .i64 (x : Int))) ⟨t.st, t.made, x, t.lo, t.hi, t.dg, t.code, t.high⟩ := by
  obtain ⟨⟨a, b, c⟩, d, e, f⟩ := h
  have hs := b.size
  refine ⟨⟨heap_setCell_same W B (o + 2) cs T _ a, ⟨by rw [set_get_ne (by omega)]; exact b.c0, by rw [set_get_ne (by omega)]; exact b.c1, get_setP (by omega), by rw [set_get_ne (by omega)]; exact b.c3, by rw [set_get_ne (by omega)]; exact b.c4, by rw [set_get_ne (by omega)]; exact b.c5, by rw [set_get_ne (by omega)]; exact b.c6, by rw [set_get_ne (by omega)]; exact b.c7⟩, ownsRow_setCell_other c (a := ⟨B, o + 2, none⟩) (row_other c a hT) _⟩, d.set 2 (by omega) _, e.setCell (.inl (.inl rfl)) _, f⟩
theorem TrR.s3 {base B o T : Nat} {cs0 cs : Array Value} {v0 v : Value} {w0 W : World} {t : Tr} (hT : T ≠ 5) (h : TrR base B o T cs0 v0 w0 cs v W t) (x : Nat) : TrR base B o T cs0 v0 w0 (cs.setIfInBounds (o + 3) (.int .u8 (x : Int))) v (W.setCell ⟨B, o + 3, none⟩ (.int .u8 (x : Int))) ⟨t.st, t.made, t.lack, x, t.hi, t.dg, t.code, t.high⟩ := by
  obtain ⟨⟨a, b, c⟩, d, e, f⟩ := h
  have hs := b.size
  refine ⟨⟨heap_setCell_same W B (o + 3) cs T _ a, ⟨by rw [set_get_ne (by omega)]; exact b.c0, by rw [set_get_ne (by omega)]; exact b.c1, by rw [set_get_ne (by omega)]; exact b.c2, get_setP (by omega), by rw [set_get_ne (by omega)]; exact b.c4, by rw [set_get_ne (by omega)]; exact b.c5, by rw [set_get_ne (by omega)]; exact b.c6, by rw [set_get_ne (by omega)]; exact b.c7⟩, ownsRow_setCell_other c (a := ⟨B, o + 3, none⟩) (row_other c a hT) _⟩, d.set 3 (by omega) _, e.setCell (.inl (.inl rfl)) _, f⟩
theorem TrR.s4 {base B o T : Nat} {cs0 cs : Array Value} {v0 v : Value} {w0 W : World} {t : Tr} (hT : T ≠ 5) (h : TrR base B o T cs0 v0 w0 cs v W t) (x : Nat) : TrR base B o T cs0 v0 w0 (cs.setIfInBounds (o + 4) (.int .u8 (x : Int))) v (W.setCell ⟨B, o + 4, none⟩ (.int .u8 (x : Int))) ⟨t.st, t.made, t.lack, t.lo, x, t.dg, t.code, t.high⟩ := by
  obtain ⟨⟨a, b, c⟩, d, e, f⟩ := h
  have hs := b.size
  refine ⟨⟨heap_setCell_same W B (o + 4) cs T _ a, ⟨by rw [set_get_ne (by omega)]; exact b.c0, by rw [set_get_ne (by omega)]; exact b.c1, by rw [set_get_ne (by omega)]; exact b.c2, by rw [set_get_ne (by omega)]; exact b.c3, get_setP (by omega), by rw [set_get_ne (by omega)]; exact b.c5, by rw [set_get_ne (by omega)]; exact b.c6, by rw [set_get_ne (by omega)]; exact b.c7⟩, ownsRow_setCell_other c (a := ⟨B, o + 4, none⟩) (row_other c a hT) _⟩, d.set 4 (by omega) _, e.setCell (.inl (.inl rfl)) _, f⟩
theorem TrR.s5 {base B o T : Nat} {cs0 cs : Array Value} {v0 v : Value} {w0 W : World} {t : Tr} (hT : T ≠ 5) (h : TrR base B o T cs0 v0 w0 cs v W t) (x : Nat) : TrR base B o T cs0 v0 w0 (cs.setIfInBounds (o + 5) (.int .i64 (x : Int))) v (W.setCell ⟨B, o + 5, none⟩ (.int .i64 (x : Int))) ⟨t.st, t.made, t.lack, t.lo, t.hi, x, t.code, t.high⟩ := by
  obtain ⟨⟨a, b, c⟩, d, e, f⟩ := h
  have hs := b.size
  refine ⟨⟨heap_setCell_same W B (o + 5) cs T _ a, ⟨by rw [set_get_ne (by omega)]; exact b.c0, by rw [set_get_ne (by omega)]; exact b.c1, by rw [set_get_ne (by omega)]; exact b.c2, by rw [set_get_ne (by omega)]; exact b.c3, by rw [set_get_ne (by omega)]; exact b.c4, get_setP (by omega), by rw [set_get_ne (by omega)]; exact b.c6, by rw [set_get_ne (by omega)]; exact b.c7⟩, ownsRow_setCell_other c (a := ⟨B, o + 5, none⟩) (row_other c a hT) _⟩, d.set 5 (by omega) _, e.setCell (.inl (.inl rfl)) _, f⟩
theorem TrR.s6 {base B o T : Nat} {cs0 cs : Array Value} {v0 v : Value} {w0 W : World} {t : Tr} (hT : T ≠ 5) (h : TrR base B o T cs0 v0 w0 cs v W t) (x : Nat) : TrR base B o T cs0 v0 w0 (cs.setIfInBounds (o + 6) (.int .i32 (x : Int))) v (W.setCell ⟨B, o + 6, none⟩ (.int .i32 (x : Int))) ⟨t.st, t.made, t.lack, t.lo, t.hi, t.dg, x, t.high⟩ := by
  obtain ⟨⟨a, b, c⟩, d, e, f⟩ := h
  have hs := b.size
  refine ⟨⟨heap_setCell_same W B (o + 6) cs T _ a, ⟨by rw [set_get_ne (by omega)]; exact b.c0, by rw [set_get_ne (by omega)]; exact b.c1, by rw [set_get_ne (by omega)]; exact b.c2, by rw [set_get_ne (by omega)]; exact b.c3, by rw [set_get_ne (by omega)]; exact b.c4, by rw [set_get_ne (by omega)]; exact b.c5, get_setP (by omega), by rw [set_get_ne (by omega)]; exact b.c7⟩, ownsRow_setCell_other c (a := ⟨B, o + 6, none⟩) (row_other c a hT) _⟩, d.set 6 (by omega) _, e.setCell (.inl (.inl rfl)) _, f⟩
theorem TrR.s7 {base B o T : Nat} {cs0 cs : Array Value} {v0 v : Value} {w0 W : World} {t : Tr} (hT : T ≠ 5) (h : TrR base B o T cs0 v0 w0 cs v W t) (x : Nat) : TrR base B o T cs0 v0 w0 (cs.setIfInBounds (o + 7) (.int .i32 (x : Int))) v (W.setCell ⟨B, o + 7, none⟩ (.int .i32 (x : Int))) ⟨t.st, t.made, t.lack, t.lo, t.hi, t.dg, t.code, x⟩ := by
  obtain ⟨⟨a, b, c⟩, d, e, f⟩ := h
  have hs := b.size
  refine ⟨⟨heap_setCell_same W B (o + 7) cs T _ a, ⟨by rw [set_get_ne (by omega)]; exact b.c0, by rw [set_get_ne (by omega)]; exact b.c1, by rw [set_get_ne (by omega)]; exact b.c2, by rw [set_get_ne (by omega)]; exact b.c3, by rw [set_get_ne (by omega)]; exact b.c4, by rw [set_get_ne (by omega)]; exact b.c5, by rw [set_get_ne (by omega)]; exact b.c6, get_setP (by omega)⟩, ownsRow_setCell_other c (a := ⟨B, o + 7, none⟩) (row_other c a hT) _⟩, d.set 7 (by omega) _, e.setCell (.inl (.inl rfl)) _, f⟩
/-- bytes are laid behind those that are made -/
theorem TrR.grow {base B o T : Nat} {cs0 cs : Array Value} {v0 v v' : Value} {w0 W w1 : World} {t : Tr} {ob : Obj} {k : Nat} {xs : List Value} {e : List UInt8} (hT : T ≠ 5) (h : TrR base B o T cs0 v0 w0 cs v W t)
    (hown : w1.ownsRow base 5 1 v' (t.made.length + k) (us t.made ++ xs)) (hg : (W.alloc ob).grownBy w1 v.ownBlock) (hn : ∀ g, v'.ownBlock = some g → v.ownBlock = some g ∨ W.heap.size + 1 ≤ g) (hx : us e = xs) (hk : e.length = k) :
    w1.heap[B]? = some (.cells cs T (0, 0)) ∧ TrR base B o T cs0 v0 w0 (cs.setIfInBounds (o + 1) v') v' (w1.setCell ⟨B, o + 1, none⟩ v') ⟨t.st, t.made ++ e, t.lack, t.lo, t.hi, t.dg, t.code, t.high⟩ := by
  obtain ⟨⟨a, b, c⟩, d, f, ow⟩ := h
  subst hx; subst hk
  have hro := row_other c a hT
  have hBl := lt_of_block a
  have hh : w1.heap[B]? = some (.cells cs T (0, 0)) := by
    rw [hg.block B (by simp; omega) (fun e => hro e.symm), Below.heap_alloc _ _ _ hBl]; exact a
  have hs := b.size
  have hro1 := row_other hown hh hT
  have hfs := f.size
  refine ⟨hh, ⟨heap_setCell_same w1 B (o + 1) cs T v' hh, ⟨by rw [set_get_ne (by omega)]; exact b.c0, get_setP (by omega), by rw [set_get_ne (by omega)]; exact b.c2, by rw [set_get_ne (by omega)]; exact b.c3, by rw [set_get_ne (by omega)]; exact b.c4, by rw [set_get_ne (by omega)]; exact b.c5, by rw [set_get_ne (by omega)]; exact b.c6, by rw [set_get_ne (by omega)]; exact b.c7⟩, ?_⟩, d.set 1 (by omega) _, ?_, ?_⟩
  · have := ownsRow_setCell_other hown (a := ⟨B, o + 1, none⟩) hro1 v'
    rw [us_append, List.length_append]
    exact this
  · refine ((f.alloc ob).trans' (k := (Fr.refl (fun i => v.ownBlock = some i) (W.alloc ob)).grown hg (fun k hk => .inl hk)) ?_).setCell (.inl (.inl rfl)) _
    intro i hi
    rcases ow i hi with h | h
    · exact .inl (.inr h)
    · exact .inr h
  · intro g hg'
    rcases hn g hg' with h | h
    · exact ow g h
    · exact .inr (by omega)

def TrPost (base B o T : Nat) (cs : Array Value) (v : Value) (w w' : World) (t' : Tr) : Prop := ∃ cs' v', TrR base B o T cs v w cs' v' w' t'
/-- of a reader that gave up only the place is of use -/
def TrErr (B o T : Nat) (cs : Array Value) (v : Value) (w w' : World) : Prop := ∃ cs', w'.heap[B]? = some (.cells cs' T (0, 0)) ∧ ApartR o cs cs' ∧ Fr (fun i => i = B ∨ v.ownBlock = some i) w w'
theorem TrR.err {base B o T : Nat} {cs0 cs : Array Value} {v0 v : Value} {w0 W : World} {t : Tr} (h : TrR base B o T cs0 v0 w0 cs v W t) : TrErr B o T cs0 v0 w0 W := ⟨cs, h.is.1, h.ap, h.fr⟩
end Go.Proofs.Ytmkkibaacclhnaa
