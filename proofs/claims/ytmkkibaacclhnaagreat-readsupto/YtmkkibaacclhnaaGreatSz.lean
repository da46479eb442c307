/-
  A step of the walk, the part named Sz. No theorem of the row.
-/
import Derived.Test.YtmkkibaacclhnaaGreatSv
import Derived.Test.YtmkkibaacclhnaaGreatBmy
namespace Go.Proofs.YtmkkibaacclhnaaGreat
open Go.RowKit

def pairCells (a r : Nat) : Array Value := #[.pointer (some ⟨a, 0, none⟩), .pointer (some ⟨r, 0, none⟩)]
set_option maxRecDepth 100000 in
set_option maxHeartbeats 40000000 in
theorem made_no (w : World) (n : Int) (hn : n < 1 ∨ 1000 < n) :
    Calls Tryz.prog 5 #[.int .i64 n] w fun x w' => x = .returned (.tuple #[.pointer none, .bool true]) ∧ w' = w := by
  have H1 := hid (fun w => newParser_no w n hn)
  have H2 := hid (fun w => newRef_no w n hn)
  have H3 := hid (fun e w => num_any e w)
  clear hn
  go_enter Tryz.func5, Tryz.ntmps5
  go_wp2_with (first
    | (go_at_call 11; refine Calls.mono (H1.out _) ?_; rintro x w2 ⟨rfl, rfl⟩)
    | (go_at_call 12; refine Calls.mono (H2.out _) ?_; rintro x w2 ⟨rfl, rfl⟩)
    | (go_at_call 10; refine Calls.mono (H3.out _ _) ?_; rintro x w2 ⟨rfl, rfl⟩)
    | fail)
  go_ret2
  exact ⟨rfl, rfl⟩
set_option maxRecDepth 100000 in
set_option maxHeartbeats 40000000 in
theorem made_yes (w : World) (d : Nat) (h1 : 1 ≤ d) (h2 : d ≤ 1000) :
    Calls Tryz.prog 5 #[.int .i64 (d : Int)] w fun x w' => x = .returned (.tuple #[.pointer (some ⟨w.heap.size + 1 + 1, 0, none⟩), .bool true]) ∧
      w' = ((w.alloc (.cells (psCells (ps0 d) nilS nilS nilS nilS) 83)).alloc (.cells (rpCells d [] false) 85)).alloc (.cells (pairCells w.heap.size (w.heap.size + 1)) 50) := by
  have H1 := hid (fun w => newParser_any d h1 h2 w)
  have H2 := hid (fun w => newRef_yes w d h1 h2)
  have H3 := hid (fun e w => num_any e w)
  generalize hA : (Obj.cells (psCells (ps0 d) nilS nilS nilS nilS) 83 : Obj) = A at *
  generalize hR : (Obj.cells (rpCells d [] false) 85 : Obj) = R at *
  go_enter Tryz.func5, Tryz.ntmps5
  go_wp2_with (first
    | (go_at_call 11; refine Calls.mono (H1.out _) ?_; rintro x w2 ⟨rfl, rfl⟩)
    | (go_at_call 12; refine Calls.mono (H2.out _) ?_; rintro x w2 ⟨rfl, rfl⟩)
    | (go_at_call 10; refine Calls.mono (H3.out _ _) ?_; rintro x w2 ⟨rfl, rfl⟩)
    | fail)
  go_ret2
  exact ⟨by simp, by simp [pairCells]⟩
/-- the document's parser -/
def RAt (B : Nat) (w : World) : Option (Nat × List UInt8) → Prop
  | some (d, l) => w.heap[B]? = some (.cells (rpCells d l false) 85 (0, 0))
  | none => ∃ d l, w.heap[B]? = some (.cells (rpCells d l true) 85 (0, 0))
theorem RAt.keep {B : Nat} {w w' : World} {st : Option (Nat × List UInt8)} (h : RAt B w st) (hk : w'.heap[B]? = w.heap[B]?) : RAt B w' st := by
  cases st with
  | none => obtain ⟨d, l, h⟩ := h; exact ⟨d, l, hk.trans h⟩
  | some x => exact hk.trans h
theorem RAt.ty {B : Nat} {w : World} {st : Option (Nat × List UInt8)} (h : RAt B w st) : ∃ cs, w.heap[B]? = some (.cells cs 85 (0, 0)) := by
  cases st with
  | none => obtain ⟨d, l, h⟩ := h; exact ⟨_, h⟩
  | some x => exact ⟨_, h⟩
/-- two parsers that are fed alike, and the blocks that are theirs -/
structure DAt (C : Nat) (F : Nat → Prop) (w : World) (st : Option (Nat × List UInt8)) (A R : Nat) (FA : Nat → Prop) : Prop where
  blk : w.heap[C]? = some (.cells (pairCells A R) 50 (0, 0))
  pa : PAt A FA w st
  ra : RAt R w st
  sub : ∀ i, FA i → F i
  fr : F R
  fc : F C
  lt : ∀ i, F i → i < w.heap.size
  nr : ¬ FA R
  nc : ¬ FA C
theorem DAt.keep {C : Nat} {F : Nat → Prop} {w w' : World} {st : Option (Nat × List UInt8)} {A R : Nat} {FA : Nat → Prop} (h : DAt C F w st A R FA) (hk : ∀ i, F i → w'.heap[i]? = w.heap[i]?) (hs : w.heap.size ≤ w'.heap.size) : DAt C F w' st A R FA :=
  ⟨(hk C h.fc).trans h.blk, h.pa.keep (fun i hi => hk i (h.sub i hi)) hs, h.ra.keep (hk R h.fr), h.sub, h.fr, h.fc, fun i hi => Nat.lt_of_lt_of_le (h.lt i hi) hs, h.nr, h.nc⟩
theorem DAt.new (w : World) (d : Nat) : DAt (w.heap.size + 1 + 1) (fun i => w.heap.size ≤ i ∧ i < w.heap.size + 3)
    (((w.alloc (.cells (psCells (ps0 d) nilS nilS nilS nilS) 83)).alloc (.cells (rpCells d [] false) 85)).alloc (.cells (pairCells w.heap.size (w.heap.size + 1)) 50)) (some (d, [])) w.heap.size (w.heap.size + 1) (fun i => i = w.heap.size) := by
  have s1 : ∀ (w : World) (o : Obj), (w.alloc o).heap.size = w.heap.size + 1 := fun w o => by simp
  refine ⟨?_, ?_, ?_, ?_, ?_, ?_, ?_, ?_, ?_⟩
  · have := heap_alloc_new ((w.alloc (.cells (psCells (ps0 d) nilS nilS nilS nilS) 83)).alloc (.cells (rpCells d [] false) 85)) (.cells (pairCells w.heap.size (w.heap.size + 1)) 50)
    rw [s1, s1] at this
    exact this
  · refine (PAt.new w d).keep ?_ (by simp only [s1]; omega)
    intro i hi
    subst hi
    rw [Below.heap_alloc _ _ _ (by rw [s1, s1]; omega), Below.heap_alloc _ _ _ (by rw [s1]; omega)]
  · have := heap_alloc_new (w.alloc (.cells (psCells (ps0 d) nilS nilS nilS nilS) 83)) (.cells (rpCells d [] false) 85)
    rw [s1] at this
    show _ = _
    rw [Below.heap_alloc _ _ _ (by rw [s1, s1]; omega)]
    exact this
  · intro i hi; subst hi; omega
  · omega
  · omega
  · intro i hi; rw [s1, s1, s1]; omega
  · show ¬ (w.heap.size + 1 = w.heap.size); omega
  · show ¬ (w.heap.size + 1 + 1 = w.heap.size); omega
end Go.Proofs.YtmkkibaacclhnaaGreat

namespace Go.Proofs.YtmkkibaacclhnaaGreat
open Go.RowKit

/-- an item that bears a number and nothing else -/
def numC (z : Int) : List Value := [.int .i64 z, .int .i64 0, .int .u64 0, .string (ofL [])]
def repC (z : Int) (k : Nat) : List Value := (List.replicate k (numC z)).flatten
theorem repC_length (z : Int) (k : Nat) : (repC z k).length = k * 4 := by
  induction k with
  | zero => rfl
  | succ k ih =>
    have : repC z (k + 1) = numC z ++ repC z k := rfl
    rw [this, List.length_append, ih]
    show 4 + k * 4 = _
    omega
theorem repC_snoc (z : Int) (k : Nat) : repC z k ++ numC z = repC z (k + 1) := by
  induction k with
  | zero => simp [repC]
  | succ k ih =>
    have e : ∀ m, repC z (m + 1) = numC z ++ repC z m := fun _ => rfl
    rw [e k, List.append_assoc, ih, ← e]
theorem repC_get (z : Int) (k i j : Nat) (hi : i < k) (hj : j < 4) : (repC z k)[i * 4 + j]? = (numC z)[j]? := by
  induction k generalizing i with
  | zero => omega
  | succ k ih =>
    have e : repC z (k + 1) = numC z ++ repC z k := rfl
    rw [e]
    have hl : (numC z).length = 4 := rfl
    cases i with
    | zero => rw [List.getElem?_append_left (by omega)]; simp
    | succ i =>
      rw [List.getElem?_append_right (by omega), hl, show (i + 1) * 4 + j - 4 = i * 4 + j by omega]
      exact ih i (by omega)
/-- one more is written over -/
theorem rowOver {w : World} {g n cap : Nat} {its : List It} {z : Int} {k : Nat} {x : It} (h : w.ownsRow 0 59 4 (.slice (some ⟨g, 0, none⟩) n cap) n (repC z k ++ itsV (x :: its))) (o : Nat) (ho : o = k * 4) :
    (w.setCells g o [.int .i64 z, .int .i64 0, .int .u64 0, .string (ofL [])]).ownsRow 0 59 4 (.slice (some ⟨g, 0, none⟩) n cap) n (repC z (k + 1) ++ itsV its) := by
  have := rowSet (rowSet (rowSet (rowSet h o (.int .i64 z)) (o + 1) (.int .i64 0)) (o + 2) (.int .u64 0)) (o + 3) (.string (ofL []))
  have e1 : repC z k ++ itsV (x :: its) = repC z k ++ ([.int .i64 (x.k : Int), .int .i64 (x.n : Int), .int .u64 (x.b : Int), .string (ofL x.s)] ++ itsV its) := rfl
  rw [e1, set4 _ _ _ _ _ _ _ _ _ _ o (by rw [repC_length]; exact ho.symm), ← List.append_assoc] at this
  rw [← repC_snoc]
  exact this
def entV (es : List (Value × Int × Nat)) : List Value := es.flatMap fun e => [e.1, .int .i64 e.2.1]
theorem entV_append (a b : List (Value × Int × Nat)) : entV (a ++ b) = entV a ++ entV b := by simp [entV]
def bookCells (n : Nat) (v : Value) : Array Value := #[.int .i64 (n : Int), v, .slice none 0 0]
/-- the book: of each list that came out: all of it bears its number -/
structure BkAt (b : Nat) (F : Nat → Prop) (w : World) (n : Nat) (v : Value) (es : List (Value × Int × Nat)) : Prop where
  blk : w.heap[b]? = some (.cells (bookCells n v) 31 (0, 0))
  row : w.ownsRow 0 57 2 v es.length (entV es)
  ent : ∀ e, e ∈ es → w.ownsRow 0 59 4 e.1 e.2.2 (repC e.2.1 e.2.2) ∧ ∀ i, e.1.ownBlock = some i → F i
  fb : F b
  fv : ∀ i, v.ownBlock = some i → F i
  lt : ∀ i, F i → i < w.heap.size
theorem BkAt.keep {b : Nat} {F : Nat → Prop} {w w' : World} {n : Nat} {v : Value} {es : List (Value × Int × Nat)} (h : BkAt b F w n v es) (hk : ∀ i, F i → w'.heap[i]? = w.heap[i]?) (hs : w.heap.size ≤ w'.heap.size) : BkAt b F w' n v es :=
  ⟨(hk b h.fb).trans h.blk, rowSame h.row fun i hi => hk i (h.fv i hi), fun e he => ⟨rowSame (h.ent e he).1 fun i hi => hk i ((h.ent e he).2 i hi), (h.ent e he).2⟩, h.fb, h.fv, fun i hi => Nat.lt_of_lt_of_le (h.lt i hi) hs⟩
theorem BkAt.new (w : World) : BkAt w.heap.size (fun i => i = w.heap.size) (w.alloc (.cells (bookCells 0 (.slice none 0 0)) 31)) 0 (.slice none 0 0) [] :=
  ⟨heap_alloc_new w _, ⟨rfl, .inl ⟨rfl, rfl⟩⟩, fun e he => (by cases he), rfl, fun i hi => (by cases hi), fun i hi => (by have hi : i = w.heap.size := hi; subst hi; simp)⟩
end Go.Proofs.YtmkkibaacclhnaaGreat

namespace Go.Proofs.YtmkkibaacclhnaaGreat
open Go.RowKit

theorem entV_get (es : List (Value × Int × Nat)) (i : Nat) (e : Value × Int × Nat) (hi : es[i]? = some e) : (entV es)[i * 2]? = some e.1 ∧ (entV es)[i * 2 + 1]? = some (.int .i64 e.2.1) := by
  induction es generalizing i with
  | nil => simp at hi
  | cons x es ih =>
    have h : entV (x :: es) = x.1 :: .int .i64 x.2.1 :: entV es := rfl
    rw [h]
    cases i with
    | zero => simp at hi; subst hi; exact ⟨rfl, rfl⟩
    | succ i =>
      rw [show (i + 1) * 2 = i * 2 + 1 + 1 by omega, List.getElem?_cons_succ, List.getElem?_cons_succ, List.getElem?_cons_succ, List.getElem?_cons_succ]
      exact ih i (by simpa using hi)
set_option maxRecDepth 100000 in
set_option maxHeartbeats 16000000 in
theorem looks_any (b : Nat) (F : Nat → Prop) (w : World) (n : Nat) (v : Value) (es : List (Value × Int × Nat)) (h : BkAt b F w n v es) (hes : es.length ≤ 10000000) (hen : ∀ e, e ∈ es → e.2.2 ≤ 10000000) :
    Calls Tryz.prog 7 #[.pointer (some ⟨b, 0, none⟩)] w fun x w' => x = .returned (.bool true) ∧ Fr (fun _ => False) w w' := by
  obtain ⟨a, m, cap, rfl⟩ := row_shape3 h.row
  obtain rfl := slice_len h.row
  have H := hid h
  have HEN := hid hen
  clear h hen
  go_enter Tryz.func7, Tryz.ntmps7
  go_wp2
  go_loopw [3] (fun s wr => ∃ k : Nat, k ≤ es.length ∧ s = .int .i64 (k : Int) ∧ Hid (Fr (fun _ => False) w wr)) (fun s _ => es.length - (intOf s).toNat)
  case atStart => exact ⟨0, by omega, rfl, hid (Fr.refl _ _)⟩
  case round =>
    obtain ⟨k, hk, rfl, hF⟩ := hrel
    have hB := H.out.keep (fun i hi => hF.out.block i (H.out.lt i hi) id) hF.out.size
    have k1 := blk_cell hB.blk (show (bookCells n (.slice a es.length cap))[1]? = some (.slice a es.length cap) from rfl)
    have k2 := blk_cell hB.blk (show (bookCells n (.slice a es.length cap))[2]? = some (.slice none 0 0) from rfl)
    by_cases hlt : k < es.length
    · obtain ⟨gv, rfl⟩ := row_some hB.row (by omega)
      obtain ⟨e, he⟩ : ∃ e, es[k]? = some e := ⟨es[k], List.getElem?_eq_getElem hlt⟩
      have hmem : e ∈ es := List.mem_of_getElem? he
      obtain ⟨g1, g2⟩ := entV_get es k e he
      have c0 := rowCell hB.row (k * 2) _ g1
      have c1 := rowCell hB.row (k * 2 + 1) _ g2
      have hq := HEN.out e hmem
      have hrow := (H.out.ent e hmem).1
      have hin := (H.out.ent e hmem).2
      have HLT := hid (fun i hi => H.out.lt i (hin i hi))
      have HBK := hid (fun (wx : World) (hf : Fr (fun _ => False) w wx) => (show wx.cell? ⟨b, 1, none⟩ = some (.slice (some ⟨gv, 0, none⟩) es.length cap) ∧ wx.cell? ⟨gv, k * 2, none⟩ = some e.1 ∧ wx.cell? ⟨gv, k * 2 + 1, none⟩ = some (.int .i64 e.2.1) from by
        have hBx := H.out.keep (fun i hi => hf.block i (H.out.lt i hi) id) hf.size
        exact ⟨blk_cell hBx.blk rfl, rowCell hBx.row (k * 2) _ g1, rowCell hBx.row (k * 2 + 1) _ g2⟩))
      obtain ⟨ev, ez, eq⟩ := e
      obtain ⟨a1, n1, cap1, rfl⟩ := row_shape3 hrow
      obtain rfl := slice_len hrow
      have HROW := hid hrow
      simp only at c0 c1 hq HBK HROW HLT
      clear hB hrow hin g1 g2 he hmem
      go_wp2
      go_loopw [4] (fun s wr2 => ∃ j : Nat, j ≤ n1 ∧ s = .int .i64 (j : Int) ∧ Hid (Fr (fun _ => False) w wr2)) (fun s _ => n1 - (intOf s).toNat)
      case atStart => exact ⟨0, by omega, rfl, hF⟩
      case round =>
        clear k1 k2 c0 c1
        obtain ⟨j, hj, rfl, hF2⟩ := hrel
        obtain ⟨k1, c0, c1⟩ := HBK.out _ hF2.out
        by_cases hjl : j < n1
        · have hr2 := rowSame HROW.out (fun i hi => hF2.out.block i (HLT.out i hi) id)
          obtain ⟨ge, rfl⟩ := row_some hr2 (by omega)
          have d0 := rowCell hr2 (j * 4 + 0) _ (repC_get ez n1 j 0 hjl (by omega))
          have d1 := rowCell hr2 (j * 4 + 1) _ (repC_get ez n1 j 1 hjl (by omega))
          have d2 := rowCell hr2 (j * 4 + 2) _ (repC_get ez n1 j 2 hjl (by omega))
          have d3 := rowCell hr2 (j * 4 + 3) _ (repC_get ez n1 j 3 hjl (by omega))
          simp only [Nat.add_zero] at d0 d1 d2 d3
          rw [show ofL [] = (⟨#[]⟩ : ByteArray) from rfl] at d3
          have HD := hid (fun n => hF2.out.drewN n)
          clear hr2
          go_wp2
          go_quiet (fail)
          go_wp2
          go_roundw
          case rel => exact ⟨j + 1, by omega, by go_num, hid (HD.out _)⟩
          case measure => simp [intOf]; omega
        · obtain rfl : j = n1 := by omega
          go_wp2
          go_roundw
          case rel => exact ⟨k + 1, by omega, by go_num, hF2⟩
          case measure => simp [intOf]; omega
    · obtain rfl : k = es.length := by omega
      have HK := hid (fun (wx : World) (hf : Fr (fun _ => False) w wx) => (show wx.cell? ⟨b, 2, none⟩ = some (.slice none 0 0) from
        blk_cell (H.out.keep (fun i hi => hf.block i (H.out.lt i hi) id) hf.size).blk rfl))
      clear hB
      go_wp2
      go_loopw [5] (fun s wr => s = .int .i64 0 ∧ Hid (Fr (fun _ => False) w wr)) (fun _ _ => 0)
      case atStart => exact ⟨rfl, hF⟩
      case round =>
        clear k1 k2
        obtain ⟨rfl, hF2⟩ := hrel
        have k2 := HK.out _ hF2.out
        go_wp2
        go_ret
        exact ⟨rfl, hF2.out⟩
end Go.Proofs.YtmkkibaacclhnaaGreat

namespace Go.Proofs.YtmkkibaacclhnaaGreat
open Go.RowKit

theorem BkAt.count {b : Nat} {F : Nat → Prop} {w : World} {n m : Nat} {v : Value} {es : List (Value × Int × Nat)} (h : BkAt b F w n v es) : BkAt b F (w.setCell ⟨b, 0, none⟩ (.int .i64 (m : Int))) m v es := by
  obtain ⟨h1, h2, h3, h4, h5, h6⟩ := h
  refine ⟨heap_setCell_same w b 0 _ 31 _ h1, rowSetOther h2 (rowT h2 h1 (by decide)) _, fun e he => ⟨rowSetOther (h3 e he).1 (rowT (h3 e he).1 h1 (by decide)) _, (h3 e he).2⟩, h4, h5, fun i hi => ?_⟩
  rw [World.size_setCell]
  exact h6 i hi
/-- a list is written over, and the book is what it was -/
structure OvAt (b : Nat) (F : Nat → Prop) (w0 w : World) (n : Nat) (v V : Value) (es : List (Value × Int × Nat)) (X len : Nat) (cs : List Value) : Prop where
  bk : BkAt b F w n v es
  row : w.ownsRow 0 59 4 V len cs
  blk : w.heap[X]? = some (.cells #[.int .i64 (-((n : Int))), .int .i64 0, .int .u64 0, .string ⟨#[]⟩] 59 (0, 0))
  fr : Fr (fun i => F i ∨ V.ownBlock = some i) w0 w
  nx : V.ownBlock ≠ some X
  nf : ¬ F X
  sz : w0.heap.size ≤ X
theorem OvAt.start {b : Nat} {F : Nat → Prop} {w0 w : World} {n : Nat} {v V : Value} {es : List (Value × Int × Nat)} {len : Nat} {cs : List Value} (hB : BkAt b F w n v es) (hF : Fr (fun _ => False) w0 w) (hV : w.ownsRow 0 59 4 V len cs) :
    OvAt b F w0 ((w.setCell ⟨b, 0, none⟩ (.int .i64 ((n : Int) + 1))).alloc (.cells #[.int .i64 (-((n : Int) + 1)), .int .i64 0, .int .u64 0, .string ⟨#[]⟩] 59)) (n + 1) v V es w.heap.size len cs := by
  have hc : BkAt b F (w.setCell ⟨b, 0, none⟩ (.int .i64 ((n : Int) + 1))) (n + 1) v es := hB.count (m := n + 1)
  have hr := rowSetOther hV (a := ⟨b, 0, none⟩) (rowT hV hB.blk (by decide)) (.int .i64 ((n : Int) + 1))
  refine ⟨hc.keep (fun i hi => Below.heap_alloc _ _ _ (hc.lt i hi)) (by simp), rowSame hr (fun i hi => Below.heap_alloc _ _ _ (rowIn hr hi)), ?_, ((hF.mono (fun i hi => hi.elim)).setCell (p := ⟨b, 0, none⟩) (.inl (.inl hB.fb)) _).alloc _, ?_, ?_, hF.size⟩
  · have := heap_alloc_new (w.setCell ⟨b, 0, none⟩ (.int .i64 ((n : Int) + 1))) (.cells #[.int .i64 (-((n : Int) + 1)), .int .i64 0, .int .u64 0, .string ⟨#[]⟩] 59)
    rw [World.size_setCell] at this
    exact this
  · intro e
    have := rowIn hV e
    omega
  · intro e
    have := hB.lt _ e
    omega
theorem setCells_other (w : World) (g o : Nat) (vs : List Value) (k : Nat) (hk : k ≠ g) : (w.setCells g o vs).heap[k]? = w.heap[k]? := by
  induction vs generalizing w o with
  | nil => rfl
  | cons v vs ih =>
    rw [World.setCells, ih]
    exact heap_setCell_other w ⟨g, o, none⟩ k v hk
theorem Fr.setCells {S : Nat → Prop} {a w : World} (h : Fr S a w) {g : Nat} (hp : S g ∨ a.heap.size ≤ g) (o : Nat) (vs : List Value) : Fr S a (w.setCells g o vs) := by
  induction vs generalizing w o with
  | nil => exact h
  | cons v vs ih => exact ih (h.setCell (p := ⟨g, o, none⟩) hp v) (o + 1)
theorem size_setCells (w : World) (g o : Nat) (vs : List Value) : (w.setCells g o vs).heap.size = w.heap.size := by
  induction vs generalizing w o with
  | nil => rfl
  | cons v vs ih => rw [World.setCells, ih, World.size_setCell]
theorem OvAt.over {b : Nat} {F : Nat → Prop} {w0 w : World} {n g len ca k : Nat} {v : Value} {es : List (Value × Int × Nat)} {X : Nat} {x : It} {its : List It} {z : Int} (h : OvAt b F w0 w n v (.slice (some ⟨g, 0, none⟩) len ca) es X len (repC z k ++ itsV (x :: its))) (hg : ¬ F g) :
    OvAt b F w0 (w.setCells g (k * 4) [.int .i64 z, .int .i64 0, .int .u64 0, .string ⟨#[]⟩]) n v (.slice (some ⟨g, 0, none⟩) len ca) es X len (repC z (k + 1) ++ itsV its) := by
  obtain ⟨h1, h2, h3, h4, h5, h6, h7⟩ := h
  refine ⟨h1.keep (fun i hi => setCells_other _ _ _ _ _ (by rintro rfl; exact hg hi)) (by rw [size_setCells]; exact Nat.le_refl _), rowOver h2 (k * 4) rfl, ?_, h4.setCells (.inl (.inr rfl)) _ _, h5, h6, h7⟩
  rw [setCells_other _ _ _ _ _ (by rintro rfl; exact h5 rfl)]
  exact h3
theorem rowBlk {w : World} {e size n : Nat} {v : Value} {xs : List Value} (h : w.ownsRow 0 e size v n xs) {i : Nat} (hi : v.ownBlock = some i) : ∃ cur, w.heap[i]? = some (.cells cur e (0, 0)) := by
  rcases h.2 with ⟨h2, _⟩ | ⟨g, cap, cur, hv, h3, hg, h4⟩
  · rw [h2] at hi; cases hi
  · rw [hv] at hi
    have : g = i := by simpa [Value.ownBlock] using hi
    subst this
    exact ⟨cur, hg⟩
/-- one more is put into the book -/
theorem BkAt.growE {b : Nat} {F : Nat → Prop} {W w1 : World} {n : Nat} {v v' : Value} {es : List (Value × Int × Nat)} {ob : Obj} (e : Value × Int × Nat) (h : BkAt b F W n v es) (he : W.ownsRow 0 59 4 e.1 e.2.2 (repC e.2.1 e.2.2)) (hown : w1.ownsRow 0 57 2 v' (es.length + 1) (entV es ++ [e.1, .int .i64 e.2.1])) (hg : (W.alloc ob).grownBy w1 v.ownBlock)
    (hn : ∀ g, v'.ownBlock = some g → v.ownBlock = some g ∨ W.heap.size + 1 ≤ g) :
    w1.heap[b]? = some (.cells (bookCells n v) 31 (0, 0)) ∧ BkAt b (fun i => F i ∨ e.1.ownBlock = some i ∨ (W.heap.size ≤ i ∧ i < w1.heap.size)) (w1.setCell ⟨b, 1, none⟩ v') n v' (es ++ [e]) ∧ Fr F W (w1.setCell ⟨b, 1, none⟩ v') := by
  obtain ⟨h1, h2, h3, h4, h5, h6⟩ := h
  have hk : ∀ i, i < W.heap.size → v.ownBlock ≠ some i → w1.heap[i]? = W.heap[i]? := fun i hi hv => by
    rw [hg.block i (by simp; omega) (fun e => hv e.symm), Below.heap_alloc _ _ _ hi]
  have hbl := lt_of_block h1
  have hb : w1.heap[b]? = some (.cells (bookCells n v) 31 (0, 0)) := (hk b hbl (rowT h2 h1 (by decide))).trans h1
  have hfr : Fr F W w1 := ((Fr.refl F W).alloc ob).grown hg (fun i hi => .inl (h5 i hi))
  have hrow : ∀ (x : Value) (k : Nat) (xs : List Value), W.ownsRow 0 59 4 x k xs → (w1.setCell ⟨b, 1, none⟩ v').ownsRow 0 59 4 x k xs := fun x k xs hx => by
    have hx1 := rowSame hx (w' := w1) (fun i hi => by
      obtain ⟨cur, hc⟩ := rowBlk hx hi
      exact hk i (rowIn hx hi) (rowT h2 hc (by decide)))
    exact rowSetOther hx1 (a := ⟨b, 1, none⟩) (rowT hx1 hb (by decide)) v'
  have hs := hfr.size
  refine ⟨hb, ⟨heap_setCell_same w1 b 1 _ 31 v' hb, ?_, ?_, .inl h4, ?_, ?_⟩, hfr.setCell (p := ⟨b, 1, none⟩) (.inl h4) v'⟩
  · have := rowSetOther hown (a := ⟨b, 1, none⟩) (rowT hown hb (by decide)) v'
    rw [entV_append, List.length_append]
    exact this
  · intro x hx
    rcases List.mem_append.1 hx with hx | hx
    · exact ⟨hrow _ _ _ (h3 x hx).1, fun i hi => .inl ((h3 x hx).2 i hi)⟩
    · obtain rfl : x = e := by simpa using hx
      exact ⟨hrow _ _ _ he, fun i hi => .inr (.inl hi)⟩
  · intro i hi
    rcases hn i hi with h | h
    · exact .inl (h5 i h)
    · exact .inr (.inr ⟨by omega, rowIn hown hi⟩)
  · intro i hi
    rw [World.size_setCell]
    rcases hi with hi | hi | hi
    · exact Nat.lt_of_lt_of_le (h6 i hi) hs
    · exact Nat.lt_of_lt_of_le (rowIn he hi) hs
    · exact hi.2
end Go.Proofs.YtmkkibaacclhnaaGreat
