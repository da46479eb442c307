/-
  A step of the walk of the numbers, the part named CutB. No theorem of the row.
-/
import Derived.Test.YtldihimiblndcaaCut
namespace Go.Proofs.Ytldihimiblndcaa
open Go.RowKit

/-- the pieces of a token; none, if it is no token -/
def cutL (l : List UInt8) : Option (Bool × List UInt8 × List UInt8 × Bool × List UInt8) :=
  let a := cutP 45 l
  let wh := a.1.takeWhile isD
  let r := a.1.dropWhile isD
  if wh = [] ∨ (wh.head? = some 48 ∧ 1 < wh.length) then none else
  let b := cutP 46 r
  if b.2 = true ∧ b.1.takeWhile isD = [] then none else
  let fr := if b.2 then b.1.takeWhile isD else []
  let r2 := if b.2 then b.1.dropWhile isD else r
  let c := cutE r2
  let d := cutS c.1
  if c.2 = true ∧ d.1.takeWhile isD = [] then none else
  let en := if c.2 then d.2 else false
  let ex := if c.2 then d.1.takeWhile isD else []
  let r3 := if c.2 then d.1.dropWhile isD else r2
  if r3 ≠ [] then none else some (a.2, wh, fr, en, ex)

/-- what 'cut' answers -/
def cutR (l : List UInt8) : Value := match cutL l with
  | none => .tuple #[.agg #[.bool false, .string ⟨#[]⟩, .string ⟨#[]⟩, .bool false, .string ⟨#[]⟩], .bool false]
  | some (n, wh, fr, en, ex) => .tuple #[.agg #[.bool n, .string (ofL wh), .string (ofL fr), .bool en, .string (ofL ex)], .bool true]

def Five (w : World) (B : Nat) (a b c d e : Value) : Prop := w.heap[B]? = some (.cells #[a, b, c, d, e] 40 (0, 0))
theorem Five.cells {w : World} {B : Nat} {a b c d e : Value} (h : Five w B a b c d e) : w.cell? ⟨B, 0, none⟩ = some a ∧ w.cell? ⟨B, 1, none⟩ = some b ∧ w.cell? ⟨B, 2, none⟩ = some c ∧ w.cell? ⟨B, 3, none⟩ = some d ∧ w.cell? ⟨B, 4, none⟩ = some e := by
  unfold Five at h
  simp [World.cell?, h]
theorem Five.free {w : World} {B : Nat} {a b c d e : Value} (h : Five w B a b c d e) (j : Nat) : w.frozen? ⟨B, j, none⟩ = false := by
  unfold Five at h
  simp [World.frozen?, h]
theorem Five.set0 {w : World} {B : Nat} {a b c d e : Value} (h : Five w B a b c d e) (u : Value) : Five (w.setCell ⟨B, 0, none⟩ u) B u b c d e := by
  have := heap_setCell_same w B 0 #[a, b, c, d, e] 40 u h
  simpa [Five] using this
theorem Five.set1 {w : World} {B : Nat} {a b c d e : Value} (h : Five w B a b c d e) (u : Value) : Five (w.setCell ⟨B, 1, none⟩ u) B a u c d e := by
  have := heap_setCell_same w B 1 #[a, b, c, d, e] 40 u h
  simpa [Five] using this
theorem Five.set2 {w : World} {B : Nat} {a b c d e : Value} (h : Five w B a b c d e) (u : Value) : Five (w.setCell ⟨B, 2, none⟩ u) B a b u d e := by
  have := heap_setCell_same w B 2 #[a, b, c, d, e] 40 u h
  simpa [Five] using this
theorem Five.set3 {w : World} {B : Nat} {a b c d e : Value} (h : Five w B a b c d e) (u : Value) : Five (w.setCell ⟨B, 3, none⟩ u) B a b c u e := by
  have := heap_setCell_same w B 3 #[a, b, c, d, e] 40 u h
  simpa [Five] using this
theorem Five.set4 {w : World} {B : Nat} {a b c d e : Value} (h : Five w B a b c d e) (u : Value) : Five (w.setCell ⟨B, 4, none⟩ u) B a b c d u := by
  have := heap_setCell_same w B 4 #[a, b, c, d, e] 40 u h
  simpa [Five] using this
theorem Five.other {w : World} {B : Nat} {a b c d e : Value} (h : Five w B a b c d e) (p : Addr) (hp : B ≠ p.block) (u : Value) : Five (w.setCell p u) B a b c d e := by
  unfold Five at *
  rw [Below.heap_setCell _ _ _ _ hp]; exact h
theorem Five.drewN {w : World} {B : Nat} {a b c d e : Value} (h : Five w B a b c d e) (m : Nat) : Five (w.drewN m) B a b c d e := h
theorem Five.lt {w : World} {B : Nat} {a b c d e : Value} (h : Five w B a b c d e) : B < w.heap.size := lt_of_block h

/-- the two blocks that 'cut' lays: its answer, its pieces -/
structure CutAt (w wr : World) (a b c d e : Value) : Prop where
  res : Five wr w.heap.size (.bool false) (.string ⟨#[]⟩) (.string ⟨#[]⟩) (.bool false) (.string ⟨#[]⟩)
  parts : Five wr (w.heap.size + 1) a b c d e
  fr : Fr (fun _ => False) w wr

theorem CutAt.drewN {w wr : World} {a b c d e : Value} (h : CutAt w wr a b c d e) (m : Nat) : CutAt w (wr.drewN m) a b c d e := ⟨h.res, h.parts, h.fr.drewN m⟩
theorem CutAt.set0 {w wr : World} {a b c d e : Value} (h : CutAt w wr a b c d e) (u : Value) : CutAt w (wr.setCell ⟨w.heap.size + 1, 0, none⟩ u) u b c d e := ⟨h.res.other _ (by simp) _, h.parts.set0 u, h.fr.setCell (.inr (by simp)) _⟩
theorem CutAt.set1 {w wr : World} {a b c d e : Value} (h : CutAt w wr a b c d e) (u : Value) : CutAt w (wr.setCell ⟨w.heap.size + 1, 1, none⟩ u) a u c d e := ⟨h.res.other _ (by simp) _, h.parts.set1 u, h.fr.setCell (.inr (by simp)) _⟩
theorem CutAt.set2 {w wr : World} {a b c d e : Value} (h : CutAt w wr a b c d e) (u : Value) : CutAt w (wr.setCell ⟨w.heap.size + 1, 2, none⟩ u) a b u d e := ⟨h.res.other _ (by simp) _, h.parts.set2 u, h.fr.setCell (.inr (by simp)) _⟩
theorem CutAt.set3 {w wr : World} {a b c d e : Value} (h : CutAt w wr a b c d e) (u : Value) : CutAt w (wr.setCell ⟨w.heap.size + 1, 3, none⟩ u) a b c u e := ⟨h.res.other _ (by simp) _, h.parts.set3 u, h.fr.setCell (.inr (by simp)) _⟩
theorem CutAt.set4 {w wr : World} {a b c d e : Value} (h : CutAt w wr a b c d e) (u : Value) : CutAt w (wr.setCell ⟨w.heap.size + 1, 4, none⟩ u) a b c d u := ⟨h.res.other _ (by simp) _, h.parts.set4 u, h.fr.setCell (.inr (by simp)) _⟩
/-- the answer is laid -/
theorem CutAt.answer {w wr : World} {a b c d e : Value} (h : CutAt w wr a b c d e) (a' b' c' d' e' : Value) :
    Five (((((wr.setCell ⟨w.heap.size, 0, none⟩ a').setCell ⟨w.heap.size, 1, none⟩ b').setCell ⟨w.heap.size, 2, none⟩ c').setCell ⟨w.heap.size, 3, none⟩ d').setCell ⟨w.heap.size, 4, none⟩ e') w.heap.size a' b' c' d' e' ∧
    Fr (fun _ => False) w (((((wr.setCell ⟨w.heap.size, 0, none⟩ a').setCell ⟨w.heap.size, 1, none⟩ b').setCell ⟨w.heap.size, 2, none⟩ c').setCell ⟨w.heap.size, 3, none⟩ d').setCell ⟨w.heap.size, 4, none⟩ e') :=
  ⟨((((h.res.set0 a').set1 b').set2 c').set3 d').set4 e', ((((h.fr.setCell (.inr (by simp)) _).setCell (.inr (by simp)) _).setCell (.inr (by simp)) _).setCell (.inr (by simp)) _).setCell (.inr (by simp)) _⟩

theorem dropWhile_len (l : List UInt8) : (l.dropWhile isD).length ≤ l.length := (List.dropWhile_sublist _).length_le
theorem cutE_len (l : List UInt8) : (cutE l).1.length ≤ l.length := by unfold cutE; have := cutP_len 101 l; have := cutP_len 69 l; split <;> omega
theorem cutS_len (l : List UInt8) : (cutS l).1.length ≤ l.length := by unfold cutS; have := cutP_len 43 l; have := cutP_len 45 l; split <;> omega

end Go.Proofs.Ytldihimiblndcaa
