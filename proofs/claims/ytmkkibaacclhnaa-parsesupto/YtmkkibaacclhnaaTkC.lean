/-
  A step of the walk of the numbers, the part named TkC: the exponent of a token. No theorem of the row.
-/
import Derived.Test.YtmkkibaacclhnaaTkA
namespace Go.Proofs.Ytmkkibaacclhnaa
open Go.RowKit

set_option maxRecDepth 100000 in
set_option maxHeartbeats 4000000 in
theorem addToPower_any (B o : Nat) (P : Int) (pw : Nat) (c : UInt8) (w : World) (h1 : w.cell? ⟨B, o + 3, none⟩ = some (.int .i64 P)) (h2 : w.cell? ⟨B, o + 4, none⟩ = some (.int .i64 (pw : Int)))
    (hf : w.frozen? ⟨B, o + 4, none⟩ = false) (hc : isD c = true) (hP1 : -4000000000000000 ≤ P) (hP2 : P ≤ 4000000000000000) (hpw : pw ≤ P.natAbs + 632) :
    Calls Try.prog 46 #[.pointer (some ⟨B, o, none⟩), .int .u8 (c.toNat : Int)] w fun e w' => e = .returned (.tuple #[]) ∧ w' = (w.setCell ⟨B, o + 4, none⟩ (.int .i64 ((min (pw * 10 + (c.toNat - 48)) (P.natAbs + 632) : Nat) : Int))).drew := by
  obtain ⟨hcl, hch⟩ := (isD_iff c).1 hc
  generalize c.toNat = x at *
  go_enter Try.func46, Try.ntmps46
  go_wp2
  go_region
  all_goals
    go_wp2
    go_end0
    refine ⟨rfl, ?_⟩
    rw [show min ((pw : Int) * 10 + (x - 48)) (max P (-P) + 309 + 323) = ((min (pw * 10 + (x - 48)) (P.natAbs + 632) : Nat) : Int) by omega]

/-- the cells of a token within a block -/
structure TkIn (cs : Array Value) (o : Nat) (v : Value) (t : Tk) : Prop where
  c0 : cs[o]? = some (.int .i64 (t.st : Int))
  c1 : cs[o + 1]? = some (.bool t.neg)
  c2 : cs[o + 2]? = some v
  c3 : cs[o + 3]? = some (.int .i64 t.P)
  c4 : cs[o + 4]? = some (.int .i64 (t.pw : Int))
  c5 : cs[o + 5]? = some (.bool t.pn)

theorem TkIn.size {cs : Array Value} {o : Nat} {v : Value} {t : Tk} (h : TkIn cs o v t) : o + 5 < cs.size := by
  rcases Nat.lt_or_ge (o + 5) cs.size with h1 | h1
  · exact h1
  · have := h.c5
    rw [Array.getElem?_eq_none h1] at this
    cases this
theorem get_set {cs : Array Value} {j : Nat} {v : Value} (h : j < cs.size) : (cs.setIfInBounds j v)[j]? = some v := by
  rw [Array.getElem?_setIfInBounds, if_pos rfl, if_pos h]
theorem TkIn.set0 {cs : Array Value} {o : Nat} {v : Value} {t : Tk} (h : TkIn cs o v t) (k : Nat) : TkIn (cs.setIfInBounds o (.int .i64 (k : Int))) o v ⟨k, t.neg, t.D, t.P, t.pw, t.pn⟩ := by
  have hs := h.size
  exact ⟨get_set (by omega), by rw [set_get_ne (by omega)]; exact h.c1, by rw [set_get_ne (by omega)]; exact h.c2, by rw [set_get_ne (by omega)]; exact h.c3, by rw [set_get_ne (by omega)]; exact h.c4, by rw [set_get_ne (by omega)]; exact h.c5⟩
theorem TkIn.set1 {cs : Array Value} {o : Nat} {v : Value} {t : Tk} (h : TkIn cs o v t) (k : Bool) : TkIn (cs.setIfInBounds (o + 1) (.bool k)) o v ⟨t.st, k, t.D, t.P, t.pw, t.pn⟩ := by
  have hs := h.size
  exact ⟨by rw [set_get_ne (by omega)]; exact h.c0, get_set (by omega), by rw [set_get_ne (by omega)]; exact h.c2, by rw [set_get_ne (by omega)]; exact h.c3, by rw [set_get_ne (by omega)]; exact h.c4, by rw [set_get_ne (by omega)]; exact h.c5⟩
theorem TkIn.set2 {cs : Array Value} {o : Nat} {v : Value} {t : Tk} (h : TkIn cs o v t) (u : Value) (D : List Nat) : TkIn (cs.setIfInBounds (o + 2) u) o u ⟨t.st, t.neg, D, t.P, t.pw, t.pn⟩ := by
  have hs := h.size
  exact ⟨by rw [set_get_ne (by omega)]; exact h.c0, by rw [set_get_ne (by omega)]; exact h.c1, get_set (by omega), by rw [set_get_ne (by omega)]; exact h.c3, by rw [set_get_ne (by omega)]; exact h.c4, by rw [set_get_ne (by omega)]; exact h.c5⟩
theorem TkIn.set3 {cs : Array Value} {o : Nat} {v : Value} {t : Tk} (h : TkIn cs o v t) (P : Int) : TkIn (cs.setIfInBounds (o + 3) (.int .i64 P)) o v ⟨t.st, t.neg, t.D, P, t.pw, t.pn⟩ := by
  have hs := h.size
  exact ⟨by rw [set_get_ne (by omega)]; exact h.c0, by rw [set_get_ne (by omega)]; exact h.c1, by rw [set_get_ne (by omega)]; exact h.c2, get_set (by omega), by rw [set_get_ne (by omega)]; exact h.c4, by rw [set_get_ne (by omega)]; exact h.c5⟩
theorem TkIn.set4 {cs : Array Value} {o : Nat} {v : Value} {t : Tk} (h : TkIn cs o v t) (k : Nat) : TkIn (cs.setIfInBounds (o + 4) (.int .i64 (k : Int))) o v ⟨t.st, t.neg, t.D, t.P, k, t.pn⟩ := by
  have hs := h.size
  exact ⟨by rw [set_get_ne (by omega)]; exact h.c0, by rw [set_get_ne (by omega)]; exact h.c1, by rw [set_get_ne (by omega)]; exact h.c2, by rw [set_get_ne (by omega)]; exact h.c3, get_set (by omega), by rw [set_get_ne (by omega)]; exact h.c5⟩
theorem TkIn.set5 {cs : Array Value} {o : Nat} {v : Value} {t : Tk} (h : TkIn cs o v t) (k : Bool) : TkIn (cs.setIfInBounds (o + 5) (.bool k)) o v ⟨t.st, t.neg, t.D, t.P, t.pw, k⟩ := by
  have hs := h.size
  exact ⟨by rw [set_get_ne (by omega)]; exact h.c0, by rw [set_get_ne (by omega)]; exact h.c1, by rw [set_get_ne (by omega)]; exact h.c2, by rw [set_get_ne (by omega)]; exact h.c3, by rw [set_get_ne (by omega)]; exact h.c4, get_set (by omega)⟩

/-- outside of a token's cells nothing turns -/
def Apart (o : Nat) (cs cs' : Array Value) : Prop := cs'.size = cs.size ∧ ∀ j, j < o ∨ o + 5 < j → cs'[j]? = cs[j]?
theorem Apart.refl (o : Nat) (cs : Array Value) : Apart o cs cs := ⟨rfl, fun _ _ => rfl⟩
theorem Apart.set {o : Nat} {cs cs' : Array Value} (h : Apart o cs cs') (i : Nat) (hi : i ≤ 5) (v : Value) : Apart o cs (cs'.setIfInBounds (o + i) v) :=
  ⟨by rw [Array.size_setIfInBounds]; exact h.1, fun j hj => by rw [set_get_ne (by omega)]; exact h.2 j hj⟩
theorem Apart.set00 {o : Nat} {cs cs' : Array Value} (h : Apart o cs cs') (v : Value) : Apart o cs (cs'.setIfInBounds o v) := h.set 0 (by omega) v

/-- a token in memory -/
def TkAt (base : Nat) (w : World) (B o T : Nat) (cs : Array Value) (v : Value) (t : Tk) : Prop :=
  w.heap[B]? = some (.cells cs T (0, 0)) ∧ TkIn cs o v t ∧ w.ownsRow base 5 1 v t.D.length (bs t.D)
end Go.Proofs.Ytmkkibaacclhnaa
