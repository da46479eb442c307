/-
  A step of the walk of the parser, the part named Qb: it gives up. No theorem of the row.
-/
import Derived.Test.YtmkkibaacclhnaaPvx
namespace Go.Proofs.Ytmkkibaacclhnaa
open Go.RowKit

/-- a whole variable is stored, as one step of a region that draws its order -/
theorem step_store_row {P : Program} {ops : Array Oper} {o : Oper} {a : Act} {w : World} {K : Act → World → Prop} {Q : Exit → Act → World → Prop} {E : Prop}
    (hgd : o.guard = none) (ty : TypeId) (x y : Operand) (ho : o.op = .store ty x y) (g : Nat) (cells : Array Value) (hx : a.eval x = .pointer (some ⟨g, 0, none⟩)) (hy : a.eval y = .agg cells)
    (t : TypeId) (old : Array Value) (hg : w.heap[g]? = some (.cells old t (0, 0))) (hi : (P.info? ty).map (·.size) = some cells.size) (hold : old.size = cells.size) (h1 : cells.all (·.oneCell') = true)
    (h : K (a.put o.dst undef) (w.setRow g cells)) : if Region.wanted o (yielded ops a.tmps) = true then Oper.wp P o a w K Q else E := by
  have hw : Region.wanted o (yielded ops a.tmps) = true := by simp [Region.wanted, hgd]
  rw [if_pos hw]
  exact wp_store_row ty x y ho g cells hx hy t old hg hi hold h1 h

/-- a parser whose text went wrong -/
def wrongCells (came n : Int) : Array Value :=
  #[.int .i64 0, .int .i64 came, .int .i64 n, .bool false, .int .i64 0, .slice none 0 0, .slice none 0 0, .string (ofL []),
    .int .i64 0, .bool false, .slice none 0 0, .int .i64 0, .int .i64 0, .bool false,
    .int .i64 0, .slice none 0 0, .int .i64 0, .int .u8 0, .int .u8 0, .int .i64 0, .int .i32 0, .int .i32 0]
theorem wrong_one (came n : Int) : (wrongCells came n).all (·.oneCell') = true := by simp [wrongCells, Value.oneCell']
theorem Try.info75R : (Try.prog.info? 75).map (·.size) = some 22 := by kernel_rfl
theorem assert105 (w : World) (v : Value) : (Instr.typeAssert (.iface 105 v) 20 105 true).run Try.prog w = .ok (.tuple #[v, .bool true]) w := by kernel_rfl
/-- what is left of it -/
def Gave (B came n : Nat) (S : Nat → Prop) (w w' : World) : Prop := w'.heap[B]? = some (.cells (wrongCells came n) 75 (0, 0)) ∧ Fr S w w'

theorem Fr.setRow {S : Nat → Prop} {a w : World} (h : Fr S a w) {g : Nat} (hp : S g ∨ a.heap.size ≤ g) (cs : Array Value) : Fr S a (w.setRow g cs) :=
  ⟨h.os, h.tape, h.output, by rw [setRow_size]; exact h.size, fun k hk hs => (setRow_other w g k cs (by rintro rfl; rcases hp with h1 | h1; exact hs h1; omega)).trans (h.block k hk hs)⟩

set_option maxRecDepth 100000 in
set_option maxHeartbeats 8000000 in
theorem giveUp_any (B came n : Nat) (S : Nat → Prop) (w0 w : World) (h : PErr B came S w0 w) (hS : S B ∨ w0.heap.size ≤ B) :
    Calls Try.prog 41 #[.pointer (some ⟨B, 0, none⟩), .iface 105 (.agg #[.int .i64 (n : Int)])] w fun e w' => e = .returned (.int .i64 (n : Int)) ∧ Gave B came n S w0 w' := by
  obtain ⟨cs, hh, hsz, hc1, hF⟩ := h
  have hBl := lt_of_block hh
  have hta := fun w v => assert105 w v
  have k1 := blk_cell hh hc1
  have q1 : ∀ ob, (w.alloc ob).cell? ⟨B, 1, none⟩ = some (.int .i64 (came : Int)) := fun ob => (World.cell?_of_block (w := w) (Below.heap_alloc _ _ _ hBl)).trans k1
  have HB := hid (show ((w.alloc (.cells #[.int .i64 (n : Int)] 105)).drew).heap[B]? = some (.cells cs 75 (0, 0)) from (Below.heap_alloc _ _ _ hBl).trans hh)
  have gX : (((w.alloc (.cells #[.int .i64 (n : Int)] 105)).drew).setRow B (wrongCells came n)).cell? ⟨w.heap.size, 0, none⟩ = some (.int .i64 (n : Int)) := by
    rw [cell_setRow_other _ _ _ _ (by show w.heap.size ≠ B; omega)]
    go_simp
  have HR := hid (show Gave B came n S w0 (((w.alloc (.cells #[.int .i64 (n : Int)] 105)).drew).setRow B (wrongCells came n)) from
    ⟨setRow_heap _ _ _ _ _ _ HB.out, ((hF.alloc _).drew).setRow hS _⟩)
  have HZ := hid (show cs.size = (wrongCells came n).size from hsz)
  clear hh hF hS hsz hc1
  go_enter Try.func41, Try.ntmps41
  go_wp2
  refine wp_region_any (by kernel_rfl) ?_
  change wpAny _ _ _ _ _ _ _ (World.drew _)
  refine wpAny_take (i := 0) (v := ?_) rfl (by kernel_rfl) (by kernel_rfl) (by kernel_rfl) (fun _ _ _ h => h) (Or.inl ⟨by rfl, ?_⟩) ?_
  rotate_left
  · (intro w; go_simp; try with_reducible rfl)
  refine wpAny_take (i := 1) (v := ?_) rfl (by kernel_rfl) (by kernel_rfl) (by kernel_rfl) (fun _ _ _ h => h) (Or.inl ⟨by rfl, ?_⟩) ?_
  rotate_left
  · (intro w; go_simp; try with_reducible rfl)
  refine wpAny_take (i := 2) (v := ?_) rfl (by kernel_rfl) (by kernel_rfl) (by kernel_rfl) (fun _ _ _ h => h) (Or.inl ⟨by rfl, ?_⟩) ?_
  rotate_left
  · (intro w; go_simp; try with_reducible rfl)
  refine wpAny_take (i := 3) (v := ?_) rfl (by kernel_rfl) (by kernel_rfl) (by kernel_rfl) (fun _ _ _ h => h) (Or.inl ⟨by rfl, ?_⟩) ?_
  rotate_left
  · (intro w; go_simp; try with_reducible rfl)
  refine wpAny_take (i := 5) (v := ?_) rfl (by kernel_rfl) (by kernel_rfl) (by kernel_rfl) (fun _ _ _ h => h) (Or.inl ⟨by rfl, ?_⟩) ?_
  rotate_left
  · (intro w; go_simp; try with_reducible rfl)
  refine wpAny_ready (rs := [4, 6]) (by kernel_rfl) (by simp) ?_
  refine AllReady.cons rfl (fun K hK => ?_) ?_
  · go_simp
    refine hK _ _ ?_
    clear hK K
    refine wpAny_ready (rs := [6]) (by kernel_rfl) (by simp) ?_
    refine AllReady.cons rfl (fun K hK => ?_) AllReady.nil
    go_simp
    refine hK _ _ ?_
    clear hK K
    refine wpAny_take (i := 7) (v := ?_) rfl (by kernel_rfl) (by kernel_rfl) (by kernel_rfl) (fun _ _ _ h => h) (Or.inl ⟨by rfl, ?_⟩) ?_
    rotate_left
    · (intro w; go_simp; try with_reducible rfl)
    refine wpAny_take (i := 8) (v := ?_) rfl (by kernel_rfl) (by kernel_rfl) (by kernel_rfl) (fun _ _ _ h => h) (Or.inl ⟨by rfl, ?_⟩) ?_
    rotate_left
    · (intro w; go_simp; try with_reducible rfl)
    refine wpAny_ready (rs := [9]) (by kernel_rfl) (by simp) ?_
    refine AllReady.cons rfl (fun K hK => ?_) AllReady.nil
    refine step_store_row rfl 75 _ _ rfl B (wrongCells came n) rfl rfl 75 cs HB.out Try.info75R HZ.out (wrong_one _ _) ?_
    refine hK _ _ ?_
    clear hK K
    refine wpAny_done (by kernel_rfl) ?_ _
    go_wp2
    go_ret
    exact ⟨rfl, HR.out⟩
  refine AllReady.cons rfl (fun K hK => ?_) ?_
  · go_simp
    refine hK _ _ ?_
    clear hK K
    refine wpAny_ready (rs := [4]) (by kernel_rfl) (by simp) ?_
    refine AllReady.cons rfl (fun K hK => ?_) AllReady.nil
    go_simp
    refine hK _ _ ?_
    clear hK K
    refine wpAny_take (i := 7) (v := ?_) rfl (by kernel_rfl) (by kernel_rfl) (by kernel_rfl) (fun _ _ _ h => h) (Or.inl ⟨by rfl, ?_⟩) ?_
    rotate_left
    · (intro w; go_simp; try with_reducible rfl)
    refine wpAny_take (i := 8) (v := ?_) rfl (by kernel_rfl) (by kernel_rfl) (by kernel_rfl) (fun _ _ _ h => h) (Or.inl ⟨by rfl, ?_⟩) ?_
    rotate_left
    · (intro w; go_simp; try with_reducible rfl)
    refine wpAny_ready (rs := [9]) (by kernel_rfl) (by simp) ?_
    refine AllReady.cons rfl (fun K hK => ?_) AllReady.nil
    refine step_store_row rfl 75 _ _ rfl B (wrongCells came n) rfl rfl 75 cs HB.out Try.info75R HZ.out (wrong_one _ _) ?_
    refine hK _ _ ?_
    clear hK K
    refine wpAny_done (by kernel_rfl) ?_ _
    go_wp2
    go_ret
    exact ⟨rfl, HR.out⟩
  exact AllReady.nil
end Go.Proofs.Ytmkkibaacclhnaa
