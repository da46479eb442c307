/-
  A step of the walk of the numbers, the part named Chunk. No theorem of the row.
-/
import Derived.Test.YtmkkibaacclhnaaNatF
import Derived.RangeFuncNested
import Derived.RangeFuncBound
import Derived.RangeFuncCalls
import Derived.RangeFuncLeaves
import Derived.Shelf.Abstract
import Derived.Shelf.RegionOpen
import Derived.OwnWalkIn
import Derived.TacticsInMore
import Derived.LoopNIn
import Derived.LoopIn
import Derived.Sort.QuietIn
import Derived.RegionIn
namespace Go.Proofs.Ytmkkibaacclhnaa
open Go.RowKit Go.Shelf
attribute [local go_sem] Oper.semAt_some

/-- the chunk that begins at 9 k -/
def chunkV (b len k : Nat) : Value := .slice (some ⟨b, 9 * k, none⟩) (min 9 (len - 9 * k)) (min 9 (len - 9 * k))

theorem chunkV_eq (b len k : Nat) : chunkV b len k = .slice (some ⟨b, 9 * k, none⟩) ((9 * (k : Int) + min 9 ((len - 9 * k : Nat) : Int)).toNat - 9 * k) ((9 * (k : Int) + min 9 ((len - 9 * k : Nat) : Int)).toNat - 9 * k) := by
  have e : min 9 (len - 9 * k) = (9 * (k : Int) + min 9 ((len - 9 * k : Nat) : Int)).toNat - 9 * k := by omega
  unfold chunkV
  rw [e]

/-- what a round keeps -/
def KpC (n₀ Bs Bn : Nat) (A B : World) : Prop := Fr (fun i => ¬ (i < n₀ ∨ i = Bs ∨ i = Bn)) A B

set_option maxRecDepth 100000 in
set_option maxHeartbeats 2000000 in
theorem chunk1_in (n : Nat) (hn : 1 ≤ n) (l Bs Bn n₀ b len cap : Nat) (hlen : len ≤ 1000000) (hcap : len ≤ cap) (J Jx : List { j : Nat // 9 * j < len } → World → Prop) (hJ : ∀ s A B, J s A → A.grownBy B none → J s B)
    (hY : ∀ pre (x : { j : Nat // 9 * j < len }) W, J pre W → pre.length < (len + 8) / 9 → YieldAt Fence.wide (n - 1) Try.prog l #[chunkV b len x.1] W fun e W' =>
      (e = .returned (.bool true) ∧ J (pre ++ [x]) W' ∧ KpC n₀ Bs Bn W W') ∨ (e = .returned (.bool false) ∧ Jx (pre ++ [x]) W'))
    (W : World) (hBsl : Bs < W.heap.size) (hBnl : Bn < W.heap.size) (hBs : W.cell? ⟨Bs, 0, none⟩ = some (.slice (some ⟨b, 0, none⟩) len cap)) (hBn : W.cell? ⟨Bn, 0, none⟩ = some (.int .i64 9)) (h0 : J [] W) :
    CallsIn Fence.wide n Try.prog 131 #[.func (.yield l) #[] #[], .pointer (some ⟨Bs, 0, none⟩), .pointer (some ⟨Bn, 0, none⟩)] W fun e W' => (∃ v, e = .returned v) ∧
      ((∃ xs : List { j : Nat // 9 * j < len }, xs.map (·.1) = List.range ((len + 8) / 9) ∧ J xs W') ∨ (∃ pre, True ∧ Jx pre W')) := by
  refine callsIn_of_wp Try.func131 rfl trivial ?_ rfl
  simp only [Try.ntmps131, List.size_toArray, List.length_cons, List.length_nil, Nat.reduceAdd, Nat.reduceSub, Array.replicate_succ, Array.replicate_zero, List.push_toArray, List.append_toArray, List.nil_append, List.cons_append]
  gi_wp2
  gi_loopw [4] (fun i wr => ∃ (k : Nat) (xs : List { j : Nat // 9 * j < len }), 9 * k < len + 9 ∧ i = .int .i64 (9 * k : Nat) ∧ Hid (xs.map (·.1) = List.range k) ∧ J xs wr ∧ KpC n₀ Bs Bn W wr)
    (fun i _ => len + 9 - (intOf i).toNat)
  case atStart => exact ⟨0, [], by omega, rfl, rfl, h0, Fr.refl _ _⟩
  case round =>
    obtain ⟨k, xs, hk, rfl, hxs, hJs, hnx⟩ := hrel
    have hBs' := (Fr.cell hnx (p := ⟨Bs, 0, none⟩) hBsl (by simp)).trans hBs
    have hBn' := (Fr.cell hnx (p := ⟨Bn, 0, none⟩) hBnl (by simp)).trans hBn
    have hxl : xs.length = k := by have := congrArg List.length hxs.out; simpa using this
    by_cases hlt : 9 * k < len
    · obtain ⟨fn, tmps, assign, body, hy, hR⟩ := hY xs ⟨k, hlt⟩ wr.drew (hJ _ wr wr.drew hJs ⟨rfl, rfl, rfl, Nat.le_refl _, fun _ _ _ => rfl⟩) (by omega)
      have hlt' : 9 * (k : Int) < len := by omega
      dsimp only at hy
      rw [chunkV_eq] at hy
      have HX : Hid _ := hxl
      clear hxl
      gi_wp2_with fail
      gi_region
      gi_wp2
      refine hR.mono ?_
      rintro e W3 (⟨rfl, hJ3, hk3⟩ | ⟨rfl, hJx3⟩)
      · have hB3 : KpC n₀ Bs Bn W W3 := Fr.trans hnx ⟨hk3.os, hk3.tape, hk3.output, hk3.size, hk3.block⟩
        have hBn3 := (Fr.cell hB3 (p := ⟨Bn, 0, none⟩) hBnl (by simp)).trans hBn
        have HB3 : Hid _ := hB3
        clear hB3 hk3 hnx
        gi_wp2
        go_roundw
        case rel => exact ⟨k + 1, xs ++ [⟨k, hlt⟩], by omega, by go_num, by show _ = _; rw [List.map_append, hxs.out, List.range_succ]; rfl, hJ3, HB3.out⟩
        case measure => simp [intOf]; omega
      · gi_wp2
        refine bodyPost_ret (results_none rfl _ _ _) rfl ?_
        exact ⟨⟨_, rfl⟩, .inr ⟨_, trivial, hJx3⟩⟩
    · have hkk : k = (len + 8) / 9 := by omega
      have HX : Hid _ := hkk
      clear hkk hxl
      gi_wp2
      go_end0
      exact ⟨⟨_, rfl⟩, .inl ⟨xs, by rw [← HX.out]; exact hxs.out, hJs⟩⟩

set_option maxRecDepth 100000 in
set_option maxHeartbeats 1000000 in
theorem chunk_any (a : Option Addr) (len cap : Nat) (w : World) :
    Calls Try.prog 120 #[.slice a len cap, .int .i64 9] w fun e w' => e = .returned (.func (.func 131) #[] #[.pointer (some ⟨w.heap.size, 0, none⟩), .pointer (some ⟨w.heap.size + 1, 0, none⟩)]) ∧ w' = (w.alloc (.cells #[.slice a len cap] 52)).alloc (.cells #[.int .i64 9] 3) := by
  go_enter Try.func120, Try.ntmps120
  go_wp2
  go_ret
  exact ⟨rfl, rfl⟩
end Go.Proofs.Ytmkkibaacclhnaa
