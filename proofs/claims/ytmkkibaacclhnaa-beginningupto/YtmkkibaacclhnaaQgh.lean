/-
  A step of the walk of the parser, the part named Qgh: pieces are fed, a text is read. No theorem of the row.
-/
import Derived.Test.YtmkkibaacclhnaaQc
namespace Go.Proofs.Ytmkkibaacclhnaa
open Go.RowKit

set_option maxRecDepth 100000 in
set_option maxHeartbeats 8000000 in
theorem feed_wrong (B c n : Nat) (S : Nat → Prop) (l : List UInt8) (w0 w : World) (h : Gave B c n S w0 w) (hn : n ≠ 0) :
    Calls Try.prog 26 #[.pointer (some ⟨B, 0, none⟩), .string (ofL l)] w fun e w' => e = .returned (.int .i64 (n : Int)) ∧ Gave B c n S w0 w' := by
  have hmf : ∀ (fn : Fn) (first cap : Array Value) (w : World), (Instr.makeFunc fn first cap).run Try.prog w = .ok (.func fn first cap) w := fun _ _ _ _ => rfl
  obtain ⟨hb, hF⟩ := h
  have hBl := lt_of_block hb
  have hbb : ∀ a b, ((w.alloc a).alloc b).heap[B]? = some (.cells (wrongCells c n) 75 (0, 0)) := fun a b => ((Below.heap_alloc (w.alloc a) b B (by simp; omega)).trans (Below.heap_alloc w a B hBl)).trans hb
  have k3 : ∀ a b, ((w.alloc a).alloc b).cell? ⟨B, 3, none⟩ = some (.bool false) := fun a b => blk_cell (hbb a b) rfl
  have k2 : ∀ a b, ((w.alloc a).alloc b).cell? ⟨B, 2, none⟩ = some (.int .i64 (n : Int)) := fun a b => blk_cell (hbb a b) rfl
  have hs : ((n : Int) != 0) = true := bne_iff_ne.2 (by omega)
  have HG := hid (show ∀ a b, Gave B c n S w0 ((w.alloc a).alloc b) from fun a b => ⟨hbb a b, (hF.alloc a).alloc b⟩)
  clear hb hF hbb hn
  go_enter_defers Try.func26, Try.ntmps26
  go_wp2
  simp [bodyPostD, Leaves, results, Try.results26, go_sem]
  exact HG.out _ _

theorem feed_any (B d : Nat) (S : Nat → Prop) (w0 w : World) (l a : List UInt8) (h1 : 1 ≤ d) (h2 : d ≤ 1000) (hl : l.length + a.length ≤ 1500000) (h : Rd B S w0 w (psRun (ps0 d) l)) :
    Calls Try.prog 26 #[.pointer (some ⟨B, 0, none⟩), .string (ofL a)] w fun e w' => e = .returned (.int .i64 ((errOf (psRun (ps0 d) (l ++ a)) : Nat) : Int)) ∧ Rd B S w0 w' (psRun (ps0 d) (l ++ a)) := by
  rw [psRun_append]
  cases hx : psRun (ps0 d) l with
  | error x =>
    obtain ⟨n, c⟩ := x
    rw [hx] at h
    exact feed_wrong B c n S a w0 w h (psRun_err hx).1
  | ok s =>
    rw [hx] at h
    obtain ⟨vi, vo, vt, vm, hC, hQ⟩ := h
    have hok := psRun_ok (ps0_ok d h1 h2) hx
    have hcm := psRun_came hx
    have hc0 : (ps0 d).came = 0 := rfl
    refine (feed_run B vi vo vt vm s _ _ a (psRun s a) w hC.pr hQ hok (by omega) (by omega) (by omega) rfl).mono ?_
    rintro e w' ⟨rfl, hR⟩
    refine ⟨rfl, ?_⟩
    show Rd B S w0 w' (psRun s a)
    cases hy : psRun s a with
    | ok s' =>
      rw [hy] at hR
      exact hC.trans hR
    | error x =>
      obtain ⟨n, c⟩ := x
      rw [hy] at hR
      exact ⟨hR.1, hC.fr.trans' hR.2 hC.ow⟩
end Go.Proofs.Ytmkkibaacclhnaa

namespace Go.Proofs.Ytmkkibaacclhnaa
open Go.RowKit

def strLen : Value → Nat
  | .string b => b.size
  | _ => 0
theorem rd_new (d : Nat) (w : World) : Rd w.heap.size (fun _ => False) w (w.alloc (.cells (psCells (ps0 d) nilS nilS nilS nilS) 75)) (psRun (ps0 d) []) := by
  refine ⟨nilS, nilS, nilS, nilS, ⟨newParser_pr d w, (Fr.refl _ _).alloc _, ?_⟩, fun _ => rfl, fun _ _ => rfl⟩
  intro i hi
  rcases hi with rfl | hi | hi | hi | hi
  · exact .inr (Nat.le_refl _)
  all_goals cases hi

set_option maxRecDepth 100000 in
set_option maxHeartbeats 8000000 in
theorem read_any (l : List UInt8) (p : Nat) (w : World) (hp : 1 ≤ p) (hp2 : p ≤ 1000000) (hl : l.length ≤ 1400000) :
    Calls Try.prog 29 #[.string (ofL l), .int .i64 (p : Int)] w (ClosePost (fun _ => False) w (psFin (psRun (ps0 9) l))) := by
  go_enter Try.func29, Try.ntmps29
  go_wp2_with fail
  refine Calls.mono (show Calls Try.prog 25 #[.int .i64 9] _ _ from newParser_any 9 (by omega) (by omega) _) ?_
  rintro e w1 ⟨rfl, hw1⟩
  have HR0 := hid (rd_new 9 w)
  rw [← hw1] at HR0
  clear hw1
  have HL := hid hl
  go_wp2
  go_loopw [0] (fun s wr => ∃ j, j ≤ l.length ∧ s = .string (ofL (l.drop j)) ∧ Hid (Rd w.heap.size (fun _ => False) w wr (psRun (ps0 9) (l.take j)))) (fun s _ => strLen s)
  case atStart => exact ⟨0, by omega, rfl, HR0⟩
  case round =>
    obtain ⟨j, hj, rfl, hR⟩ := hrel
    by_cases hlt : j < l.length
    · obtain ⟨m, hm⟩ : ∃ m, l.drop j = m := ⟨_, rfl⟩
      have hml : m.length = l.length - j := by rw [← hm, List.length_drop]
      have hsz := ofL_size m
      have hne : (ofL m).toList.isEmpty = false := by rw [ofL_toList]; cases m with | nil => (simp at hml; omega) | cons _ _ => rfl
      obtain ⟨n, hn⟩ : ∃ n, min p m.length = n := ⟨_, rfl⟩
      rw [hm]
      have HM := hid hm
      clear hm
      go_wp2_with fail
      have hx : (ofL m).extract 0 (min (p : Int) ((l.length - j : Nat) : Int)).toNat = ofL (m.take n) := by
        rw [ofL_extract, List.drop_zero]
        congr 2
        omega
      rw [hx]
      refine Calls.mono (feed_any w.heap.size 9 (fun _ => False) w wr (l.take j) (m.take n) (by omega) (by omega) (by rw [List.length_take, List.length_take]; omega) hR.out) ?_
      rintro e w2 ⟨rfl, hR2⟩
      have HR2 := hid hR2
      clear hR2 hx
      go_wp2
      have hy : (ofL m).extract (min (p : Int) ((l.length - j : Nat) : Int)).toNat (l.length - j) = ofL (l.drop (j + n)) := by
        rw [ofL_extract, List.take_of_length_le (by omega), ← HM.out, List.drop_drop]
        congr 2
        omega
      rw [hy]
      have ht : l.take j ++ m.take n = l.take (j + n) := by rw [List.take_add, HM.out]
      rw [ht] at HR2
      refine ⟨⟨j + n, by omega, rfl, HR2⟩, ?_⟩
      show (ofL (l.drop (j + n))).size < (ofL m).size
      rw [ofL_size, ofL_size, List.length_drop]
      omega
    · obtain rfl : j = l.length := by omega
      rw [List.take_length] at hR
      rw [List.drop_length]
      have hne : (ofL []).toList.isEmpty = true := by rw [ofL_toList]; rfl
      go_wp2_with fail
      refine Calls.mono (close_any w.heap.size 9 (fun _ => False) w wr l (by omega) (by omega) (by omega) (.inr (Nat.le_refl _)) hR.out) ?_
      rintro e w2 ⟨V, rfl, q1, q2, q3⟩
      have HQ := hid (And.intro q1 (And.intro q2 q3))
      clear q1 q2 q3
      go_wp2
      go_ret3
      exact ⟨V, rfl, HQ.out.1, HQ.out.2.1, HQ.out.2.2⟩
end Go.Proofs.Ytmkkibaacclhnaa
