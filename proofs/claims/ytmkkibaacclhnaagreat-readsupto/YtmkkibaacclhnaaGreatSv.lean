/-
  A step of the walk, the part named Sv. No theorem of the row.
-/
import Derived.Test.YtmkkibaacclhnaaGreatQgh
import Derived.Deep.RegionHeld3
namespace Go.Proofs.YtmkkibaacclhnaaGreat
open Go.RowKit

set_option maxRecDepth 100000 in
set_option maxHeartbeats 40000000 in
theorem closeRef_no (w : World) (B d : Nat) (l : List UInt8) (h : w.heap[B]? = some (.cells (rpCells d l true) 85 (0, 0))) :
    Calls Tryz.prog 16 #[.pointer (some ⟨B, 0, none⟩)] w fun x w' => x = .returned (.tuple #[.slice none 0 0, .int .i64 1, .int .i64 0]) ∧ w' = w := by
  have k2 := blk_cell h (show (rpCells d l true)[2]? = some (.bool true) from rfl)
  clear h
  go_enter Tryz.func16, Tryz.ntmps16
  go_wp2
  go_ret3
  exact ⟨rfl, rfl⟩
set_option maxRecDepth 100000 in
set_option maxHeartbeats 40000000 in
theorem closeRef_yes (w : World) (B d : Nat) (l : List UInt8) (hl : l.length ≤ 1800000) (hd : d ≤ 1000) (h : w.heap[B]? = some (.cells (rpCells d l false) 85 (0, 0))) :
    Calls Tryz.prog 16 #[.pointer (some ⟨B, 0, none⟩)] w fun x w' => ∃ v, x = .returned (.tuple #[v, .int .i64 ((rFin d l true).2.1 : Int), .int .i64 ((rFin d l true).2.2 : Int)]) ∧ w'.ownsRow 0 59 4 v (rFin d l true).1.length (itsV (rFin d l true).1) ∧ w'.heap[B]? = some (.cells (rpCells d l true) 85 (0, 0)) ∧ Fr (fun i => i = B) w w' ∧ ∀ i, v.ownBlock = some i → w.heap.size ≤ i := by
  have k0 := blk_cell h (show (rpCells d l false)[0]? = some (.int .i64 (d : Int)) from rfl)
  have k1 := blk_cell h (show (rpCells d l false)[1]? = some (.string (ofL l)) from rfl)
  have k2 := blk_cell h (show (rpCells d l false)[2]? = some (.bool false) from rfl)
  have f2 := blk_free (j := 2) h
  have hb : (w.setCell ⟨B, 2, none⟩ (.bool true)).heap[B]? = some (.cells (rpCells d l true) 85 (0, 0)) := heap_setCell_same w B 2 _ 85 _ h
  have HFr := hid ((Fr.refl (fun i => i = B) w).setCell (p := ⟨B, 2, none⟩) (.inl rfl) (.bool true))
  have HB := hid hb
  have J0 := hid (blk_cell hb (show (rpCells d l true)[0]? = some (.int .i64 (d : Int)) from rfl))
  have J1 := hid (blk_cell hb (show (rpCells d l true)[1]? = some (.string (ofL l)) from rfl))
  have hBl := lt_of_block hb
  have HR := hid (fun w' => rread_any w' l d true hl hd)
  obtain ⟨U, hU⟩ : ∃ U, rFin d l true = U := ⟨_, rfl⟩
  rw [hU] at HR ⊢
  have HBl := hid hBl
  have HSz := hid (World.size_setCell (w := w) (a := ⟨B, 2, none⟩) (v := .bool true))
  clear h hb hU hl hBl
  go_enter Tryz.func16, Tryz.ntmps16
  go_wp2_with fail
  go_region_held3 (fun w' => w'.cell? ⟨B, 0, none⟩ = some (.int .i64 (d : Int)) ∧ w'.cell? ⟨B, 1, none⟩ = some (.string (ofL l))) (first | exact ⟨J0.out, J1.out⟩ | exact ⟨m0, m1⟩ | go_keep) (first | (go_at_call 26; refine Calls.mono (HR.out _) ?_; rintro x w2 ⟨v, rfl, hown, hF, hnew⟩; obtain ⟨a9, n9, c9, rfl⟩ := row_shape3 hown; have hb2 : w2.heap[B]? = some (.cells (rpCells d l true) 85 (0, 0)) := (hF.block B HBl.out (fun h => h)).trans HB.out; have m0 : w2.cell? ⟨B, 0, none⟩ = some (.int .i64 (d : Int)) := blk_cell hb2 rfl; have m1 : w2.cell? ⟨B, 1, none⟩ = some (.string (ofL l)) := blk_cell hb2 rfl; have HF := hid hF; have HB2 := hid hb2; have HO := hid hown; have HN := hid hnew; clear hown hF hnew hb2))
  all_goals
    go_wp2
    go_ret3
    refine ⟨_, rfl, HO.out, ?_, ?_, ?_⟩
    · exact HB2.out
    · exact ((HFr.out.drewN _).trans (HF.out.mono (fun i hi => hi.elim)))
    · intro i hi
      have := HN.out i hi
      exact Nat.le_trans (Nat.le_of_eq HSz.out.symm) this
set_option maxRecDepth 100000 in
set_option maxHeartbeats 40000000 in
theorem newParser_no (w : World) (n : Int) (hn : n < 1 ∨ 1000 < n) :
    Calls Tryz.prog 11 #[.int .i64 n] w fun x w' => x = .returned (.tuple #[.pointer none, .int .i64 1]) ∧ w' = w := by
  by_cases h1 : n < 1
  · clear hn
    go_enter Tryz.func11, Tryz.ntmps11
    go_wp2
    go_ret2
    exact ⟨rfl, rfl⟩
  · have h2 : 1000 < n := by omega
    clear hn
    go_enter Tryz.func11, Tryz.ntmps11
    go_wp2
    go_ret2
    exact ⟨rfl, rfl⟩
set_option maxRecDepth 100000 in
set_option maxHeartbeats 40000000 in
theorem close_shut (w : World) (B : Nat) (h : w.heap[B]? = some (.cells closedCells 83 (0, 0))) :
    Calls Tryz.prog 15 #[.pointer (some ⟨B, 0, none⟩)] w fun x w' => x = .returned (.tuple #[.slice none 0 0, .int .i64 1, .int .i64 0]) ∧ w' = w := by
  have k3 := blk_cell h (show closedCells[3]? = some (.bool true) from rfl)
  clear h
  go_enter Tryz.func15, Tryz.ntmps15
  go_wp2
  go_ret3
  exact ⟨rfl, rfl⟩
set_option maxRecDepth 100000 in
set_option maxHeartbeats 40000000 in
theorem feed_shut (w : World) (B : Nat) (l : List UInt8) (h : w.heap[B]? = some (.cells closedCells 83 (0, 0))) :
    Calls Tryz.prog 13 #[.pointer (some ⟨B, 0, none⟩), .string (ofL l)] w fun x w' => x = .returned (.int .i64 1) ∧ Fr (fun _ => False) w w' := by
  have hbb : ∀ a b, ((w.alloc a).alloc b).heap[B]? = some (.cells closedCells 83 (0, 0)) := fun a b => by
    have hB := lt_of_block h
    rw [Below.heap_alloc _ _ _ (by simp; omega), Below.heap_alloc _ _ _ hB]; exact h
  have k3 := fun a b => blk_cell (hbb a b) (show closedCells[3]? = some (.bool true) from rfl)
  have HF := hid (fun a b => ((Fr.refl (fun _ => False) w).alloc a).alloc b)
  clear h hbb
  go_enter_defers Tryz.func13, Tryz.ntmps13
  go_wp2
  simp [bodyPostD, Leaves, results, Tryz.results13, go_sem]
  exact HF.out _ _
set_option maxRecDepth 100000 in
set_option maxHeartbeats 40000000 in
theorem close_endS (B came : Nat) (S : Nat → Prop) (w : World) (r : List It × Nat) (k3 : w.cell? ⟨B, 3, none⟩ = some (.bool false)) (hS : S B ∨ w.heap.size ≤ B) (he : Calls Tryz.prog 27 #[.pointer (some ⟨B, 0, none⟩)] w (EndPost B came S w r)) :
    Calls Tryz.prog 15 #[.pointer (some ⟨B, 0, none⟩)] w fun e w' => ClosePost S w (r.1, r.2, came) e w' ∧ w'.heap[B]? = some (.cells closedCells 83 (0, 0)) := by
  have HE := hid he
  have HS := hid hS
  clear he hS
  go_enter Tryz.func15, Tryz.ntmps15
  go_wp2_with fail
  refine Calls.mono HE.out ?_
  rintro e w2 ⟨V, rfl, hrow, hnew, cs, hblk, hsz, hc1, hF⟩
  have j1 := blk_cell hblk hc1
  have HR := hid (rowRow hrow (rowT hrow hblk (by decide)) closedCells)
  have HN := hid hnew
  have HF := hid (hF.setRow HS.out closedCells)
  have HB := hid hblk
  have HZ := hid hsz
  have HC := hid (setRow_heap w2 B cs closedCells 83 (0, 0) hblk)
  clear hrow hnew hF hblk hsz hc1
  go_wp2_with (refine wpList_store_row rfl 83 _ _ rfl B closedCells rfl rfl 83 cs HB.out Tryz.info75R HZ.out closed_one ?_)
  go_ret3
  exact ⟨⟨V, rfl, HR.out, HN.out, HF.out⟩, HC.out⟩
theorem close_anyS (B d : Nat) (S : Nat → Prop) (w0 w : World) (l : List UInt8) (h1 : 1 ≤ d) (h2 : d ≤ 1000) (hl : l.length ≤ 1500000) (hS : S B ∨ w0.heap.size ≤ B) (h : Rd B S w0 w (psRun (ps0 d) l)) :
    Calls Tryz.prog 15 #[.pointer (some ⟨B, 0, none⟩)] w fun e w' => ClosePost S w0 (psFin (psRun (ps0 d) l)) e w' ∧ w'.heap[B]? = some (.cells closedCells 83 (0, 0)) := by
  cases hx : psRun (ps0 d) l with
  | error x =>
    obtain ⟨n, c⟩ := x
    rw [hx] at h
    obtain ⟨hb, hF⟩ := h
    refine (close_endS B c (fun i => i = B) w ([], n) (blk_cell hb rfl) (.inl rfl) (end_wrong B c n _ w hb (psRun_err hx).1)).mono ?_
    rintro e w' ⟨hp, hq⟩
    exact ⟨ClosePost.base hF (fun i h => by subst h; exact hS) hp, hq⟩
  | ok s =>
    rw [hx] at h
    obtain ⟨vi, vo, vt, vm, hC, hQ⟩ := h
    have hok := psRun_ok (ps0_ok d h1 h2) hx
    refine (close_endS B s.came _ w (psEnd s) (blk_cell hC.pr.blk rfl) (.inl (.inl rfl)) (end_any B vi vo vt vm s _ _ w hC.pr hQ hok (by omega) (by omega))).mono ?_
    rintro e w' ⟨hp, hq⟩
    exact ⟨ClosePost.base hC.fr hC.ow hp, hq⟩
end Go.Proofs.YtmkkibaacclhnaaGreat

namespace Go.Proofs.YtmkkibaacclhnaaGreat
open Go.RowKit

theorem psEnd_len (s : Ps) : (psEnd s).1.length ≤ s.items.length + 1 := by
  unfold psEnd
  split
  · split
    · split <;> simp
    · rename_i s' h
      unfold psEndTok at h
      split at h
      · cases h
      · cases h
        show (bump _ _).length ≤ _
        rw [bump_len]
        simp
  · split
    · simp
    · simp
theorem psFin_len (d : Nat) (l : List UInt8) (h1 : 1 ≤ d) (h2 : d ≤ 1000) : (psFin (psRun (ps0 d) l)).1.length ≤ 3 * l.length + 1 := by
  cases hx : psRun (ps0 d) l with
  | error x => obtain ⟨n, c⟩ := x; exact Nat.zero_le _
  | ok s =>
    have := (psRun_ok (ps0_ok d h1 h2) hx).c.iln
    have h3 := psEnd_len s
    show (psEnd s).1.length ≤ _
    omega
end Go.Proofs.YtmkkibaacclhnaaGreat

namespace Go.Proofs.YtmkkibaacclhnaaGreat
open Go.RowKit

theorem Rd.fr {B : Nat} {S : Nat → Prop} {w0 w : World} {R : Except (Nat × Nat) Ps} (h : Rd B S w0 w R) : Fr S w0 w := by
  revert h
  cases R with
  | ok s => rintro ⟨_, _, _, _, hC, _⟩; exact hC.fr
  | error x => obtain ⟨n, c⟩ := x; rintro ⟨_, hF⟩; exact hF
end Go.Proofs.YtmkkibaacclhnaaGreat

namespace Go.Proofs.YtmkkibaacclhnaaGreat
open Go.RowKit

/-- a row whose block is as it was -/
theorem rowSame {w w' : World} {e size n : Nat} {v : Value} {xs : List Value} (h : w.ownsRow 0 e size v n xs) (hk : ∀ i, v.ownBlock = some i → w'.heap[i]? = w.heap[i]?) : w'.ownsRow 0 e size v n xs := by
  refine ⟨h.1, ?_⟩
  rcases h.2 with h2 | ⟨g, cap, cur, hv, h3, hg, h4⟩
  · exact .inl h2
  · exact .inr ⟨g, cap, cur, hv, h3, by rw [hk g (by rw [hv]; rfl)]; exact hg, h4⟩
theorem rowIn {w : World} {e size n : Nat} {v : Value} {xs : List Value} (h : w.ownsRow 0 e size v n xs) {i : Nat} (hi : v.ownBlock = some i) : i < w.heap.size := by
  rcases h.2 with ⟨h2, _⟩ | ⟨g, cap, cur, hv, h3, hg, h4⟩
  · rw [h2] at hi; cases hi
  · rw [hv] at hi
    have : g = i := by simpa [Value.ownBlock] using hi
    subst this
    exact lt_of_block hg
/-- a parser of the program's, open (its depth, what came) or closed, and the blocks that are its own -/
def PAt (B : Nat) (F : Nat → Prop) (w : World) (st : Option (Nat × List UInt8)) : Prop := F B ∧ (∀ i, F i → i < w.heap.size) ∧ match st with
  | some (d, l) => Rd B F w w (psRun (ps0 d) l)
  | none => w.heap[B]? = some (.cells closedCells 83 (0, 0))
theorem Rd.keep {B : Nat} {F : Nat → Prop} {w w' : World} {R : Except (Nat × Nat) Ps} (hB : F B) (h : Rd B F w w R) (hk : ∀ i, F i → w'.heap[i]? = w.heap[i]?) : Rd B F w' w' R := by
  cases R with
  | error x =>
    obtain ⟨n, c⟩ := x
    obtain ⟨h1, h2⟩ := h
    exact ⟨by rw [hk B hB]; exact h1, Fr.refl _ _⟩
  | ok s =>
    obtain ⟨vi, vo, vt, vm, ⟨⟨a, b, c, d, e, f⟩, _, hw⟩, hq⟩ := h
    have key : ∀ i, own B vi vo vt vm i → F i := by
      intro i hi
      rcases hw i hi with h1 | h1
      · exact h1
      · exfalso
        have : i < w.heap.size := by
          rcases hi with rfl | hi | hi | hi | hi
          · exact lt_of_block a
          · exact rowIn b hi
          · exact rowIn c hi
          · exact rowIn d hi
          · exact rowIn e hi
        omega
    refine ⟨vi, vo, vt, vm, ⟨⟨by rw [hk B hB]; exact a, rowSame b fun i hi => hk i (key i (.inr (.inl hi))), rowSame c fun i hi => hk i (key i (.inr (.inr (.inl hi)))), rowSame d fun i hi => hk i (key i (.inr (.inr (.inr (.inl hi))))), rowSame e fun i hi => hk i (key i (.inr (.inr (.inr (.inr hi))))), f⟩, Fr.refl _ _, fun i hi => .inl (key i hi)⟩, hq⟩
/-- the blocks that may be its own behind a step -/
def grow (F : Nat → Prop) (w w' : World) (i : Nat) : Prop := (F i ∨ w.heap.size ≤ i) ∧ i < w'.heap.size
theorem Rd.base {B : Nat} {F : Nat → Prop} {w w' : World} {R : Except (Nat × Nat) Ps} (h : Rd B F w w' R) : Rd B (grow F w w') w' w' R := by
  cases R with
  | error x =>
    obtain ⟨n, c⟩ := x
    obtain ⟨h1, h2⟩ := h
    exact ⟨h1, Fr.refl _ _⟩
  | ok s =>
    obtain ⟨vi, vo, vt, vm, ⟨p, _, hw⟩, hq⟩ := h
    refine ⟨vi, vo, vt, vm, ⟨p, Fr.refl _ _, fun i hi => ?_⟩, hq⟩
    by_cases hlt : i < w'.heap.size
    · exact .inl ⟨hw i hi, hlt⟩
    · exact .inr (by omega)
theorem PAt.keep {B : Nat} {F : Nat → Prop} {w w' : World} {st : Option (Nat × List UInt8)} (h : PAt B F w st) (hk : ∀ i, F i → w'.heap[i]? = w.heap[i]?) (hs : w.heap.size ≤ w'.heap.size) : PAt B F w' st := by
  obtain ⟨h1, h2, h3⟩ := h
  refine ⟨h1, fun i hi => Nat.lt_of_lt_of_le (h2 i hi) hs, ?_⟩
  cases st with
  | none => exact (hk B h1).trans h3
  | some x => exact Rd.keep h1 h3 hk
theorem PAt.new (w : World) (d : Nat) : PAt w.heap.size (fun i => i = w.heap.size) (w.alloc (.cells (psCells (ps0 d) nilS nilS nilS nilS) 83)) (some (d, [])) := by
  refine ⟨rfl, fun i hi => by subst hi; simp, ⟨nilS, nilS, nilS, nilS, ⟨newParser_pr d w, Fr.refl _ _, ?_⟩, fun _ => rfl, fun _ _ => rfl⟩⟩
  intro i hi
  rcases hi with rfl | hi | hi | hi | hi
  · exact .inl rfl
  all_goals cases hi
/-- a piece more -/
theorem PAt.feed {B : Nat} {F : Nat → Prop} {w : World} {d : Nat} {l : List UInt8} (h : PAt B F w (some (d, l))) (a : List UInt8) (h1 : 1 ≤ d) (h2 : d ≤ 1000) (hl : l.length + a.length ≤ 1500000) :
    Calls Tryz.prog 13 #[.pointer (some ⟨B, 0, none⟩), .string (ofL a)] w fun e w' => e = .returned (.int .i64 ((errOf (psRun (ps0 d) (l ++ a)) : Nat) : Int)) ∧ PAt B (grow F w w') w' (some (d, l ++ a)) ∧ Fr F w w' := by
  obtain ⟨hB, hF, hR⟩ := h
  refine (feed_any B d F w w l a h1 h2 hl hR).mono ?_
  rintro e w' ⟨he, hR'⟩
  have hfr := hR'.fr
  exact ⟨he, ⟨⟨.inl hB, Nat.lt_of_lt_of_le (hF B hB) hfr.size⟩, fun i hi => hi.2, hR'.base⟩, hfr⟩
/-- the end -/
theorem PAt.close {B : Nat} {F : Nat → Prop} {w : World} {d : Nat} {l : List UInt8} (h : PAt B F w (some (d, l))) (h1 : 1 ≤ d) (h2 : d ≤ 1000) (hl : l.length ≤ 1500000) :
    Calls Tryz.prog 15 #[.pointer (some ⟨B, 0, none⟩)] w fun e w' => ClosePost F w (psFin (psRun (ps0 d) l)) e w' ∧ PAt B (fun i => i = B) w' none := by
  obtain ⟨hB, hF, hR⟩ := h
  refine (close_anyS B d F w w l h1 h2 hl (.inl hB) hR).mono ?_
  rintro e w' ⟨hc, hb⟩
  exact ⟨hc, rfl, fun i hi => by subst hi; exact lt_of_block hb, hb⟩
end Go.Proofs.YtmkkibaacclhnaaGreat
