/-
  A step of the walk of the parser, the part named Qde: a text ends, a parser is closed. No theorem of the row.
-/
import Derived.Test.YtmkkibaacclhnaaPvx
import Derived.Test.YtmkkibaacclhnaaQf
import Derived.Test.YtmkkibaacclhnaaQb
import Derived.Test.YtmkkibaacclhnaaQp
namespace Go.Proofs.Ytmkkibaacclhnaa
open Go.RowKit

def nilS : Value := .slice none 0 0
set_option maxRecDepth 100000 in
set_option maxHeartbeats 4000000 in
theorem newParser_any (d : Nat) (h1 : 1 ≤ d) (h2 : d ≤ 1000) (w : World) :
    Calls Try.prog 25 #[.int .i64 (d : Int)] w fun e w' => e = .returned (.tuple #[.pointer (some ⟨w.heap.size, 0, none⟩), .int .i64 0]) ∧ w' = w.alloc (.cells (psCells (ps0 d) nilS nilS nilS nilS) 75) := by
  go_enter Try.func25, Try.ntmps25
  go_wp2
  go_ret2
  exact ⟨rfl, rfl⟩
theorem newParser_pr (d : Nat) (w : World) : PR w.heap.size (w.alloc (.cells (psCells (ps0 d) nilS nilS nilS nilS) 75)) nilS nilS nilS nilS (ps0 d) :=
  ⟨heap_alloc_new _ _, row_nil _ 81 4, row_nil _ 3 1, row_nil _ 5 1, row_nil _ 5 1, .inl rfl⟩

/-- what the end of a text leaves -/
def EndPost (B came : Nat) (S : Nat → Prop) (w : World) (r : List It × Nat) (e : Ending) (w' : World) : Prop :=
  ∃ V, e = .returned (.tuple #[V, .int .i64 (r.2 : Int)]) ∧ w'.ownsRow 0 81 4 V r.1.length (itsV r.1) ∧ (∀ i, V.ownBlock = some i → S i ∨ w.heap.size ≤ i) ∧ PErr B came S w w'
theorem EndPost.nil {B came : Nat} {S : Nat → Prop} {w w' : World} {n : Nat} {v : Int} (hv : v = (n : Int)) (h : PErr B came S w w') : EndPost B came S w ([], n) (.returned (.tuple #[.slice none 0 0, .int .i64 v])) w' := by
  subst hv
  exact ⟨_, rfl, row_nil _ 81 4, (fun i h => by cases h), h⟩

set_option maxRecDepth 100000 in
set_option maxHeartbeats 8000000 in
theorem end_any (B : Nat) (vi vo vt vm : Value) (s : Ps) (m k : Nat) (w : World) (h : PR B w vi vo vt vm s) (hq : Qv s vt vm) (hok : PsOk s m k) (hm : m ≤ 5000000) (hk : k ≤ 10000000) :
    Calls Try.prog 43 #[.pointer (some ⟨B, 0, none⟩)] w (EndPost B s.came (own B vi vo vt vm) w (psEnd s)) := by
  have hoo := h.oo
  obtain ⟨ao, no, co, rfl⟩ := row_shape3 hoo
  have hno := slice_len hoo
  subst hno
  have k2 := blk_cell h.blk (show (psCells s vi (.slice ao s.opn.length co) vt vm)[2]? = some (.int .i64 0) from rfl)
  have k4 := blk_cell h.blk (show (psCells s vi (.slice ao s.opn.length co) vt vm)[4]? = some (.int .i64 (s.st : Int)) from rfl)
  have k5 := blk_cell h.blk (show (psCells s vi (.slice ao s.opn.length co) vt vm)[5]? = some vi from rfl)
  have k6 := blk_cell h.blk (show (psCells s vi (.slice ao s.opn.length co) vt vm)[6]? = some (.slice ao s.opn.length co) from rfl)
  have hol := hok.c.oln
  have hst := hok.st
  unfold psEnd
  by_cases h7 : s.st = 7
  · by_cases ho : s.opn = []
    · rw [if_pos ⟨h7, ho⟩]
      have HE := hid (endToken_any B vi (.slice ao s.opn.length co) vt vm s m k w h (hq.2 (by omega) (by omega)) hok hm hk)
      have hl0 : s.opn.length = 0 := by rw [ho]; rfl
      rw [h7] at k4
      cases hx : psEndTok s with
      | error n =>
        rw [hx] at HE
        show Calls _ _ _ _ (EndPost _ _ _ _ (if n = 6 then ([], 6) else ([], 7)))
        by_cases h6 : n = 6
        · rw [if_pos h6]
          subst h6
          have HP := hid h
          rw [hl0] at k6 HE HP ⊢
          clear h hoo hol hok hst ho hx
          go_enter Try.func43, Try.ntmps43
          go_wp2_with fail
          refine Calls.mono HE.out ?_
          rintro e w2 ⟨rfl, hF⟩
          have HF := hid hF
          clear hF
          go_wp2
          go_ret2
          exact EndPost.nil rfl (PErr.same HP.out HF.out)
        · rw [if_neg h6]
          have hn6 : ((n : Int) == 6) = false := beq_eq_false_iff_ne.2 (by omega)
          have HP := hid h
          rw [hl0] at k6 HE HP ⊢
          clear h hoo hol hok hst ho hx
          go_enter Try.func43, Try.ntmps43
          go_wp2_with fail
          refine Calls.mono HE.out ?_
          rintro e w2 ⟨rfl, hF⟩
          have j4 := (hF.cell (p := ⟨B, 4, none⟩) (lt_of_block HP.out.blk) id).trans k4
          have HF := hid hF
          clear hF
          go_wp2
          go_ret2
          exact EndPost.nil rfl (PErr.same HP.out HF.out)
      | ok s' =>
        rw [hx] at HE
        simp only
        obtain ⟨q1, q2, q3⟩ := psEndTok_cameN hx
        rw [ho] at q2
        have HQ1 := hid q1
        rw [hl0] at k6 HE ⊢
        clear h hoo hol hok hst ho hx hq q1
        go_enter Try.func43, Try.ntmps43
        go_wp2_with fail
        refine Calls.mono HE.out ?_
        rintro e w2 ⟨rfl, hP⟩
        obtain ⟨ui, uo, ut, um, hC, hQ⟩ := hP
        have hoo := hC.pr.oo
        obtain ⟨bo, no, do', rfl⟩ := row_shape3 hoo
        have hno := slice_len hoo
        rw [q2] at hno
        obtain rfl : no = 0 := hno
        have j4 := blk_cell hC.pr.blk (show (psCells s' ui (.slice bo 0 do') ut um)[4]? = some (.int .i64 (s'.st : Int)) from rfl)
        have j5 := blk_cell hC.pr.blk (show (psCells s' ui (.slice bo 0 do') ut um)[5]? = some ui from rfl)
        have j6 := blk_cell hC.pr.blk (show (psCells s' ui (.slice bo 0 do') ut um)[6]? = some (.slice bo 0 do') from rfl)
        rw [q3] at j4
        have HC := hid hC
        clear hC hQ hoo q2 q3 k2 k4 k5 k6 HE h7 hl0 hm hk
        go_wp2
        go_ret2
        exact ⟨ui, rfl, HC.out.pr.oi, fun i hi => HC.out.ow i (.inr (.inl hi)), HQ1.out ▸ HC.out.err⟩
    · rw [if_neg (fun hh => ho hh.2), if_neg (fun hh => ho hh.2)]
      have hl0 : 0 < s.opn.length := List.length_pos_iff.2 ho
      rw [h7] at k4
      have HP := hid h
      clear h hoo hok hst ho hq
      go_enter Try.func43, Try.ntmps43
      go_wp2
      go_ret2
      exact EndPost.nil rfl (PErr.same HP.out (Fr.refl _ _))
  · have hs7 : ((s.st : Int) == 7) = false := beq_eq_false_iff_ne.2 (by omega)
    rw [if_neg (fun hh => h7 hh.1)]
    by_cases h5 : s.st = 5
    · by_cases ho : s.opn = []
      · rw [if_pos ⟨h5, ho⟩]
        have hl0 : s.opn.length = 0 := by rw [ho]; rfl
        have HP := hid h
        rw [h5] at k4 hs7
        rw [hl0] at k6 HP ⊢
        clear h hoo hol hok hst ho hq
        go_enter Try.func43, Try.ntmps43
        go_wp2
        go_ret2
        exact ⟨vi, rfl, HP.out.oi, fun i hi => .inl (.inr (.inl hi)), PErr.same HP.out (Fr.refl _ _)⟩
      · rw [if_neg (fun hh => ho hh.2)]
        have hl0 : 0 < s.opn.length := List.length_pos_iff.2 ho
        have HP := hid h
        rw [h5] at k4 hs7
        clear h hoo hok hst ho hq
        go_enter Try.func43, Try.ntmps43
        go_wp2
        go_ret2
        exact EndPost.nil rfl (PErr.same HP.out (Fr.refl _ _))
    · rw [if_neg (fun hh => h5 hh.1)]
      have hs5 : ((s.st : Int) != 5) = true := bne_iff_ne.2 (by omega)
      have HP := hid h
      clear h hoo hok hst hq
      go_enter Try.func43, Try.ntmps43
      go_wp2
      go_ret2
      exact EndPost.nil rfl (PErr.same HP.out (Fr.refl _ _))
end Go.Proofs.Ytmkkibaacclhnaa

namespace Go.Proofs.Ytmkkibaacclhnaa
open Go.RowKit

/-- what a parser has read -/
def Rd (B : Nat) (S : Nat → Prop) (w0 w : World) (R : Except (Nat × Nat) Ps) : Prop :=
  match R with
  | .ok s => PSt B S w0 w s
  | .error (n, c) => Gave B c n S w0 w
def closedCells : Array Value :=
  #[.int .i64 0, .int .i64 0, .int .i64 0, .bool true, .int .i64 0, .slice none 0 0, .slice none 0 0, .string (ofL []),
    .int .i64 0, .bool false, .slice none 0 0, .int .i64 0, .int .i64 0, .bool false,
    .int .i64 0, .slice none 0 0, .int .i64 0, .int .u8 0, .int .u8 0, .int .i64 0, .int .i32 0, .int .i32 0]
/-- what the closing leaves -/
def ClosePost (S : Nat → Prop) (w0 : World) (r : List It × Nat × Nat) (e : Ending) (w' : World) : Prop :=
  ∃ V, e = .returned (.tuple #[V, .int .i64 (r.2.1 : Int), .int .i64 (r.2.2 : Int)]) ∧ w'.ownsRow 0 81 4 V r.1.length (itsV r.1) ∧ (∀ i, V.ownBlock = some i → S i ∨ w0.heap.size ≤ i) ∧ Fr S w0 w'
theorem ClosePost.base {S T : Nat → Prop} {w0 w w' : World} {r : List It × Nat × Nat} {e : Ending} (hF : Fr S w0 w) (hT : ∀ i, T i → S i ∨ w0.heap.size ≤ i) (h : ClosePost T w r e w') : ClosePost S w0 r e w' := by
  obtain ⟨V, a, b, c, d⟩ := h
  refine ⟨V, a, b, ?_, hF.trans' d hT⟩
  intro i hi
  rcases c i hi with h1 | h1
  · exact hT i h1
  · have := hF.size
    exact .inr (by omega)
theorem closed_one : closedCells.all (·.oneCell') = true := by simp [closedCells, Value.oneCell']
theorem rowRow {w : World} {B e size n : Nat} {v : Value} {xs : List Value} (h : w.ownsRow 0 e size v n xs) (hb : v.ownBlock ≠ some B) (cs : Array Value) : (w.setRow B cs).ownsRow 0 e size v n xs := by
  refine ⟨h.1, ?_⟩
  rcases h.2 with h2 | ⟨g, cap, cur, hv, h3, hg, h4⟩
  · exact .inl h2
  · refine .inr ⟨g, cap, cur, hv, h3, ?_, h4⟩
    rw [setRow_other w B g cs (by intro e; apply hb; rw [hv, ← e]; rfl)]
    exact hg

set_option maxRecDepth 100000 in
set_option maxHeartbeats 8000000 in
theorem close_end (B came : Nat) (S : Nat → Prop) (w : World) (r : List It × Nat) (k3 : w.cell? ⟨B, 3, none⟩ = some (.bool false)) (hS : S B ∨ w.heap.size ≤ B) (he : Calls Try.prog 43 #[.pointer (some ⟨B, 0, none⟩)] w (EndPost B came S w r)) :
    Calls Try.prog 27 #[.pointer (some ⟨B, 0, none⟩)] w (ClosePost S w (r.1, r.2, came)) := by
  have HE := hid he
  have HS := hid hS
  clear he hS
  go_enter Try.func27, Try.ntmps27
  go_wp2_with fail
  refine Calls.mono HE.out ?_
  rintro e w2 ⟨V, rfl, hrow, hnew, cs, hblk, hsz, hc1, hF⟩
  have j1 := blk_cell hblk hc1
  have HR := hid (rowRow hrow (rowT hrow hblk (by decide)) closedCells)
  have HN := hid hnew
  have HF := hid (hF.setRow HS.out closedCells)
  have HB := hid hblk
  have HZ := hid hsz
  clear hrow hnew hF hblk hsz hc1
  go_wp2_with (refine wpList_store_row rfl 75 _ _ rfl B closedCells rfl rfl 75 cs HB.out Try.info75R HZ.out closed_one ?_)
  go_ret3
  exact ⟨V, rfl, HR.out, HN.out, HF.out⟩

set_option maxRecDepth 100000 in
set_option maxHeartbeats 8000000 in
theorem end_wrong (B c n : Nat) (S : Nat → Prop) (w : World) (h : w.heap[B]? = some (.cells (wrongCells c n) 75 (0, 0))) (hn : n ≠ 0) :
    Calls Try.prog 43 #[.pointer (some ⟨B, 0, none⟩)] w (EndPost B c S w ([], n)) := by
  have k2 := blk_cell h (show (wrongCells c n)[2]? = some (.int .i64 (n : Int)) from rfl)
  have hs : ((n : Int) != 0) = true := bne_iff_ne.2 (by omega)
  have HE := hid (show PErr B c S w w.drew from ⟨_, h, rfl, rfl, (Fr.refl _ _).drew⟩)
  clear h hn
  go_enter Try.func43, Try.ntmps43
  go_wp2
  go_region
  all_goals
    go_wp2
    go_ret2
    exact EndPost.nil rfl HE.out

theorem close_any (B d : Nat) (S : Nat → Prop) (w0 w : World) (l : List UInt8) (h1 : 1 ≤ d) (h2 : d ≤ 1000) (hl : l.length ≤ 1500000) (hS : S B ∨ w0.heap.size ≤ B) (h : Rd B S w0 w (psRun (ps0 d) l)) :
    Calls Try.prog 27 #[.pointer (some ⟨B, 0, none⟩)] w (ClosePost S w0 (psFin (psRun (ps0 d) l))) := by
  cases hx : psRun (ps0 d) l with
  | error x =>
    obtain ⟨n, c⟩ := x
    rw [hx] at h
    obtain ⟨hb, hF⟩ := h
    refine (close_end B c (fun i => i = B) w ([], n) (blk_cell hb rfl) (.inl rfl) (end_wrong B c n _ w hb (psRun_err hx).1)).mono ?_
    intro e w' hp
    exact ClosePost.base hF (fun i h => by subst h; exact hS) hp
  | ok s =>
    rw [hx] at h
    obtain ⟨vi, vo, vt, vm, hC, hQ⟩ := h
    have hok := psRun_ok (ps0_ok d h1 h2) hx
    refine (close_end B s.came _ w (psEnd s) (blk_cell hC.pr.blk rfl) (.inl (.inl rfl)) (end_any B vi vo vt vm s _ _ w hC.pr hQ hok (by omega) (by omega))).mono ?_
    intro e w' hp
    exact ClosePost.base hC.fr hC.ow hp
end Go.Proofs.Ytmkkibaacclhnaa
