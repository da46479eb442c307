/-
  A step of the walk, the part named Wq. No theorem of the row.
-/
import Derived.Test.YtmkkibaacclhnaaGreatDoorXcd
import Derived.Lib.OthersKept
import Derived.Test.YtmkkibaacclhnaaGreatDoorSa
import Derived.Test.YtmkkibaacclhnaaGreatDoorVh
import Derived.Test.YtmkkibaacclhnaaGreatDoorWt
import Derived.Laws.AppendOwnNone
namespace Go.Proofs.YtmkkibaacclhnaaGreatDoor
open Go.RowKit

theorem row_no_iter {w : World} {e size n : Nat} {v : Value} {xs : List Value} {k pos : Nat} {s : ByteArray} (h : w.ownsRow 0 e size v n xs) (hk : w.heap[k]? = some (.stringIter s pos)) : v.ownBlock ≠ some k := by
  rcases h.2 with ⟨h2, _⟩ | ⟨g, cap, cur, hv, h3, hg, h4⟩
  · rw [h2]; intro e; cases e
  · rw [hv]
    intro e
    have : g = k := by simpa [Value.ownBlock] using e
    subst this
    rw [hk] at hg
    cases hg
/-- how far a text has been written -/
structure TxAt (B : Nat) (w : World) (vi vb : Value) (nx ind : Int) (so : Bool) (op : Nat) (vo : Value) (pre s : List UInt8) (k pos : Nat) (wr : World) : Prop where
  it : wr.heap[k]? = some (.stringIter (ofL s) pos)
  kw : w.heap.size ≤ k
  le : pos ≤ s.length
  u : uGo (s.length - pos) (s.drop pos) = true
  po : WPost B w vi vb nx ind so op vo (pre ++ (s.take pos).flatMap quoteB) wr
theorem TxAt.next {B : Nat} {w : World} {vi vb : Value} {nx ind : Int} {so : Bool} {op : Nat} {vo : Value} {pre s : List UInt8} {k pos : Nat} {wr : World} (h : TxAt B w vi vb nx ind so op vo pre s k pos wr) (hB : B < w.heap.size) (hp : pos < s.length) (hpre : pre.length + 6 * s.length ≤ 99999990000) :
    ∃ n x, Utf8.decode (ofL s) pos = (x, n) ∧ 1 ≤ n ∧ pos + n ≤ s.length ∧ Calls Tryz.prog 72 #[.pointer (some ⟨B, 0, none⟩), .int .i32 (x : Int)] (wr.iterAt k (ofL s) (pos + n)) fun e w' => e = .returned (.tuple #[]) ∧ TxAt B w vi vb nx ind so op vo pre s k (pos + n) w' := by
  obtain ⟨h1, h2, h3, h4, vo1, hW, hF, hN⟩ := h
  obtain ⟨f, hf⟩ : ∃ f, s.length - pos = f + 1 := ⟨s.length - pos - 1, by omega⟩
  have hdr : s.drop pos = s[pos] :: s.drop (pos + 1) := List.drop_eq_getElem_cons hp
  rw [hf, hdr] at h4
  obtain ⟨n, x, hch, hu⟩ := u_char s pos f _ _ hdr h4
  refine ⟨n, x, hch.de, hch.n1, hch.le, ?_⟩
  have hkB : B ≠ k := by omega
  have hkv := row_no_iter hW.row h1
  have hW2 : WAt B (wr.iterAt k (ofL s) (pos + n)) vi vb nx ind so op (.pointer (some ⟨B, 6, none⟩)) vo1 (pre ++ (s.take pos).flatMap quoteB) := by
    refine ⟨by rw [Lib.iterAt_other _ _ _ _ _ hkB]; exact hW.blk, hW.adr, ?_⟩
    refine ⟨hW.row.1, ?_⟩
    rcases hW.row.2 with h | ⟨g, cap, cur, hv, g3, hg, g4⟩
    · exact .inl h
    · exact .inr ⟨g, cap, cur, hv, g3, by rw [Lib.iterAt_other _ _ _ _ _ (by rintro rfl; exact hkv (by rw [hv]; rfl))]; exact hg, g4⟩
  have hit2 := Lib.iterAt_heap wr k (ofL s) pos (pos + n) h1
  have hlen : (pre ++ (s.take pos).flatMap quoteB).length ≤ 99999990000 := by
    have := quote_len (s.take pos)
    rw [List.length_append]
    rw [List.length_take] at this
    omega
  have hF2 : Fr (fun i => i = B ∨ vo.ownBlock = some i) w (wr.iterAt k (ofL s) (pos + n)) := hF.trans' (T := fun i => i = k) ⟨rfl, rfl, rfl, by rw [Lib.iterAt_size]; exact Nat.le_refl _, fun i _ hi => Lib.iterAt_other _ _ _ _ _ hi⟩ (fun i hi => .inr (by omega))
  refine (writeCharacter_any B _ vi vb nx ind so op _ vo1 _ x hW2 hlen hch.va).mono ?_
  rintro e w' ⟨he, hP⟩
  have hP2 := WPost.trans hF2 hN hP
  obtain ⟨vo3, hW3, hF3, hN3⟩ := hP
  refine ⟨he, ?_, h2, hch.le, ?_, ?_⟩
  · rw [hF3.block k (by rw [Lib.iterAt_size]; exact (Array.getElem?_eq_some_iff.1 h1).1) ?_]
    · exact hit2
    · rintro (h | h)
      · exact hkB h.symm
      · exact hkv h
  · have hn1 := hch.n1
    rw [uGo_up _ f _ (by simp) (by simp; omega)]
    exact hu
  · have e1 : pre ++ (s.take pos).flatMap quoteB ++ quoteR x = pre ++ (s.take (pos + n)).flatMap quoteB := by
      rw [hch.quote, List.append_assoc, ← List.flatMap_append, List.take_add]
    rw [← e1]
    exact hP2
theorem TxAt.start {B : Nat} {w w1 : World} {vi vb : Value} {nx ind : Int} {so : Bool} {op : Nat} {vo : Value} {pre s : List UInt8} (h : WPost B w vi vb nx ind so op vo pre w1) (hu : isU s = true) : TxAt B w vi vb nx ind so op vo pre s w1.heap.size 0 (w1.iter (ofL s) 0) := by
  obtain ⟨vo1, hW, hF, hN⟩ := h
  refine ⟨World.iter_heap w1 _ 0, hF.size, Nat.zero_le _, hu, vo1, ?_, hF.alloc _, hN⟩
  refine ⟨(Below.heap_alloc w1 _ B (lt_of_block hW.blk)).trans hW.blk, hW.adr, ?_⟩
  simpa [World.iter] using hW.row.alloc (.stringIter (ofL s) 0)
set_option maxRecDepth 100000 in
set_option maxHeartbeats 8000000 in
theorem writeText_any (B : Nat) (w : World) (vi vb : Value) (nx ind : Int) (so : Bool) (op : Nat) (ad vo : Value) (bs s : List UInt8) (h : WAt B w vi vb nx ind so op ad vo bs) (hu : isU s = true) (hl : bs.length + 6 * s.length ≤ 99999980000) :
    Calls Tryz.prog 43 #[.pointer (some ⟨B, 0, none⟩), .string (ofL s)] w fun e w' => e = .returned (.tuple #[]) ∧ WPost B w vi vb nx ind so op vo (bs ++ quoteL s) w' := by
  have hB := lt_of_block h.blk
  have hsz := ofL_size s
  have H1 := hid (show Calls Tryz.prog 44 #[.pointer (some ⟨B, 6, none⟩), .int .u8 34] w _ from writeByte_any B w vi vb nx ind so op ad vo bs 34 h (by omega))
  have HU := hid hu
  have HB := hid hB
  clear h hu hB
  go_enter Tryz.func43, Tryz.ntmps43
  go_wp2_with fail
  refine Calls.mono H1.out ?_
  rintro e w1 ⟨rfl, hP⟩
  have HT := hid (TxAt.start hP HU.out)
  clear hP H1
  go_wp2
  go_loopw [] (fun wr => ∃ pos : Nat, Hid (TxAt B w vi vb nx ind so op vo (bs ++ [34]) s w1.heap.size pos wr)) (fun wr => s.length - wr.iterPos w1.heap.size)
  case atStart => exact ⟨0, HT⟩
  case round =>
    clear HT
    obtain ⟨pos, hT⟩ := hrel
    have hit := hT.out.it
    have HIT := hid hit
    by_cases hp : pos < s.length
    · obtain ⟨n, x, hde, hn1, hle, hcall⟩ := hT.out.next HB.out hp (by simp; omega)
      have hnx : ∀ ty, (Instr.next (.pointer (some ⟨w1.heap.size, 0, none⟩)) true ty).run Tryz.prog wr = .ok (.tuple #[.bool true, .int .i64 (pos : Int), .int .i32 (x : Int)]) (wr.iterAt w1.heap.size (ofL s) (pos + n)) := fun ty => by
        have := Lib.run_next_any_at (P := Tryz.prog) wr w1.heap.size (ofL s) pos ty hit (by rw [hsz]; exact hp)
        rw [hde] at this
        exact this
      have HC := hid hcall
      have HNN := hid (And.intro hn1 hle)
      clear hcall hde hn1 hle hit hT
      go_wp2_with fail
      refine Calls.mono HC.out ?_
      rintro e w2 ⟨rfl, hT2⟩
      have HT2 := hid hT2
      clear hT2
      go_wp2
      go_roundw
      case rel => exact ⟨pos + n, HT2⟩
      case measure =>
        have := HNN.out
        simp only [World.iterPos, HT2.out.it, HIT.out]
        omega
    · have hpe : pos = s.length := by have := hT.out.le; omega
      subst hpe
      have hnx : ∀ ty, (Instr.next (.pointer (some ⟨w1.heap.size, 0, none⟩)) true ty).run Tryz.prog wr = _ := fun ty => Lib.run_next_end_at (P := Tryz.prog) wr w1.heap.size (ofL s) s.length ty hit (by rw [hsz]; omega)
      obtain ⟨vo1, hW1, hF1, hN1⟩ := hT.out.po
      rw [List.take_length] at hW1
      have K1 := hid (And.intro hF1 hN1)
      have H2 := hid (show Calls Tryz.prog 44 #[.pointer (some ⟨B, 6, none⟩), .int .u8 34] wr _ from writeByte_any B wr vi vb nx ind so op _ vo1 _ 34 hW1 (by have := quote_len s; rw [List.length_append, List.length_append, List.length_singleton]; omega))
      clear hW1 hF1 hN1 hT hit
      go_wp2_with fail
      refine Calls.mono H2.out ?_
      rintro e w2 ⟨rfl, hP⟩
      have KP := hid (WPost.trans K1.out.1 K1.out.2 hP)
      clear hP
      go_wp2
      go_end0
      refine ⟨rfl, ?_⟩
      have := KP.out
      simpa [quoteL] using this
end Go.Proofs.YtmkkibaacclhnaaGreatDoor

namespace Go.Proofs.YtmkkibaacclhnaaGreatDoor
open Go.RowKit

/-- a key as it is written -/
def headL (indent : Int) (key : List UInt8) : List UInt8 := quoteL key ++ 58 :: (if indent = -1 then [] else [32])
theorem WPost.keepI {B : Nat} {w w' : World} {vi vb : Value} {nx ind : Int} {so : Bool} {op : Nat} {ad vo V : Value} {bs bs' : List UInt8} {l : List Im} (h : WPost B w vi vb nx ind so op vo bs' w') (hW : WAt B w vi vb nx ind so op ad vo bs) (hI : ItAt w V l) : ItAt w' V l := by
  obtain ⟨vo', h1, h2, h3⟩ := h
  refine hI.fr h2 (fun i hi => ?_)
  rintro (h | h)
  · subst h
    exact rowT hI hW.blk (by decide) hi
  · rcases hI.2 with ⟨q, _⟩ | ⟨g, cap, cur, hv, _, hg, _⟩
    · rw [q] at hi; cases hi
    · rw [hv] at hi
      have hgi : g = i := by simpa [Value.ownBlock] using hi
      subst hgi
      exact rowT hW.row hg (by decide) h
set_option maxRecDepth 100000 in
set_option maxHeartbeats 8000000 in
theorem writeKey_any (B : Nat) (w : World) (vi vb : Value) (nx ind : Int) (so : Bool) (op : Nat) (ad vo : Value) (bs : List UInt8) (l : List Im) (key : Nat) (x : Im) (h : WAt B w vi vb nx ind so op ad vo bs) (hI : ItAt w vi l) (hx : l[key]? = some x) (hu : isU x.s = true) (hl : bs.length + 6 * x.s.length ≤ 99999970000) (hll : l.length ≤ 10000000) :
    Calls Tryz.prog 75 #[.pointer (some ⟨B, 0, none⟩), .int .i64 (key : Int)] w fun e w' => e = .returned (.tuple #[]) ∧ WPost B w vi vb nx ind so op vo (bs ++ headL ind x.s) w' := by
  obtain ⟨g, m, cap, rfl⟩ := row_shape3 hI
  obtain rfl := slice_len hI
  have hkl : key < l.length := (List.getElem?_eq_some_iff.1 hx).1
  obtain ⟨gi, rfl⟩ := row_some hI (by omega)
  have k0 := blk_cell h.blk (show (wCells (.slice (some ⟨gi, 0, none⟩) l.length cap) vb nx ind so op ad vo)[0]? = some (.slice (some ⟨gi, 0, none⟩) l.length cap) from rfl)
  have c3 := rowCell hI (key * 4 + 3) (.string (ofL x.s)) (by rw [imsV_get l key 3 x hx (by omega)]; rfl)
  have hz1 : (key : Int) < (l.length : Int) := by omega
  have hql := quote_len x.s
  have H1 := hid (writeText_any B w _ vb nx ind so op ad vo bs x.s h hu (by omega))
  have hlen : (bs ++ quoteL x.s).length ≤ 99999980000 := by unfold quoteL; simp only [List.length_append, List.length_cons, List.length_nil]; omega
  have HL := hid hlen
  obtain ⟨ks, hks⟩ : ∃ ks, x.s = ks := ⟨_, rfl⟩
  rw [hks] at H1 c3 HL ⊢
  unfold headL
  obtain ⟨Q, hQ⟩ : ∃ Q, quoteL ks = Q := ⟨_, rfl⟩
  rw [hQ] at H1 HL ⊢
  have H2 := hid (fun (w : World) (vo : Value) (bs : List UInt8) (c : UInt8) (h : WAt B w (.slice (some ⟨gi, 0, none⟩) l.length cap) vb nx ind so op (.pointer (some ⟨B, 6, none⟩)) vo bs) (hl : bs.length ≤ 100000000000) => writeByte_any B w _ vb nx ind so op _ vo bs c h hl)
  clear h hI hx hu hlen hks hQ hql hl
  by_cases hi1 : ind = -1
  · subst hi1
    rw [if_pos rfl]
    go_enter Tryz.func75, Tryz.ntmps75
    go_wp2_with fail
    refine Calls.mono H1.out ?_
    rintro e w1 ⟨rfl, vo1, hW1, hF1, hN1⟩
    have K1 := hid (And.intro hF1 hN1)
    have HB1 := hid (show Calls Tryz.prog 44 #[.pointer (some ⟨B, 6, none⟩), .int .u8 58] w1 _ from H2.out w1 vo1 _ 58 hW1 (by have := HL.out; omega))
    clear hW1 hF1 hN1
    go_wp2_with fail
    refine Calls.mono HB1.out ?_
    rintro e w2 ⟨rfl, vo2, hW2, hF2, hN2⟩
    have KP := hid (WPost.trans K1.out.1 K1.out.2 ⟨vo2, hW2, hF2, hN2⟩)
    have i3 := blk_cell hW2.blk (show (wCells (.slice (some ⟨gi, 0, none⟩) l.length cap) vb nx (-1) so op (.pointer (some ⟨B, 6, none⟩)) vo2)[3]? = some (.int .i64 (-1)) from rfl)
    clear hW2 hF2 hN2
    go_wp2
    go_end0
    exact ⟨rfl, by simpa using KP.out⟩
  · rw [if_neg hi1]
    have hi2 : (ind == -1) = false := beq_eq_false_iff_ne.2 hi1
    have hi3 : (ind != -1) = true := by simpa using hi1
    clear hi1
    go_enter Tryz.func75, Tryz.ntmps75
    go_wp2_with fail
    refine Calls.mono H1.out ?_
    rintro e w1 ⟨rfl, vo1, hW1, hF1, hN1⟩
    have K1 := hid (And.intro hF1 hN1)
    have HB1 := hid (show Calls Tryz.prog 44 #[.pointer (some ⟨B, 6, none⟩), .int .u8 58] w1 _ from H2.out w1 vo1 _ 58 hW1 (by have := HL.out; omega))
    clear hW1 hF1 hN1
    go_wp2_with fail
    refine Calls.mono HB1.out ?_
    rintro e w2 ⟨rfl, vo2, hW2, hF2, hN2⟩
    have KP := hid (WPost.trans K1.out.1 K1.out.2 ⟨vo2, hW2, hF2, hN2⟩)
    have i3 := blk_cell hW2.blk (show (wCells (.slice (some ⟨gi, 0, none⟩) l.length cap) vb nx ind so op (.pointer (some ⟨B, 6, none⟩)) vo2)[3]? = some (.int .i64 ind) from rfl)
    clear hW2 hF2 hN2
    obtain ⟨vo3, hW3, hF3, hN3⟩ := KP.out
    have K3 := hid (And.intro hF3 hN3)
    have HB3 := hid (show Calls Tryz.prog 44 #[.pointer (some ⟨B, 6, none⟩), .int .u8 32] w2 _ from H2.out w2 vo3 _ 32 hW3 (by have := HL.out; simp only [List.length_append, List.length_singleton] at this ⊢; omega))
    clear hW3 hF3 hN3 KP K1 HB1
    go_wp2_with fail
    refine Calls.mono HB3.out ?_
    rintro e w4 ⟨rfl, hP⟩
    have KQ := hid (WPost.trans K3.out.1 K3.out.2 hP)
    clear hP
    go_wp2
    go_end0
    exact ⟨rfl, by simpa using KQ.out⟩
end Go.Proofs.YtmkkibaacclhnaaGreatDoor

namespace Go.Proofs.YtmkkibaacclhnaaGreatDoor
open Go.RowKit

theorem calls_ex {P : Program} {f : FuncId} {args : Array Value} {w : World} {R : Ending → World → Prop} (h : Calls P f args w R) : ∃ e w', R e w' := by
  obtain ⟨e, w', _, hR, _⟩ := h []
  exact ⟨e, w', hR⟩
end Go.Proofs.YtmkkibaacclhnaaGreatDoor

namespace Go.Proofs.YtmkkibaacclhnaaGreatDoor
open Go.RowKit

theorem run_ended_one {P : Program} {m l1 l2 : Machine} {j1 j2 : Nat} {o1 o2 : Outcome} {w1 w2 : World} (h1 : runN P j1 m = .next l1) (e1 : step P l1 = .ended o1 w1) (h2 : runN P j2 m = .next l2) (e2 : step P l2 = .ended o2 w2) : o1 = o2 := by
  have r1 : runN P (j1 + 1) m = .ended o1 w1 := by rw [runN_add, h1]; simp [runN, e1]
  have r2 : runN P (j2 + 1) m = .ended o2 w2 := by rw [runN_add, h2]; simp [runN, e2]
  have s1 : runN P (j1 + 1 + (j2 + 1)) m = .ended o1 w1 := by rw [runN_add, r1]
  have s2 : runN P (j2 + 1 + (j1 + 1)) m = .ended o2 w2 := by rw [runN_add, r2]
  rw [Nat.add_comm, s2] at s1
  injection s1 with s1 _
  exact s1.symm
/-- a call gives one answer -/
theorem calls_one {P : Program} {f : FuncId} {args : Array Value} {w : World} {a b : Value} {R S : World → Prop} (hi : P.inits.idxOf? f = none) (h1 : Calls P f args w fun e w' => e = .returned a ∧ R w') (h2 : Calls P f args w fun e w' => e = .returned b ∧ S w') : a = b := by
  obtain ⟨e1, w1, f1, ⟨rfl, _⟩, ⟨j1, c1⟩, n1, l1⟩ := h1 []
  obtain ⟨e2, w2, f2, ⟨rfl, _⟩, ⟨j2, c2⟩, n2, l2⟩ := h2 []
  have s1 := step_leave_done l1 (by rw [n1]; exact hi)
  have s2 := step_leave_done l2 (by rw [n2]; exact hi)
  have := run_ended_one c1 s1 c2 s2
  injection this
theorem ofL_inj {a b : List UInt8} (h : ofL a = ofL b) : a = b := by rw [← ofL_toList a, ← ofL_toList b, h]
/-- the document writes the number so -/
def PrT (bits : Nat) (t : List UInt8) : Prop := ∀ w, Calls Tryz.prog 77 #[.int .u64 (bits : Int)] w fun e w' => e = .returned (.tuple #[.string (ofL t), .int .i64 0]) ∧ Fr (fun _ => False) w w'
theorem PrT.one {bits : Nat} {t u : List UInt8} (w : World) (h1 : PrT bits t) (h2 : PrT bits u) : t = u := by
  have := calls_one (by kernel_rfl) (h1 w) (h2 w)
  simp at this
  exact ofL_inj this
theorem print_both (bits : Nat) (w : World) (hb : bits < 18446744073709551616) (hfin : bits % 9223372036854775808 < 9218868437227405312) :
    Calls Tryz.prog 23 #[.int .u64 (bits : Int)] w fun e w' => ∃ t, e = .returned (.tuple #[.string (ofL t), .int .i64 0]) ∧ PrT bits t ∧ t.length ≤ 101 ∧ Fr (fun _ => False) w w' := by
  obtain ⟨m, hm⟩ : ∃ m, bits % 9223372036854775808 = m := ⟨_, rfl⟩
  have hx := u64_andNot_sign bits hb
  rw [hm] at hx
  rw [hm] at hfin
  by_cases hneg : bits < 9223372036854775808
  · obtain rfl : bits = m := by omega
    have hn : decide ((9223372036854775808 : Int) ≤ (bits : Int)) = false := decide_eq_false (by omega)
    by_cases hf : bits < 9218868437227405312
    · have hnf : decide ((9218868437227405312 : Int) ≤ (bits : Int)) = false := decide_eq_false (by omega)
      by_cases h0 : bits = 0
      · subst h0
        refine (print_zero 0 0 w hx rfl).mono ?_
        rintro e w' ⟨rfl, hF⟩
        exact ⟨[48], rfl, fun w => (rprint_zerop w).mono fun e w' ⟨h1, h2⟩ => ⟨h1, by rw [h2]; exact Fr.refl _ _⟩, by simp, hF⟩
      · refine (print_num bits bits w hx h0 hf).mono ?_
        rintro e w' ⟨D, pw, hS, hD, h1, h2, rfl, hF⟩
        refine ⟨layL (dgs D) pw, by rw [bne_self_eq_false]; rfl, fun w => ?_, by have := layL_len (dgs D) pw (dgs_len20 D (by omega)) h1 h2; (try simp only [List.length_append, List.length_singleton]); omega, hF⟩
        exact rprint_p bits (dgs D) pw w hn hnf (beq_eq_false_iff_ne.2 (by omega)) (dgs_pos D) (dgs_len20 D (by omega)) h1 h2 (fun w => rshort_any bits D pw w hS h0 hf h1 (ten_lo bits h0) (ten_hi bits hf))
    · exact absurd hfin hf
  · have hn : decide ((9223372036854775808 : Int) ≤ (bits : Int)) = true := decide_eq_true (by omega)
    have hsub : IntKind.u64.wrap ((bits : Int) - 9223372036854775808) = (m : Int) := by
      rw [show (bits : Int) - 9223372036854775808 = (m : Int) by omega]
      exact IntWalk.u64_in _ ⟨by omega, by clear hx; omega⟩
    have hne : (bits != m) = true := bne_iff_ne.2 (by omega)
    by_cases hf : m < 9218868437227405312
    · have hnf : decide ((9218868437227405312 : Int) ≤ (m : Int)) = false := decide_eq_false (by omega)
      by_cases h0 : m = 0
      · subst h0
        obtain rfl : bits = 9223372036854775808 := by omega
        refine (print_zero 9223372036854775808 0 w hx rfl).mono ?_
        rintro e w' ⟨rfl, hF⟩
        exact ⟨[45, 48], rfl, fun w => (rprint_zeron w).mono fun e w' ⟨h1, h2⟩ => ⟨h1, by rw [h2]; exact Fr.refl _ _⟩, by simp, hF⟩
      · refine (print_num bits m w hx h0 hf).mono ?_
        rintro e w' ⟨D, pw, hS, hD, h1, h2, rfl, hF⟩
        refine ⟨[45] ++ layL (dgs D) pw, by rw [hne]; rfl, fun w => ?_, by have := layL_len (dgs D) pw (dgs_len20 D (by omega)) h1 h2; (try simp only [List.length_append, List.length_singleton]); omega, hF⟩
        exact rprint_n bits m (dgs D) pw w hn hsub hnf (beq_eq_false_iff_ne.2 (by omega)) (dgs_pos D) (dgs_len20 D (by omega)) h1 h2 (fun w => rshort_any m D pw w hS h0 hf h1 (ten_lo m h0) (ten_hi m hf))
    · exact absurd hfin hf
theorem prT_ex (bits : Nat) (w : World) (hb : bits < 18446744073709551616) (hfin : bits % 9223372036854775808 < 9218868437227405312) : ∃ t, PrT bits t := by
  obtain ⟨e, w', t, _, h, _⟩ := calls_ex (print_both bits w hb hfin)
  exact ⟨t, h⟩
theorem prT_ex2 (bits : Nat) (w : World) (hb : bits < 18446744073709551616) (hfin : bits % 9223372036854775808 < 9218868437227405312) : ∃ t, PrT bits t ∧ t.length ≤ 101 := by
  obtain ⟨e, w', t, _, h, h2, _⟩ := calls_ex (print_both bits w hb hfin)
  exact ⟨t, h, h2⟩
open Classical in
/-- the number as it is written -/
noncomputable def printT (bits : Nat) : List UInt8 := if h : ∃ t, PrT bits t then Classical.choose h else []
theorem printT_is {bits : Nat} {t : List UInt8} (w : World) (h : PrT bits t) : printT bits = t := by
  unfold printT
  rw [dif_pos ⟨t, h⟩]
  exact PrT.one w (Classical.choose_spec (⟨t, h⟩ : ∃ t, PrT bits t)) h
theorem printT_len (w : World) (bits : Nat) (hb : bits < 18446744073709551616) (hfin : bits % 9223372036854775808 < 9218868437227405312) : (printT bits).length ≤ 101 := by
  obtain ⟨t, h, h2⟩ := prT_ex2 bits w hb hfin
  rw [printT_is w h]
  exact h2
theorem rprint_T (bits : Nat) (w : World) (hb : bits < 18446744073709551616) (hfin : bits % 9223372036854775808 < 9218868437227405312) :
    Calls Tryz.prog 77 #[.int .u64 (bits : Int)] w fun e w' => e = .returned (.tuple #[.string (ofL (printT bits)), .int .i64 0]) ∧ Fr (fun _ => False) w w' := by
  obtain ⟨t, h⟩ := prT_ex bits w hb hfin
  rw [printT_is w h]
  exact h w
theorem print_T (bits : Nat) (w : World) (hb : bits < 18446744073709551616) (hfin : bits % 9223372036854775808 < 9218868437227405312) :
    Calls Tryz.prog 23 #[.int .u64 (bits : Int)] w fun e w' => e = .returned (.tuple #[.string (ofL (printT bits)), .int .i64 0]) ∧ Fr (fun _ => False) w w' := by
  refine (print_both bits w hb hfin).mono ?_
  rintro e w' ⟨t, he, h, _, hF⟩
  rw [printT_is w h]
  exact ⟨he, hF⟩
end Go.Proofs.YtmkkibaacclhnaaGreatDoor

namespace Go.Proofs.YtmkkibaacclhnaaGreatDoor
open Go.RowKit

def strV (l : List (List UInt8)) : List Value := l.map fun s => .string (ofL s)
theorem Tryz.info9S : (Tryz.prog.info? 9).map (fun i => (i.zero, i.size, i.bytes)) = some (some (.string ⟨#[]⟩), 1, 16) := by kernel_rfl
theorem info9_parts : ∃ i, Tryz.prog.info? 9 = some i ∧ i.zero = some (.string ⟨#[]⟩) ∧ i.size = 1 ∧ i.bytes = 16 := by
  have h := Tryz.info9S
  cases hi : Tryz.prog.info? 9 with
  | none => rw [hi] at h; cases h
  | some i => rw [hi] at h; simp at h; exact ⟨i, rfl, h.1, h.2.1, h.2.2⟩
theorem Tryz.under44S : Tryz.prog.underlying 44 = some (.slice 9) := by kernel_rfl
/-- a list of texts of one's own -/
def SR (w : World) (V : Value) (l : List (List UInt8)) : Prop := w.ownsRow 0 9 1 V l.length (strV l)
theorem SR.nil (w : World) : SR w (.slice none 0 0) [] := ⟨rfl, .inl ⟨rfl, rfl⟩⟩
theorem strV_one (l : List (List UInt8)) : ∀ u, u ∈ strV l → u.oneCell' = true := by
  intro u hu
  obtain ⟨s, _, rfl⟩ := List.mem_map.1 hu
  rfl
theorem one_new (w : World) (a : Value) (e : Nat) : ∀ j u, [a][j]? = some u → (w.alloc (.cells #[a] e)).cell? ((⟨w.heap.size, 0, none⟩ : Addr).add j) = some u := by
  intro j u hj
  have hn := heap_alloc_new w (.cells #[a] e)
  match j, hj with
  | 0, hj => simp at hj; subst hj; exact blk_cell hn rfl
theorem lt_of_row {w : World} {e size g n cap : Nat} {xs : List Value} (h : w.ownsRow 0 e size (.slice (some ⟨g, 0, none⟩) n cap) n xs) : g < w.heap.size := by
  rcases h.2 with ⟨h2, _⟩ | ⟨g', cap', cur, hv, h3, hg, h4⟩
  · cases h2
  · simp at hv
    obtain ⟨rfl, rfl⟩ := hv
    exact lt_of_block hg
set_option maxRecDepth 100000 in
set_option maxHeartbeats 8000000 in
theorem put_nil (s : List UInt8) (w : World) :
    Calls Tryz.prog 79 #[.slice none 0 0, .int .i64 0, .string (ofL s)] w fun e w' => ∃ a n c, e = .returned (.slice a n c) ∧ SR w' (.slice a n c) [s] ∧ Fr (fun _ => False) w w' ∧ ∀ i, (Value.slice a n c).ownBlock = some i → w.heap.size ≤ i := by
  obtain ⟨i0, hi, hz0, hz1, hz2⟩ := info9_parts
  have HF := hid (fun o => (Fr.refl (fun _ => False) w).alloc o)
  go_enter Tryz.func79, Tryz.ntmps79
  go_wp2_with (first
    | (at_builtin; refine wpList_append_own_none rfl _ _ 44 rfl 0 9 i0 1 Tryz.under44S hi _ 0 [] rfl (World.ownsRow_nil _ 0 9 1) rfl ?_)
    | (at_builtin; refine wpList_append_own_none rfl _ _ 44 rfl 0 9 i0 1 Tryz.under44S hi _ 1 [.string (ofL s)] rfl HR.out rfl ?_)
    | (at_builtin; refine wpList_append_d _ rfl _ _ 44 rfl 9 i0 (.string ⟨#[]⟩) 1 16 Tryz.under44S hi hz0 hz1 hz2 rfl (by decide) _ 0 [] rfl (World.ownsRow_nil _ 0 9 1) ⟨w.heap.size, 0, none⟩ 1 1 [.string (ofL s)] rfl rfl (one_new _ _ _) (by intro u hu; simp at hu; subst hu; rfl) (by unfold maxLen; omega) (by omega) ?_; intro v' w1 hown hgrow hnew; obtain ⟨a1, n1, c1, rfl⟩ := row_shape3 hown; obtain rfl := slice_len hown; have HR := hid (show w1.ownsRow 0 9 1 (.slice a1 1 c1) 1 [.string (ofL s)] from hown); have HFR := hid ((HF.out _).grown hgrow (fun k hk => by cases hk)); have HN := hid hnew; clear hown hgrow hnew)
    | fail)
  go_ret
  refine ⟨_, _, _, rfl, HR.out, HFR.out, fun i hi => ?_⟩
  rcases HN.out i hi with h | h
  · cases h
  · simp at h; omega
theorem zero_row {w : World} {V : Value} {k : Nat} {xs : List Value} (h : w.ownsRow 0 9 1 V (0 + k) ([] ++ xs)) : w.ownsRow 0 9 1 V k xs := by
  rw [Nat.zero_add] at h
  exact h
theorem strV_cell {w : World} {g n cap : Nat} {l : List (List UInt8)} (h : w.ownsRow 0 9 1 (.slice (some ⟨g, 0, none⟩) n cap) n (strV l)) (o : Nat) (l' : List (List UInt8)) (hl : ∀ j x, l'[j]? = some x → l[o + j]? = some x) : ∀ j u, (strV l')[j]? = some u → w.cell? ((⟨g, o, none⟩ : Addr).add j) = some u := by
  intro j u hj
  unfold strV at hj
  rw [List.getElem?_map] at hj
  cases hx : l'[j]? with
  | none => rw [hx] at hj; cases hj
  | some x =>
    rw [hx] at hj
    have h1 := rowCell h (o + j) u (by unfold strV; rw [List.getElem?_map, hl j x hx]; exact hj)
    cases j with
    | zero => simpa [Addr.add] using h1
    | succ j => simpa [Addr.add] using h1
theorem put_last {w : World} {V : Value} {k : Nat} {s : List UInt8} {l : List (List UInt8)} (h : (l.take k).length = k ∧ (l.drop k).length = k - k) (hr : w.ownsRow 0 9 1 V (k + 1 + 0) (strV (l.take k ++ [s]) ++ [])) : SR w V (l.take k ++ [s] ++ l.drop k) := by
  have h3 : l.drop k = [] := List.eq_nil_of_length_eq_zero (by omega)
  unfold SR
  rw [h3, List.append_nil, show (l.take k ++ [s]).length = k + 1 by simp only [List.length_append, List.length_singleton]; omega]
  rw [List.append_nil] at hr
  exact hr
set_option maxRecDepth 100000 in
set_option maxHeartbeats 8000000 in
theorem put_some (s : List UInt8) (w : World) (g n cap k : Nat) (l : List (List UInt8)) (h : SR w (.slice (some ⟨g, 0, none⟩) n cap) l) (hk : k ≤ n) (hn0 : 0 < n) (hnc : n ≤ cap) (hn : n ≤ 10000000) :
    Calls Tryz.prog 79 #[.slice (some ⟨g, 0, none⟩) n cap, .int .i64 (k : Int), .string (ofL s)] w fun e w' => ∃ a n' c, e = .returned (.slice a n' c) ∧ SR w' (.slice a n' c) (l.take k ++ [s] ++ l.drop k) ∧ Fr (fun _ => False) w w' ∧ ∀ i, (Value.slice a n' c).ownBlock = some i → w.heap.size ≤ i := by
  obtain ⟨i0, hi, hz0, hz1, hz2⟩ := info9_parts
  have hln : l.length = n := (slice_len h).symm
  have hrow : w.ownsRow 0 9 1 (.slice (some ⟨g, 0, none⟩) n cap) n (strV l) := by have := h; unfold SR at this; rw [hln] at this; exact this
  have HROW := hid hrow
  have HF := hid (Fr.refl (fun _ => False) w)
  have hgl := lt_of_row hrow
  have HT := hid (show (l.take k).length = k ∧ (l.drop k).length = n - k from ⟨by simp; omega, by simp; omega⟩)
  have HC1 := hid (strV_cell hrow 0 (l.take k) (fun j x hx => by
    rw [List.getElem?_take] at hx
    split at hx
    · simpa using hx
    · cases hx))
  have HC3 := hid (fun (wx : World) (hf : Fr (fun _ => False) w wx) => strV_cell (rowFr hrow hf (fun i hi => id)) k (l.drop k) (fun j x hx => by rw [List.getElem?_drop] at hx; exact hx))
  have hkz : (k : Int) ≤ (n : Int) := by omega
  have hkc : (k : Int) ≤ (cap : Int) := by omega
  have hnz : (n : Int) ≤ (cap : Int) := by omega
  have HL := hid hln
  clear h hrow hln
  by_cases hkcap : k < cap
  · go_enter Tryz.func79, Tryz.ntmps79
    go_wp2_with (first
      | (at_builtin; refine wpList_append_d _ rfl _ _ 44 rfl 9 i0 (.string ⟨#[]⟩) 1 16 Tryz.under44S hi hz0 hz1 hz2 rfl (by decide) _ 0 [] rfl (World.ownsRow_nil _ 0 9 1) ⟨g, 0, none⟩ k cap (strV (l.take k)) rfl (by have := HT.out.1; unfold strV; rw [List.length_map]; omega) HC1.out (strV_one _) (by unfold maxLen; omega) (by omega) ?_; intro v1 w1 hown hgrow hnew; obtain ⟨a1, n1, c1, rfl⟩ := row_shape3 hown; have hn1 : k = n1 := ((slice_len hown).trans (Nat.zero_add k)).symm; subst hn1; have HR1 := hid (show w1.ownsRow 0 9 1 (.slice a1 k c1) k (strV (l.take k)) from zero_row hown); have HF1 := hid (HF.out.grown hgrow (fun k hk => by cases hk)); have HN1 := hid (show ∀ i, (Value.slice a1 k c1).ownBlock = some i → w.heap.size ≤ i from fun i hi => (hnew i hi).elim (fun h => by cases h) id); clear hown hgrow hnew)
      | (at_builtin; refine wpList_append_d _ rfl _ _ 44 rfl 9 i0 (.string ⟨#[]⟩) 1 16 Tryz.under44S hi hz0 hz1 hz2 rfl (by decide) _ k (strV (l.take k)) rfl (HR1.out.alloc _) ⟨w1.heap.size, 0, none⟩ 1 1 [.string (ofL s)] rfl rfl (one_new _ _ _) (by intro u hu; simp at hu; subst hu; rfl) (by unfold maxLen; omega) (by omega) ?_; intro v2 w2 hown hgrow hnew; obtain ⟨a2, n2, c2, rfl⟩ := row_shape3 hown; have hn2 : k + 1 = n2 := (slice_len hown).symm; subst hn2; have HR2 := hid (show w2.ownsRow 0 9 1 (.slice a2 (k + 1) c2) (k + 1) (strV (l.take k ++ [s])) from by unfold strV; rw [List.map_append]; exact hown); have HF2 := hid ((HF1.out.alloc _).grown hgrow (fun i hi => .inr (HN1.out i hi))); have HN2 := hid (show ∀ i, (Value.slice a2 (k + 1) c2).ownBlock = some i → w.heap.size ≤ i from fun i hi => (hnew i hi).elim (fun h => HN1.out i h) (fun h => by have := HF1.out.size; simp at h; omega)); clear hown hgrow hnew HR1)
      | (at_builtin; refine wpList_append_d _ rfl _ _ 44 rfl 9 i0 (.string ⟨#[]⟩) 1 16 Tryz.under44S hi hz0 hz1 hz2 rfl (by decide) _ (k + 1) (strV (l.take k ++ [s])) rfl HR2.out ⟨g, k, none⟩ (n - k) (cap - k) (strV (l.drop k)) rfl (by have := HT.out.2; unfold strV; rw [List.length_map]; omega) (HC3.out _ HF2.out) (strV_one _) (by unfold maxLen; omega) (by omega) ?_; intro v3 w3 hown hgrow hnew; obtain ⟨a3, n3, c3, rfl⟩ := row_shape3 hown; have HR3 := hid (show SR w3 (.slice a3 n3 c3) (l.take k ++ [s] ++ l.drop k) from by (unfold SR; have h1 := HT.out; rw [show (l.take k ++ [s] ++ l.drop k).length = k + 1 + (n - k) by simp only [List.length_append, List.length_singleton]; omega]; have h2 := hown; unfold strV at h2 ⊢; rw [List.map_append]; exact h2)); have HF3 := hid (HF2.out.grown hgrow (fun i hi => .inr (HN2.out i hi))); have HN3 := hid (show ∀ i, (Value.slice a3 n3 c3).ownBlock = some i → w.heap.size ≤ i from fun i hi => (hnew i hi).elim (fun h => HN2.out i h) (fun h => by have := HF2.out.size; omega)); clear hown hgrow hnew)
      | fail)
    go_ret
    exact ⟨_, _, _, rfl, HR3.out, HF3.out, HN3.out⟩
  · have hke : k = cap := by omega
    subst hke
    have hne : k = n := by omega
    subst hne
    go_enter Tryz.func79, Tryz.ntmps79
    go_wp2_with (first
      | (at_builtin; refine wpList_append_d _ rfl _ _ 44 rfl 9 i0 (.string ⟨#[]⟩) 1 16 Tryz.under44S hi hz0 hz1 hz2 rfl (by decide) _ 0 [] rfl (World.ownsRow_nil _ 0 9 1) ⟨g, 0, none⟩ k k (strV (l.take k)) rfl (by have := HT.out.1; unfold strV; rw [List.length_map]; omega) HC1.out (strV_one _) (by unfold maxLen; omega) (by omega) ?_; intro v1 w1 hown hgrow hnew; obtain ⟨a1, n1, c1, rfl⟩ := row_shape3 hown; have hn1 : k = n1 := ((slice_len hown).trans (Nat.zero_add k)).symm; subst hn1; have HR1 := hid (show w1.ownsRow 0 9 1 (.slice a1 k c1) k (strV (l.take k)) from zero_row hown); have HF1 := hid (HF.out.grown hgrow (fun k hk => by cases hk)); have HN1 := hid (show ∀ i, (Value.slice a1 k c1).ownBlock = some i → w.heap.size ≤ i from fun i hi => (hnew i hi).elim (fun h => by cases h) id); clear hown hgrow hnew)
      | (at_builtin; refine wpList_append_d _ rfl _ _ 44 rfl 9 i0 (.string ⟨#[]⟩) 1 16 Tryz.under44S hi hz0 hz1 hz2 rfl (by decide) _ k (strV (l.take k)) rfl (HR1.out.alloc _) ⟨w1.heap.size, 0, none⟩ 1 1 [.string (ofL s)] rfl rfl (one_new _ _ _) (by intro u hu; simp at hu; subst hu; rfl) (by unfold maxLen; omega) (by omega) ?_; intro v2 w2 hown hgrow hnew; obtain ⟨a2, n2, c2, rfl⟩ := row_shape3 hown; have hn2 : k + 1 = n2 := (slice_len hown).symm; subst hn2; have HR2 := hid (show w2.ownsRow 0 9 1 (.slice a2 (k + 1) c2) (k + 1) (strV (l.take k ++ [s])) from by unfold strV; rw [List.map_append]; exact hown); have HF2 := hid ((HF1.out.alloc _).grown hgrow (fun i hi => .inr (HN1.out i hi))); have HN2 := hid (show ∀ i, (Value.slice a2 (k + 1) c2).ownBlock = some i → w.heap.size ≤ i from fun i hi => (hnew i hi).elim (fun h => HN1.out i h) (fun h => by have := HF1.out.size; simp at h; omega)); clear hown hgrow hnew HR1)
      | (at_builtin; refine wpList_append_d _ rfl _ _ 44 rfl 9 i0 (.string ⟨#[]⟩) 1 16 Tryz.under44S hi hz0 hz1 hz2 rfl (by decide) _ (k + 1) (strV (l.take k ++ [s])) rfl HR2.out ⟨g, 0, none⟩ 0 0 [] rfl rfl (by intro j u hj; simp at hj) (by intro u hu; cases hu) (by unfold maxLen; omega) (by omega) ?_; intro v3 w3 hown hgrow hnew; obtain ⟨a3, n3, c3, rfl⟩ := row_shape3 hown; have HR3 := hid (show SR w3 (.slice a3 n3 c3) (l.take k ++ [s] ++ l.drop k) from put_last HT.out hown); have HF3 := hid (HF2.out.grown hgrow (fun i hi => .inr (HN2.out i hi))); have HN3 := hid (show ∀ i, (Value.slice a3 n3 c3).ownBlock = some i → w.heap.size ≤ i from fun i hi => (hnew i hi).elim (fun h => HN2.out i h) (fun h => by have := HF2.out.size; omega)); clear hown hgrow hnew)
      | fail)
    go_ret
    exact ⟨_, _, _, rfl, HR3.out, HF3.out, HN3.out⟩
end Go.Proofs.YtmkkibaacclhnaaGreatDoor
