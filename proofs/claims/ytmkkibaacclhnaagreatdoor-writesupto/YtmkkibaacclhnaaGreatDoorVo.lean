/-
  A step of the walk, the part named Vo. No theorem of the row.
-/
import Derived.Test.YtmkkibaacclhnaaGreatDoorVl
import Derived.Deep.OwnRows
import Derived.Handy
import Derived.Laws.ResultCell
import Derived.Test.YtmkkibaacclhnaaGreatDoorProg
import Derived.Ground.NamesProg
import Derived.WalkKit
import Derived.WalkMore
import Derived.Below
import Derived.Shelf.Lay
import Derived.Shelf.Strings.Repeat
import Derived.Test.YtmkkibaacclhnaaGreatDoorWq
import Derived.Test.YtmkkibaacclhnaaGreatDoorWt
import Derived.Deep.RegionHeld3
namespace Go.Proofs.YtmkkibaacclhnaaGreatDoor
open Go.RowKit

theorem Tryz.info3B : (Tryz.prog.info? 3).map (fun i => (i.zero, i.size, i.bytes)) = some (some (.int .i64 0), 1, 8) := by kernel_rfl
theorem row_made3 (w : World) (n : Nat) (hn : n ≤ 10000000) : (w.alloc (.cells (madeCells #[Value.int .i64 0] n) 3)).ownsRow 0 3 1 (.slice (some ⟨w.heap.size, 0, none⟩) n n) n ((List.replicate n 0).map encN) := by
  have := World.ownsRow_lit w (e := 3) (size := 1) (base := 0) (madeCells #[Value.int .i64 0] n) n (Nat.zero_le _) (by unfold maxLen; omega) (by rw [size_madeCells]; omega)
  rw [toList_madeCells_one] at this
  rw [List.map_replicate]
  exact this
theorem tabs_two {w : World} (h : Tabs w) : 2 ≤ w.heap.size := lt_of_cell (h.2 0 (by omega)).1
/-- the outline as it is first laid -/
theorem OL.first {w : World} {ig cap : Nat} {its : List Im} (hI : ItAt w (.slice (some ⟨ig, 0, none⟩) its.length cap) its) (hT : Tabs w) (hn : its.length ≤ 10000000) (o1 : Obj) :
    OL (((w.alloc o1).alloc (.cells (madeCells #[Value.int .i64 0] its.length) 3)).alloc (.cells #[.slice (some ⟨ig, 0, none⟩) its.length cap, .slice (some ⟨w.heap.size + 1, 0, none⟩) its.length its.length, .int .i64 0] 61)) (w.heap.size + 2) (w.heap.size + 1) ig cap its (List.replicate its.length 0) 0 := by
  have hF := (((Fr.refl (fun _ => False) w).alloc o1).alloc (.cells (madeCells #[Value.int .i64 0] its.length) 3)).alloc (.cells #[.slice (some ⟨ig, 0, none⟩) its.length cap, .slice (some ⟨w.heap.size + 1, 0, none⟩) its.length its.length, .int .i64 0] 61)
  have hlt := lt_of_row hI
  have h2 := tabs_two hT
  have s1 : (w.alloc o1).heap.size = w.heap.size + 1 := by simp
  have s2 : ((w.alloc o1).alloc (.cells (madeCells #[Value.int .i64 0] its.length) 3)).heap.size = w.heap.size + 2 := by simp
  have hb := heap_alloc_new ((w.alloc o1).alloc (.cells (madeCells #[Value.int .i64 0] its.length) 3)) (.cells #[.slice (some ⟨ig, 0, none⟩) its.length cap, .slice (some ⟨w.heap.size + 1, 0, none⟩) its.length its.length, .int .i64 0] 61)
  rw [s2] at hb
  have hr := row_made3 (w.alloc o1) its.length hn
  rw [s1] at hr
  exact ⟨hb, rowFr hr ((Fr.refl (fun _ => False) _).alloc _) (fun _ _ => id), hI.fr hF (fun _ _ => id), by omega, by omega, by omega, hT.fr hF id id, by omega, by omega, Nat.zero_le _⟩
/-- the outline that is handed back -/
structure OutOk (w w' : World) (ig cap : Nat) (its : List Im) (v : Value) (g : Nat) (beh : List Nat) : Prop where
  val : v = .agg #[.slice (some ⟨ig, 0, none⟩) its.length cap, .slice (some ⟨g, 0, none⟩) its.length its.length, .int .i64 (its.length : Int)]
  row : w'.ownsRow 0 3 1 (.slice (some ⟨g, 0, none⟩) its.length its.length) its.length (beh.map encN)
  beh : BhOk beh its 0 its.length
  new : w.heap.size ≤ g
theorem keep_res {w w2 : World} {n : Nat} {v0 v1 v2 : Value} {oc : Obj} (hF : Fr (fun i => i = w.heap.size + 2 ∨ i = w.heap.size + 1) (((w.alloc (.cells #[v0, v1, v2] 61)).alloc (.cells (madeCells #[Value.int .i64 0] n) 3)).alloc oc) w2) :
    w2.cell? ⟨w.heap.size, 0, none⟩ = some v0 ∧ w2.cell? ⟨w.heap.size, 1, none⟩ = some v1 ∧ w2.cell? ⟨w.heap.size, 2, none⟩ = some v2 ∧ (∀ j, w2.frozen? ⟨w.heap.size, j, none⟩ = false) ∧ w2.heap[w.heap.size]? = some (.cells #[v0, v1, v2] 61 (0, 0)) := by
  have h0 := heap_alloc_new w (.cells #[v0, v1, v2] 61)
  have h1 := (((Fr.refl (fun _ => False) (w.alloc (.cells #[v0, v1, v2] 61))).alloc (.cells (madeCells #[Value.int .i64 0] n) 3)).alloc oc).heap h0 id
  have k := hF.heap h1 (by omega)
  exact ⟨blk_cell k rfl, blk_cell k rfl, blk_cell k rfl, fun _ => blk_free k, k⟩
theorem res_load {w2 : World} {g : Nat} {v0 v1 v2 : Value} (h : w2.heap[g]? = some (.cells #[v0, v1, v2] 61 (0, 0))) (a b c : Value) :
    (loadVar 61 ⟨g, 0, none⟩).run Tryz.prog (((w2.setCell ⟨g, 0, none⟩ a).setCell ⟨g, 1, none⟩ b).setCell ⟨g, 2, none⟩ c) = .ok (.agg #[a, b, c]) (((w2.setCell ⟨g, 0, none⟩ a).setCell ⟨g, 1, none⟩ b).setCell ⟨g, 2, none⟩ c) := by
  have h1 := heap_setCell_same w2 g 0 _ 61 a h
  have h2 := heap_setCell_same _ g 1 _ 61 b h1
  have h3 := heap_setCell_same _ g 2 _ 61 c h2
  exact run_loadVar_row _ g 61 61 #[a, b, c] (0, 0) _ h3 Tryz.underlying61 rfl (by kernel_rfl)
theorem three_set {w w2 : World} (hF : Fr (fun _ => False) w w2) (a b c : Value) : Fr (fun _ => False) w (((w2.setCell ⟨w.heap.size, 0, none⟩ a).setCell ⟨w.heap.size, 1, none⟩ b).setCell ⟨w.heap.size, 2, none⟩ c) :=
  ((hF.setCell (p := ⟨w.heap.size, 0, none⟩) (.inr (Nat.le_refl _)) a).setCell (p := ⟨w.heap.size, 1, none⟩) (.inr (Nat.le_refl _)) b).setCell (p := ⟨w.heap.size, 2, none⟩) (.inr (Nat.le_refl _)) c
theorem three_fr (w : World) (o1 o2 o3 : Obj) : Fr (fun _ => False) w (((w.alloc o1).alloc o2).alloc o3) := (((Fr.refl _ w).alloc _).alloc _).alloc _
set_option maxRecDepth 100000 in
set_option maxHeartbeats 16000000 in
theorem outline_no (w : World) (ig cap : Nat) (its : List Im) (hI : ItAt w (.slice (some ⟨ig, 0, none⟩) its.length cap) its) (hT : Tabs w) (hl : its.length ≤ 10000000) (hs : ∀ x, x ∈ its → x.s.length ≤ 100000000) (hb : Bok its) (hz : sizeD 1000 its = 0) :
    Calls Tryz.prog 25 #[.slice (some ⟨ig, 0, none⟩) its.length cap] w fun e w' => Fr (fun _ => False) w w' ∧ ∃ (k m : Nat), e = .returned (.tuple #[.agg #[.slice (some ⟨ig, 0, none⟩) its.length cap, .slice (some ⟨k, 0, none⟩) its.length its.length, .int .i64 (m : Int)], .bool false]) := by
  have hmk := run_make_row' (P := Tryz.prog) 59 3 (.int .i64 0) 8 Tryz.underlying59 Tryz.info3B rfl .i64 .i64 its.length (by omega) (by omega)
  have HOL := hid (fun o1 => OL.first hI hT hl o1)
  have HV := hid (fun (wx : World) (hx : OL wx (w.heap.size + 2) (w.heap.size + 1) ig cap its (List.replicate its.length 0) 0) => val_all 1000 wx _ _ ig cap its _ 0 hx hl hs hb (Nat.le_refl _))
  rw [List.drop_zero, szO_none hz] at HV
  clear hI hT hs hb hz
  have HTH := hid (fun w2 b2 n2 (hx : OL w2 (w.heap.size + 2) (w.heap.size + 1) ig cap its b2 n2) => hx.three)
  obtain ⟨n, hn⟩ : ∃ n, its.length = n := ⟨_, rfl⟩
  rw [hn] at hmk hl HOL HV HTH ⊢
  go_enter Tryz.func25, Tryz.ntmps25
  go_wp2_with fail
  refine Calls.mono (HV.out _ (HOL.out _)) ?_
  rintro e w2 ⟨rfl, b2, n2, hp⟩
  obtain ⟨r0, r1, r2, rf, rh⟩ := keep_res hp.fr
  have HLD := hid (fun a b c => res_load rh a b c)
  clear rh
  obtain ⟨c0, c1, c2, cf⟩ := HTH.out _ _ _ hp.ol
  have HF := hid ((three_fr w _ _ _).trans' hp.fr (by rintro i (rfl | rfl) <;> exact .inr (by omega)))
  clear hp HTH
  go_wp2
  (try simp only [Exit.inBlock, Exit.then])
  refine bodyPost_ret (v := .tuple #[.agg #[.slice (some ⟨ig, 0, none⟩) n cap, .slice (some ⟨w.heap.size + 1, 0, none⟩) n n, .int .i64 (n2 : Int)], .bool false]) ?_ rfl ⟨three_set HF.out _ _ _, _, _, rfl⟩
  rw [results_cell_tmp rfl]
  simp [asAddr, Result.andThen, HLD.out]
set_option maxRecDepth 100000 in
set_option maxHeartbeats 16000000 in
theorem outline_some (w : World) (ig cap : Nat) (its : List Im) (hI : ItAt w (.slice (some ⟨ig, 0, none⟩) its.length cap) its) (hT : Tabs w) (hl : its.length ≤ 10000000) (hs : ∀ x, x ∈ its → x.s.length ≤ 100000000) (hb : Bok its) (hz : sizeD 1000 its ≠ 0) :
    Calls Tryz.prog 25 #[.slice (some ⟨ig, 0, none⟩) its.length cap] w fun e w' => Fr (fun _ => False) w w' ∧ ∃ v, e = .returned (.tuple #[v, .bool ((sizeD 1000 its : Int) == (its.length : Int))]) ∧ (∃ (k m : Nat), v = .agg #[.slice (some ⟨ig, 0, none⟩) its.length cap, .slice (some ⟨k, 0, none⟩) its.length its.length, .int .i64 (m : Int)]) ∧ (sizeD 1000 its = its.length → ∃ g beh, OutOk w w' ig cap its v g beh) := by
  have hmk := run_make_row' (P := Tryz.prog) 59 3 (.int .i64 0) 8 Tryz.underlying59 Tryz.info3B rfl .i64 .i64 its.length (by omega) (by omega)
  have HOL := hid (fun o1 => OL.first hI hT hl o1)
  have HV := hid (fun (wx : World) (hx : OL wx (w.heap.size + 2) (w.heap.size + 1) ig cap its (List.replicate its.length 0) 0) => val_all 1000 wx _ _ ig cap its _ 0 hx hl hs hb (Nat.le_refl _))
  rw [List.drop_zero, szO_some hz] at HV
  clear hI hT hs hb hz
  obtain ⟨m, hm⟩ : ∃ m, sizeD 1000 its = m := ⟨_, rfl⟩
  rw [hm] at HV ⊢
  have HTH := hid (fun w2 b2 n2 (hx : OL w2 (w.heap.size + 2) (w.heap.size + 1) ig cap its b2 n2) => hx.three)
  have HEND := hid (fun (w2 : World) (b2 : List Nat) (hx : OL w2 (w.heap.size + 2) (w.heap.size + 1) ig cap its b2 m) (hbk : BhOk b2 its 0 m) (a b c : Value) => (show m = its.length → ∃ g beh, OutOk w (((w2.setCell ⟨w.heap.size, 0, none⟩ a).setCell ⟨w.heap.size, 1, none⟩ b).setCell ⟨w.heap.size, 2, none⟩ c) ig cap its (.agg #[.slice (some ⟨ig, 0, none⟩) its.length cap, .slice (some ⟨w.heap.size + 1, 0, none⟩) its.length its.length, .int .i64 (m : Int)]) g beh from by
    rintro rfl
    have hF : Fr (fun i => i = w.heap.size) w2 (((w2.setCell ⟨w.heap.size, 0, none⟩ a).setCell ⟨w.heap.size, 1, none⟩ b).setCell ⟨w.heap.size, 2, none⟩ c) :=
      (((Fr.refl (fun i => i = w.heap.size) w2).setCell (p := ⟨w.heap.size, 0, none⟩) (.inl rfl) a).setCell (p := ⟨w.heap.size, 1, none⟩) (.inl rfl) b).setCell (p := ⟨w.heap.size, 2, none⟩) (.inl rfl) c
    exact ⟨w.heap.size + 1, b2, rfl, rowFr hx.row hF (by rintro i hi rfl; simp [Value.ownBlock] at hi), hbk, by omega⟩))
  have HN := hid hm
  clear hm
  obtain ⟨n, hn⟩ : ∃ n, its.length = n := ⟨_, rfl⟩
  rw [hn] at hmk hl HOL HV HTH HEND ⊢
  go_enter Tryz.func25, Tryz.ntmps25
  go_wp2_with fail
  refine Calls.mono (HV.out _ (HOL.out _)) ?_
  rintro e w2 ⟨rfl, b2, hp, hbk⟩
  rw [Nat.zero_add] at hp hbk
  obtain ⟨r0, r1, r2, rf, rh⟩ := keep_res hp.fr
  have HLD := hid (fun a b c => res_load rh a b c)
  clear rh
  obtain ⟨c0, c1, c2, cf⟩ := HTH.out _ _ _ hp.ol
  have HF := hid ((three_fr w _ _ _).trans' hp.fr (by rintro i (rfl | rfl) <;> exact .inr (by omega)))
  have HE2 := hid (fun a b c => HEND.out w2 b2 hp.ol hbk a b c)
  clear hp hbk HTH HEND
  go_wp2
  all_goals
    (try simp only [Exit.inBlock, Exit.then])
    refine bodyPost_ret (v := .tuple #[.agg #[.slice (some ⟨ig, 0, none⟩) n cap, .slice (some ⟨w.heap.size + 1, 0, none⟩) n n, .int .i64 (m : Int)], .bool ((m : Int) == (n : Int))]) ?_ rfl ⟨three_set HF.out _ _ _, _, rfl, ⟨_, _, rfl⟩, HE2.out _ _ _⟩
    rw [results_cell_tmp rfl]
    simp [asAddr, Result.andThen, HLD.out]
end Go.Proofs.YtmkkibaacclhnaaGreatDoor

namespace Go.Proofs.YtmkkibaacclhnaaGreatDoor
open Go.RowKit Go.Shelf

shelf_lay Lays.n105 Nm 105 at Tryz as Tryz.laysRepeat
theorem repExtra : Builder.Extra Tryz.prog Tryz.laysRepeat_ren where
  sizeBuilder := by kernel_rfl
  liesBuilder := by kernel_rfl
  t5 := Tryz.underlying5
  a5 := Tryz.isAgg5
  z5 := Tryz.sizeOf5
  v5 := Tryz.zeroValue5
  infoByte := by kernel_rfl
  cellsByte := by kernel_rfl
  sizeByte := by kernel_rfl
  neB5 := by decide
theorem repeat_lib (s : ByteArray) (c : Nat) (w : World) (hc : c ≤ 9223372036854775807) (hlen : s.size * c ≤ 140737488355328) :
    Calls Tryz.prog 110 #[.string s, .int .i64 c] w fun e w' => e = .returned (.string ⟨(Lib.repeatL s.data.toList c).toArray⟩) ∧ Below w.heap.size w w' := Any.strings_Repeat Tryz.laysRepeat repExtra s c w hc hlen
#print axioms repeat_lib
end Go.Proofs.YtmkkibaacclhnaaGreatDoor

namespace Go.Proofs.YtmkkibaacclhnaaGreatDoor
open Go.RowKit

theorem rep_one (c : Nat) : Lib.repeatL [(32 : UInt8)] c = List.replicate c 32 := by
  induction c with
  | zero => rfl
  | succ c ih => rw [List.replicate_succ, ← ih]; rfl
theorem spaces_any (c : Nat) (w : World) (hc : c ≤ 1000000) :
    Calls Tryz.prog 110 #[.string ⟨#[32]⟩, .int .i64 c] w fun e w' => e = .returned (.string (ofL (List.replicate c 32))) ∧ Fr (fun _ => False) w w' := by
  refine (repeat_lib ⟨#[32]⟩ c w (by omega) (by show 1 * c ≤ _; omega)).mono ?_
  rintro e w' ⟨rfl, hb⟩
  refine ⟨?_, .ofBelow hb⟩
  rw [← rep_one]
  rfl
theorem WAt.fr {B : Nat} {w w' : World} {vi vb : Value} {nx ind : Int} {so : Bool} {op : Nat} {ad vo : Value} {bs : List UInt8} (h : WAt B w vi vb nx ind so op ad vo bs) (hf : Fr (fun _ => False) w w') : WAt B w' vi vb nx ind so op ad vo bs :=
  ⟨hf.heap h.blk id, h.adr, rowFr h.row hf (fun _ _ => id)⟩
theorem WAt.two {B : Nat} {w : World} {vi vb : Value} {nx ind : Int} {so : Bool} {op : Nat} {ad vo : Value} {bs : List UInt8} (h : WAt B w vi vb nx ind so op ad vo bs) : w.cell? ⟨B, 3, none⟩ = some (.int .i64 ind) ∧ w.cell? ⟨B, 5, none⟩ = some (.int .i64 (op : Int)) :=
  ⟨blk_cell h.blk rfl, blk_cell h.blk rfl⟩
set_option maxRecDepth 100000 in
set_option maxHeartbeats 8000000 in
theorem newLine_none (B : Nat) (w : World) (vi vb : Value) (nx : Int) (so : Bool) (op : Nat) (ad vo : Value) (bs : List UInt8) (h : WAt B w vi vb nx (-1) so op ad vo bs) :
    Calls Tryz.prog 74 #[.pointer (some ⟨B, 0, none⟩)] w fun e w' => e = .returned (.tuple #[]) ∧ w' = w := by
  obtain ⟨c3, c5⟩ := h.two
  clear h
  go_enter Tryz.func74, Tryz.ntmps74
  go_wp2
  go_returns
  exact ⟨rfl, rfl⟩
set_option maxRecDepth 100000 in
set_option maxHeartbeats 8000000 in
theorem newLine_some (B : Nat) (w : World) (vi vb : Value) (nx : Int) (n : Nat) (so : Bool) (op : Nat) (ad vo : Value) (bs : List UInt8) (h : WAt B w vi vb nx (n : Int) so op ad vo bs) (hn : n ≤ 16) (hop : op ≤ 1001) (hl : bs.length ≤ 99999970000) :
    Calls Tryz.prog 74 #[.pointer (some ⟨B, 0, none⟩)] w fun e w' => e = .returned (.tuple #[]) ∧ WPost B w vi vb nx (n : Int) so op vo (bs ++ 10 :: List.replicate (n * op) 32) w' := by
  obtain ⟨c3, c5⟩ := h.two
  have H1 := hid (show Calls Tryz.prog 44 #[.pointer (some ⟨B, 6, none⟩), .int .u8 10] w _ from writeByte_any B w vi vb nx n so op ad vo bs 10 h (by omega))
  have hnop : n * op ≤ 16 * 1001 := Nat.mul_le_mul hn hop
  have hmul : IntKind.i64.wrap ((n : Int) * (op : Int)) = ((n * op : Nat) : Int) := by
    have e : (n : Int) * (op : Int) = ((n * op : Nat) : Int) := by simp
    rw [e]
    exact IntWalk.i64_in _ (by omega)
  have HR := hid (fun wx => spaces_any (n * op) wx (by omega))
  have H2 := hid (fun (wx : World) (vo' : Value) (hx : WAt B wx vi vb nx (n : Int) so op (.pointer (some ⟨B, 6, none⟩)) vo' (bs ++ [10])) => writeString_any B wx vi vb nx n so op _ vo' (bs ++ [10]) (List.replicate (n * op) 32) hx (by simp only [List.length_append, List.length_singleton, List.length_replicate]; omega))
  have hn1 : ((n : Int) == -1) = false := beq_eq_false_iff_ne.2 (by omega)
  clear h
  generalize n * op = np at *
  go_enter Tryz.func74, Tryz.ntmps74
  go_wp2_with fail
  refine Calls.mono H1.out ?_
  rintro e w1 ⟨rfl, vo1, hW1, hF1, hN1⟩
  obtain ⟨d3, d5⟩ := hW1.two
  have HW1 := hid hW1
  have K1 := hid (And.intro hF1 hN1)
  clear hW1 hF1 hN1 c3 c5
  go_wp2
  go_region_held3 (fun w' => w'.cell? ⟨B, 3, none⟩ = some (.int .i64 (n : Int)) ∧ w'.cell? ⟨B, 5, none⟩ = some (.int .i64 (op : Int))) (first | exact ⟨d3, d5⟩ | exact ⟨m3, m5⟩ | go_keep) (first | (go_at_call 110; refine Calls.mono (HR.out _) ?_; rintro x w2 ⟨rfl, hF⟩; have hW2 := HW1.out.fr (((Fr.refl (fun _ => False) w1).drewN 1).trans hF); obtain ⟨m3, m5⟩ := hW2.two; have HW2 := hid hW2; have HF2 := hid (((Fr.refl (fun _ => False) w1).drewN 1).trans hF); clear hW2 hF) | (go_at_call 42; refine Calls.mono (H2.out _ vo1 HW2.out) ?_; rintro x w3 ⟨rfl, vo3, hW3, hF3, hN3⟩; obtain ⟨m3, m5⟩ := hW3.two; have HP3 := hid (show WPost B w2 vi vb nx (n : Int) so op vo1 (bs ++ [10] ++ List.replicate np 32) w3 from ⟨vo3, hW3, hF3, hN3⟩); clear hW3 hF3 hN3))
  go_wp2
  go_end0
  refine ⟨rfl, ?_⟩
  have := WPost.trans (K1.out.1.trans (HF2.out.mono (fun _ => False.elim))) K1.out.2 HP3.out
  rw [List.append_assoc] at this
  exact this
theorem newLine_any (B : Nat) (w : World) (vi vb : Value) (nx ind : Int) (so : Bool) (op : Nat) (vo : Value) (bs : List UInt8) (h : WAt B w vi vb nx ind so op (.pointer (some ⟨B, 6, none⟩)) vo bs) (h1 : -1 ≤ ind) (h2 : ind ≤ 16) (hop : op ≤ 1001) (hl : bs.length ≤ 99999970000) :
    Calls Tryz.prog 74 #[.pointer (some ⟨B, 0, none⟩)] w fun e w' => e = .returned (.tuple #[]) ∧ WPost B w vi vb nx ind so op vo (bs ++ lineL ind op) w' := by
  by_cases hi : ind = -1
  · subst hi
    refine (newLine_none B w vi vb nx so op _ vo bs h).mono ?_
    rintro e w' ⟨rfl, rfl⟩
    refine ⟨rfl, vo, ?_, Fr.refl _ _, fun _ hg => .inl hg⟩
    have : bs ++ lineL (-1) op = bs := by unfold lineL; simp
    rw [this]
    exact h
  · obtain ⟨n, rfl⟩ : ∃ n : Nat, ind = n := ⟨ind.toNat, by omega⟩
    have : lineL (n : Int) op = 10 :: List.replicate (n * op) 32 := by unfold lineL; rw [if_neg (by omega), Int.toNat_natCast]
    rw [this]
    exact newLine_some B w vi vb nx n so op _ vo bs h (by omega) hop hl
end Go.Proofs.YtmkkibaacclhnaaGreatDoor
