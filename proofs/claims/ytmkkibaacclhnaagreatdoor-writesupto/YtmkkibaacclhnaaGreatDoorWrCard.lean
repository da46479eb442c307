/-
  The law decantlaw.Writes, second form, its card: whatever the items, the indent and the order, of bulk at most 1048576, the two tables of unicode/utf8 laid as the program's text lays them: the program writes what the document writes, and changes nothing that it was given.
-/
import Derived.Test.YtmkkibaacclhnaaGreatDoorRows
import Derived.Test.YtmkkibaacclhnaaGreatDoorTie
import Derived.Test.YtmkkibaacclhnaaGreatDoorCards
import Derived.Test.YtmkkibaacclhnaaGreatDoorVy
import Derived.Lib.LaidIn
import Derived.Lib.LaidU8T
import Derived.Deep.DeepHandedRow
import Derived.Deep.DeepWitnessRowRef
import Derived.ProofKit
import Derived.OpenShut
import Derived.JoinedCond
import Derived.Carry
import Derived.ChangeSlices
import Derived.SizedLaws
import Derived.Leaving
namespace Go.Proofs.YtmkkibaacclhnaaGreatDoor
open Go.ChangeShapes Go.WideShapes Go.ChangeAt Go.RowKit

theorem door_own : ownKnob Tryz.prog.godebug = none := by kernel_rfl
theorem door_laid : laidOutB Tryz.prog = true := by kernel_rfl
theorem ofL_backD (s : ByteArray) : ofL s.data.toList = s := by
  cases s; rfl
theorem Tryz.cells29R : Tryz.prog.cellsOf 29 = 4 := by kernel_rfl
theorem Tryz.cells3D : Tryz.prog.cellsOf 3 = 1 := by kernel_rfl
theorem Tryz.cells27D : Tryz.prog.cellsOf 27 = 1 := by kernel_rfl
theorem Tryz.cells9D : Tryz.prog.cellsOf 9 = 1 := by kernel_rfl
theorem Tryz.fields29R : (Tryz.prog.underlying 29).map (fun d => match d with | .struct fs => fs.toList.map (fun f => (f.type, f.offset)) | _ => []) = some [(3, 0), (3, 1), (27, 2), (9, 3)] := by kernel_rfl
theorem Tryz.struct29R : ∃ f0 f1 f2 f3 : Field, Tryz.prog.underlying 29 = some (.struct #[f0, f1, f2, f3]) ∧ (f0.type = 3 ∧ f0.offset = 0) ∧ (f1.type = 3 ∧ f1.offset = 1) ∧ (f2.type = 27 ∧ f2.offset = 2) ∧ f3.type = 9 ∧ f3.offset = 3 := by
  have h := Tryz.fields29R
  cases hu : Tryz.prog.underlying 29 with
  | none => rw [hu] at h; cases h
  | some d =>
    rw [hu] at h
    simp only [Option.map_some, Option.some.injEq] at h
    split at h
    · rename_i fs
      obtain ⟨l⟩ := fs
      match l, h with
      | [], h => cases h
      | [_], h => simp at h
      | [_, _], h => simp at h
      | [_, _, _], h => simp at h
      | [f0, f1, f2, f3], h =>
        simp at h
        exact ⟨f0, f1, f2, f3, rfl, h.1, h.2.1, h.2.2.1, h.2.2.2⟩
      | _ :: _ :: _ :: _ :: _ :: _, h => simp at h
    · cases h
theorem list_four {α : Type} (l : List α) (h : l.length = 4) : ∃ a b c d, l = [a, b, c, d] := by
  match l, h with
  | [a, b, c, d], _ => exact ⟨a, b, c, d, rfl⟩
/-- an item as it is read -/
theorem open_item {H : Type} {enc : TypeId × Value → H} {w : World} {base : Nat} {spare : Nat → Bool} {held : Bool} {fuel : Nat} {a : Addr} {y : DataW H × List MemPlace}
    (h : (w.cells? base a (Tryz.prog.cellsOf 29)).bind (DataW.trod enc Tryz.prog w base spare held fuel 29) = some y) :
    ∃ x : Im, w.cell? a = some (.int .i64 x.k) ∧ w.cell? (a.add 1) = some (.int .i64 x.n) ∧ w.cell? (a.add 2) = some (.int .u64 (x.b : Int)) ∧ w.cell? (a.add 3) = some (.string (ofL x.s)) ∧ x.b < 18446744073709551616 ∧ y = (.agg [.lit (.int .i64 x.k), .lit (.int .i64 x.n), .lit (.int .u64 (x.b : Int)), .lit (.string x.s)], []) := by
  obtain ⟨cs, hcs, hy⟩ := Option.bind_eq_some_iff.1 h
  obtain ⟨_, hl, hc⟩ := World.cells?_some hcs
  rw [Tryz.cells29R] at hl hc
  obtain ⟨f0, f1, f2, f3, hu, ⟨t0, o0⟩, ⟨t1, o1⟩, ⟨t2, o2⟩, t3, o3⟩ := Tryz.struct29R
  obtain ⟨xs, n, _, rfl, _, hxl, hf⟩ := DataW.trod_struct hu hy
  have g0 := hf 0 f0 rfl
  have g1 := hf 1 f1 rfl
  have g2 := hf 2 f2 rfl
  have g3 := hf 3 f3 rfl
  have hxl4 : xs.length = 4 := hxl
  clear hy hf hxl h hcs
  obtain ⟨c0, c1, c2, c3, rfl⟩ := list_four cs hl
  obtain ⟨x0, x1, x2, x3, rfl⟩ := list_four xs hxl4
  rw [t0, o0, Tryz.cells3D] at g0
  rw [t1, o1, Tryz.cells3D] at g1
  rw [t2, o2, Tryz.cells27D] at g2
  rw [t3, o3, Tryz.cells9D] at g3
  obtain ⟨k, e0, rfl, _⟩ := DataW.trod_int Tryz.underlying3 g0
  obtain ⟨z, e1, rfl, _⟩ := DataW.trod_int Tryz.underlying3 g1
  obtain ⟨b, e2, rfl, hb⟩ := DataW.trod_int Tryz.underlying27 g2
  obtain ⟨s, e3, rfl, _⟩ := DataW.trod_string Tryz.underlying9 g3
  simp at e0 e1 e2 e3
  subst e0 e1 e2 e3
  have a0 := hc 0 (by omega)
  have a1 := hc 1 (by omega)
  have a2 := hc 2 (by omega)
  have a3 := hc 3 (by omega)
  have hb2 := bounds_u64 hb
  obtain ⟨bn, rfl⟩ : ∃ bn : Nat, b = bn := ⟨b.toNat, by omega⟩
  refine ⟨⟨k, z, bn, s.data.toList⟩, ?_, a1, a2, ?_, by show bn < _; omega, by simp⟩
  · simpa [Addr.add] using a0
  · rw [ofL_backD]; exact a3
def imOf {H : Type} (y : DataW H × List MemPlace) : Im := match y.1 with | .agg [.lit (.int _ k), .lit (.int _ n), .lit (.int _ b), .lit (.string m)] => ⟨k, n, b.toNat, m⟩ | _ => zeroI
def isItemD {H : Type} (y : DataW H × List MemPlace) : Prop := ∃ x : Im, y.1 = .agg [.lit (.int .i64 x.k), .lit (.int .i64 x.n), .lit (.int .u64 (x.b : Int)), .lit (.string x.s)] ∧ x.b < 18446744073709551616
theorem imOf_is {H : Type} {y : DataW H × List MemPlace} {x : Im} (h : y.1 = .agg [.lit (.int .i64 x.k), .lit (.int .i64 x.n), .lit (.int .u64 (x.b : Int)), .lit (.string x.s)]) : imOf y = x := by
  unfold imOf
  rw [h]
  simp
theorem bulk_items {H : Type} (ys : List (DataW H × List MemPlace)) (hy : ∀ y ∈ ys, isItemD y) : wgt (ys.map imOf) ≤ 33000 * Rows.uptoBulkAll (ys.map (·.1)) ∧ ys.length ≤ Rows.uptoBulkAll (ys.map (·.1)) ∧ (∀ x, x ∈ ys.map imOf → x.s.length ≤ Rows.uptoBulkAll (ys.map (·.1))) ∧ Bok (ys.map imOf) := by
  induction ys with
  | nil => exact ⟨by simp [wgt], by simp, by simp, by intro x hx; simp at hx⟩
  | cons y ys ih =>
    obtain ⟨h1, h2, h3, h4⟩ := ih (fun z hz => hy z (by simp [hz]))
    obtain ⟨x, hx, hb⟩ := hy y (by simp)
    have hi := imOf_is hx
    simp only [List.map_cons, hi, hx, wgt_cons, Rows.uptoBulkAll, Rows.uptoBulk, List.length_cons]
    refine ⟨by omega, by omega, fun z hz => ?_, fun z hz => ?_⟩
    · rcases List.mem_cons.1 hz with rfl | hz
      · omega
      · have := h3 z hz; omega
    · rcases List.mem_cons.1 hz with rfl | hz
      · exact hb
      · exact h4 z hz
theorem accept_same : Rows.laid_unicode_utf8_acceptRanges (H := Unit) = Lib.acceptData := rfl
theorem first_same : Rows.laid_unicode_utf8_first = Lib.firstData := by kernel_rfl
/-- what the row's list gives -/
theorem tabs_of {W : World} (h : laidMetH Tryz.prog Rows.writesUptoRow.laid W) : Tabs W := by
  have h1 := Lib.laidMet.reads (P := Tryz.prog) (l := Rows.writesUptoRow.laid) h (.head _)
  have h2 := Lib.laidMet.reads (P := Tryz.prog) (l := Rows.writesUptoRow.laid) h (.tail _ (.head _))
  rw [accept_same] at h1
  rw [first_same] at h2
  exact utf8Tabs_of_readsT (U8Types.of196 Tryz.laysValid) ⟨by kernel_rfl, by kernel_rfl, by kernel_rfl, by kernel_rfl, by kernel_rfl, by kernel_rfl, by kernel_rfl⟩ h2 h1
set_option maxRecDepth 100000 in
theorem writes_contract (H : Type) (enc : TypeId × Value → H) (W : World) (base : Nat) (args : Array Value) (ds gs : List (DataW H)) (before : List MemPlace)
    (hval : ∀ (j : Nat) t v, Tryz.f3.params[j]? = some t → args[j]? = some v → Value.okWide Tryz.prog W .any base t v)
    (hW : DataW.Whole enc Tryz.prog Tryz.f3.params.toList Rows.writesSpec.vars false W args.toList ds gs before) (hk : Rows.uptoSmall H (ds ++ gs) = true) (hL : laidMetH Tryz.prog Rows.writesUptoRow.laid W) :
    Calls Tryz.prog 3 args W fun e W' => ∃ v, e = .returned v ∧ Rows.writesSpec.post enc Tryz.prog Tryz.f3 false true false false W args v W' := by
  have hT := tabs_of hL
  have hW' := hW
  obtain ⟨p, q, hA0, hV, rfl, hfz, hnd⟩ := hW
  have hA : DataW.TrodAll enc Tryz.prog W 0 (fun _ => true) true Tryz.f3.params.toList args.toList ds p := hA0
  rw [Tryz.params3] at hA hval
  obtain ⟨v0, vs0, d0, ds0, p0, q0, hargs, rfl, rfl, h0, r0⟩ := trodAll_cons hA
  obtain ⟨v1, vs1, d1, ds1, p1, q1, rfl, rfl, rfl, h1, r1⟩ := trodAll_cons r0
  obtain ⟨v2, vs2, d2, ds2, p2, q2, rfl, rfl, rfl, h2, r2⟩ := trodAll_cons r1
  obtain ⟨rfl, rfl, rfl⟩ := trodAll_nil r2
  obtain rfl : args = #[v0, v1, v2] := by cases args; simp_all
  obtain ⟨rfl, rfl⟩ := trodVars_none hV
  obtain ⟨a1, rfl, rfl, rfl, w1⟩ := open_int Tryz.underlying3 (hval 1 3 v1 rfl rfl) h1
  obtain ⟨b2, rfl, rfl, rfl⟩ := open_bool Tryz.underlying4 (hval 2 4 v2 rfl rfl) h2
  obtain ⟨pa, n, cap, rfl⟩ := okWide_slice Tryz.underlying22 (hval 0 22 v0 rfl rfl)
  have h0k := h0
  obtain ⟨fuel, hf⟩ := h0
  clear hA0
  simp only [List.append_nil] at hW' hk
  have hlt : ∀ x ∈ p0, x.block < W.heap.size := fun x hx => by simpa using hW'.lt x hx
  have hargs0 : ∀ (W' : World), Below W.heap.size W W' → DataW.Trod enc Tryz.prog W' 0 (fun b => decide (b < W.heap.size)) true 22 (.slice pa n cap) d0 p0 :=
    fun W' hn => Below.trod door_laid (by kernel_rfl) (of_decide_eq_true (by kernel_rfl)) h0k hn hlt
  have hbulk : Rows.uptoBulkAll [d0, DataW.lit (H := H) (.int .i64 a1), .lit (.bool b2)] ≤ 1048576 := of_decide_eq_true hk
  simp only [Rows.uptoBulkAll, Rows.uptoBulk] at hbulk
  have close : ∀ its : List Im, its.length = n → LR W pa its → n ≤ cap → cap ≤ 1048576 → n ≤ 1048576 → (∀ x, x ∈ its → x.s.length ≤ 1048576) → Bok its → wgt its ≤ 33000 * 1048576 →
      Calls Tryz.prog 3 #[.slice pa n cap, .int .i64 a1, .bool b2] W fun e W' => ∃ v, e = .returned v ∧ Rows.writesSpec.post enc Tryz.prog Tryz.f3 false true false false W #[.slice pa n cap, .int .i64 a1, .bool b2] v W' := by
    rintro its rfl hLR hc1 hc2 hn hs hb hwg
    refine (writes_any W pa cap its a1 b2 hLR hT hc1 (by omega) (by omega) (fun x hx => by have := hs x hx; omega) hb (by omega)).mono fun e W' ⟨he, hg⟩ => ?_
    subst he
    exact ⟨_, rfl, _, _, _, [], p0, [], hW', trodAll_cons_mk (shut_bool Tryz.underlying4 _) trodAll_mk0, by
      have hh := trodAll_mk3 (hargs0 W' hg.below) (shut_int Tryz.underlying3 w1) (shut_bool Tryz.underlying4 b2)
      simp only [List.append_nil] at hh
      exact hh, rfl, hg.below.frame _, fun h => by cases h⟩
  rcases DataW.trod_slice Tryz.underlying22 hf with ⟨hcs, hx⟩ | ⟨a, len', cap', elems, rest, n', _, hcs, hx, _, hl, hm, hlen, hel, hsp, _⟩
  · simp [Value.cells] at hcs
    obtain ⟨rfl, rfl, rfl⟩ := hcs
    exact close [] rfl (fun h => absurd rfl h) (Nat.le_refl _) (by omega) (by omega) (by simp) (by intro x hx; simp at hx) (by simp [wgt])
  · simp [Value.cells] at hcs
    obtain ⟨rfl, rfl, rfl⟩ := hcs
    simp only [Prod.mk.injEq] at hx
    obtain ⟨rfl, rfl⟩ := hx
    have item : ∀ (i : Nat) (y : DataW H × List MemPlace), (W.cells? 0 (a.add (i * Tryz.prog.cellsOf 29)) (Tryz.prog.cellsOf 29)).bind (DataW.trod enc Tryz.prog W 0 (fun x => true) true n' 29) = some y → ∃ x : Im, W.cell? (a.add (i * 4)) = some (.int .i64 x.k) ∧ W.cell? ((a.add (i * 4)).add 1) = some (.int .i64 x.n) ∧ W.cell? ((a.add (i * 4)).add 2) = some (.int .u64 (x.b : Int)) ∧ W.cell? ((a.add (i * 4)).add 3) = some (.string (ofL x.s)) ∧ x.b < 18446744073709551616 ∧ y.1 = .agg [.lit (.int .i64 x.k), .lit (.int .i64 x.n), .lit (.int .u64 (x.b : Int)), .lit (.string x.s)] := by
      intro i y h3
      obtain ⟨x, c0, c1, c2, c3, hb, rfl⟩ := open_item h3
      rw [Tryz.cells29R] at c0 c1 c2 c3
      exact ⟨x, c0, c1, c2, c3, hb, rfl⟩
    have hE : ∀ y ∈ elems, isItemD y := fun y hy => by
      obtain ⟨i, hi⟩ := List.getElem?_of_mem hy
      have hin : i < n := by have := (List.getElem?_eq_some_iff.1 hi).1; omega
      obtain ⟨x, _, _, _, _, hb, hx⟩ := item i y ((hel i hin).trans hi)
      exact ⟨x, hx, hb⟩
    have hR : ∀ y ∈ rest, isItemD y := fun y hy => by
      obtain ⟨i, hi⟩ := List.getElem?_of_mem hy
      have hin : i < cap - n := by have := (List.getElem?_eq_some_iff.1 hi).1; have := (hsp rfl).1; omega
      obtain ⟨x, _, _, _, _, hb, hx⟩ := item (n + i) y (((hsp rfl).2 i hin).trans hi)
      exact ⟨x, hx, hb⟩
    obtain ⟨e1, e2, e3, e4⟩ := bulk_items elems hE
    obtain ⟨-, f2, -, -⟩ := bulk_items rest hR
    have hrl := (hsp rfl).1
    simp only [Rows.uptoBulk] at hbulk
    refine close (elems.map imOf) (by simpa using hlen) ?_ hl (by omega) (by omega) (fun x hx => by have := e3 x hx; omega) e4 (by omega)
    intro hne
    have hpos : 0 < n := by
      rcases Nat.eq_zero_or_pos n with h | h
      · exfalso; apply hne; rw [List.map_eq_nil_iff]; exact List.eq_nil_of_length_eq_zero (by omega)
      · exact h
    refine ⟨a, rfl, ?_, fun i x hx => ?_⟩
    · obtain ⟨b, off, spot⟩ := a
      refine hlt (.cell b off) (List.mem_append.2 (.inl (MemPlace.mem_row.2 ⟨0, ?_, by simp⟩)))
      rw [Tryz.cells29R]
      omega
    · rw [List.getElem?_map] at hx
      cases hy : elems[i]? with
      | none => rw [hy] at hx; cases hx
      | some y =>
        rw [hy] at hx
        simp at hx
        subst hx
        have hin : i < n := by have := (List.getElem?_eq_some_iff.1 hy).1; omega
        obtain ⟨x, c0, c1, c2, c3, hb, hx⟩ := item i y ((hel i hin).trans hy)
        rw [imOf_is hx]
        exact ⟨c0, c1, c2, c3⟩
/-- a world for the witness: the two tables hold what they are laid with -/
noncomputable def laidWorld (os : Os) : World :=
  let w0 := World.holding Tryz.prog os ⟨#[], #[], []⟩
  let put (h : Array Obj) (g : Nat) (cs : Array Value) : Array Obj := h.modify g fun
    | .cells _ t frozen => .cells cs t frozen
    | o => o
  let h1 := put w0.heap 0 (Lib.firstTab.map fun z => Value.int .u8 z).toArray
  let h2 := put h1 1 ((List.range 16).flatMap fun i => [Value.int .u8 (Lib.accLo i), Value.int .u8 (Lib.accHi i)]).toArray
  { w0 with heap := h2 }
theorem laid_same : Rows.writesUptoRow.laid = [("unicode/utf8.acceptRanges", Lib.acceptData), ("unicode/utf8.first", Lib.firstData)] := by
  show [("unicode/utf8.acceptRanges", Rows.laid_unicode_utf8_acceptRanges), ("unicode/utf8.first", Rows.laid_unicode_utf8_first)] = _
  rw [accept_same, first_same]
theorem laid_met (os : Os) (args : Array Value) : laidMet Tryz.prog Rows.writesUptoRow.laid ((laidWorld os).forCall (fun _ _ => 0) ⟨#[], args, []⟩).memory := by
  rw [laid_same]
  exact (LaidIn.of_run (l := [("unicode/utf8.acceptRanges", Lib.acceptData), ("unicode/utf8.first", Lib.firstData)]) [1, 0] 8 (by kernel_rfl) (by kernel_rfl) (by kernel_rfl) (by kernel_rfl)).met
theorem writes_witness (os : Os) {H : Type} (enc : TypeId × Value → H) :
    (Rows.OpenSpec.upto Rows.writesSpec).preRow enc Tryz.prog Tryz.f3 Rows.writesUptoRow.domain false Rows.writesUptoRow.laid ((laidWorld os).forCall (fun _ _ => 0) ⟨#[], #[.slice none 0 0, .int .i64 0, .bool false], []⟩).memory #[.slice none 0 0, .int .i64 0, .bool false] := by
  have hw : (DataW.whole enc Tryz.prog ((laidWorld os).forCall (fun _ _ => 0) ⟨#[], #[.slice none 0 0, .int .i64 0, .bool false], []⟩).memory Tryz.f3.params.toList Rows.writesSpec.vars false #[Value.slice none 0 0, .int .i64 0, .bool false].toList 8).map (fun x => (x.1, x.2.1)) =
      some ([.nil, .lit (.int .i64 0), .lit (.bool false)], []) := by kernel_rfl
  obtain ⟨⟨x1, x2, x3⟩, hx, hx1⟩ := Option.map_eq_some_iff.1 hw
  simp only [Prod.mk.injEq] at hx1
  obtain ⟨rfl, rfl⟩ := hx1
  exact OpenSpec.preRow_of_cond 8 hx (by kernel_rfl) (fun k hk => by cases hk; kernel_rfl) (by kernel_rfl) (laid_met os _)
set_option maxRecDepth 100000 in
set_option maxHeartbeats 2000000 in
theorem writes_lifted (os : Os) (started : os.Started) (H : Type) (enc : TypeId × Value → H) (F : Stop.Interp) :
    ReturnsInHanded {} Tryz.checked os 3 .any ((Rows.OpenSpec.upto Rows.writesSpec).preRow enc Tryz.prog Tryz.f3 Rows.writesUptoRow.domain false Rows.writesUptoRow.laid) (((Rows.OpenSpec.upto Rows.writesSpec).at F).post enc Tryz.prog Tryz.f3 false true false false) := by
  refine returnsInHanded_of_row (C := Tryz.checked) (s := Rows.OpenSpec.upto Rows.writesSpec) door_own started (by kernel_rfl) Tryz.func3
    (witness_row_atRef (enc := enc) (C := Tryz.checked) false (laidWorld os) #[.slice none 0 0, .int .i64 0, .bool false] rfl (by kernel_rfl) (by kernel_rfl) (by kernel_rfl) (writes_witness os enc)) ?_
  intro W base args ds gs before hval hW _ hcond _ hL _ _
  exact writes_contract H enc W base args ds gs before hval hW (hcond _ rfl) hL
/-- where the machine is quiet at the return, no other goroutine is more than leaving -/
theorem alone_leaving {P : Program} {m : Machine} {w : World} {t : Trace} (h : aloneAtReturn P m w t) : leavingAtReturn P m w t := ⟨h.2.1, onlyLeaving_of_quiet h.1, h.2.2⟩
theorem open_mono {a : Assume} {st : Option Stop.Interp} {C : Checked} {os : Os} {f : FuncId} {r : Reach} {ok : Program → World → Reach → Nat → FuncId → Input → Prop} {Pre : World → Array Value → Prop} {Post : World → Array Value → Value → World → Prop} {A B : Machine → World → Trace → Prop} {al : Machine → Prop}
    (hAB : ∀ m w t, A m w t → B m w t) (h : ReturnsInOpen a st C os f r ok Pre Post A al) : ReturnsInOpen a st C os f r ok Pre Post B al := by
  obtain ⟨h1, h2, h3, h4, h5⟩ := h
  refine ⟨h1, h2, h3, h4, fun w tape i hf => ?_⟩
  obtain ⟨n, v, w', q1, q2, q3, q4, ⟨j, last, r1, r2, r3⟩, q6⟩ := h5 w tape i hf
  exact ⟨n, v, w', q1, q2, q3, q4, ⟨j, last, r1, r2, hAB _ _ _ r3⟩, q6⟩
/-- the row, as if no goroutine could be left -/
def aloneRow : OpenClaim := { Rows.writesUptoRow with leaving := false }
theorem alone_holds : aloneRow.holds Tryz.pinned (Rows.OpenSpec.upto Rows.writesSpec) :=
  OpenClaim.holds_of_cond 3 Tryz.f3 rfl rfl rfl rfl rfl rfl rfl ⟨rfl, rfl, rfl, rfl, rfl⟩ rfl rfl rfl rfl rfl (by kernel_rfl) Tryz.func3 (by kernel_rfl)
    (of_decide_eq_true (by kernel_rfl)) (by unfold Func.isWrapper; first | (rw [if_pos (by decide +kernel)]; kernel_rfl) | (rw [if_neg (by decide +kernel)]; exact ⟨rfl, rfl⟩))
    (fun os started H enc _ F => by rw [OpenClaim.pre_eq_preRow]; exact writes_lifted os started H enc F)
theorem writes_said : Rows.WritesUptoSaid := by
  obtain ⟨h1, h2, h3, h4, h5, h6, h7, h8, f, fn, k1, k2, k3, k4, k5, k6, k7, k8, k9, k10, k11, k12, k13, k14, k15, k16, k17, k18, k19, k20, k21, L, hL, hrun⟩ := alone_holds
  refine ⟨by kernel_rfl, h2, h3, h4, h5, h6, h7, h8, f, fn, k1, k2, k3, k4, k5, k6, k7, k8, k9, k10, k11, k12, k13, k14, k15, k16, k17, k18, k19, k20, k21, L, hL, fun os st q H enc inj => ?_⟩
  have hr : ∀ F, ReturnsInOpen _ _ _ _ _ _ _ _ _ (aloneAtReturn Tryz.pinned.checked.prog) _ := hrun os st q H enc inj
  exact fun F => open_mono (fun m w t => alone_leaving) (hr F)
theorem writes_plain (f : FuncId) (fn : Func) (hf : Tryz.pinned.checked.prog.funcNamed "decant/decantlaw.Writes" = some f) (hfn : Tryz.pinned.checked.prog.funcs[f]? = some fn) :
    true = Tryz.pinned.checked.prog.looks [] ∧ ∀ (j : Nat) t, fn.params[j]? = some t → Tryz.pinned.checked.prog.wantsStandIn t = false := by
  obtain rfl : f = 3 := Option.some.inj ((show Tryz.prog.funcNamed "decant/decantlaw.Writes" = some 3 by kernel_rfl).symm.trans hf) |>.symm
  obtain rfl : fn = Tryz.f3 := (Option.some.inj (Tryz.func3.symm.trans hfn)).symm
  refine ⟨by kernel_rfl, fun j t ht => ?_⟩
  rw [Tryz.params3] at ht
  have hm : t = 22 ∨ t = 3 ∨ t = 4 := by simpa using Array.mem_of_getElem? ht
  rcases hm with rfl | rfl | rfl
  · exact (show Tryz.prog.wantsStandIn 22 = false by kernel_rfl)
  · exact (show Tryz.prog.wantsStandIn 3 = false by kernel_rfl)
  · exact (show Tryz.prog.wantsStandIn 4 = false by kernel_rfl)
end Go.Proofs.YtmkkibaacclhnaaGreatDoor

namespace Go.Proofs.YtmkkibaacclhnaaGreatDoor

/-- What is claimed. -/
theorem writes_card : Rows.WritesUptoCardSaid := by
  refine ⟨?_, ?_, ?_, ?_, ?_⟩
  · exact Claim7.tied_new_at .later [.data, .pinned] true (Claim7.new_of_sixth writes_said Rows.writesUptoCard.stood.harness true rfl ⟨rfl, rfl⟩ (by kernel_rfl) (by kernel_rfl) writes_plain) (by kernel_rfl)
  · intro D hD
    have hD : D ∈ ([] : List (List PathCond)) := hD
    simp at hD
  · exact writesUpto_row_tie
  · intro h
    have h : false = true := h
    cases h
  · kernel_rfl
#print axioms writes_card
end Go.Proofs.YtmkkibaacclhnaaGreatDoor
