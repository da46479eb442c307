/-
  The law decantlaw.Reads, second form: whatever the two depths and the script, of bulk at most 1048576: every Feed and Close of two parsers in turns answers as the document's own reading does, and no list that came out is changed by another. By the walks of the texts above it.
-/
import Derived.Test.YtmkkibaacclhnaaGreatRows
import Derived.Test.YtmkkibaacclhnaaGreatUh
import Derived.ProofKit
import Derived.OpenShut
import Derived.JoinedCond
import Derived.Carry
import Derived.ChangeSlices
namespace Go.Proofs.YtmkkibaacclhnaaGreat
open Go.ChangeShapes Go.WideShapes Go.ChangeAt Go.RowKit
open Go.ChangeMaps (open_string shut_string)

theorem reads_own : ownKnob Tryz.prog.godebug = none := by kernel_rfl
theorem reads_laid : laidOutB Tryz.prog = true := by kernel_rfl
theorem Tryz.under22R : Tryz.prog.underlying 22 = some (.slice 34) := by kernel_rfl
theorem ofL_backC (s : ByteArray) : ofL s.data.toList = s := by
  cases s; rfl
theorem Tryz.cells34R : Tryz.prog.cellsOf 34 = 3 := by kernel_rfl
theorem Tryz.cells3R : Tryz.prog.cellsOf 3 = 1 := by kernel_rfl
theorem Tryz.cells9R : Tryz.prog.cellsOf 9 = 1 := by kernel_rfl
theorem Tryz.fields34R : (Tryz.prog.underlying 34).map (fun d => match d with | .struct fs => fs.toList.map (fun f => (f.type, f.offset)) | _ => []) = some [(3, 0), (3, 1), (9, 2)] := by kernel_rfl
theorem Tryz.struct34R : ∃ f0 f1 f2 : Field, Tryz.prog.underlying 34 = some (.struct #[f0, f1, f2]) ∧ (f0.type = 3 ∧ f0.offset = 0) ∧ (f1.type = 3 ∧ f1.offset = 1) ∧ f2.type = 9 ∧ f2.offset = 2 := by
  have h := Tryz.fields34R
  cases hu : Tryz.prog.underlying 34 with
  | none => rw [hu] at h; cases h
  | some d =>
    rw [hu] at h
    simp only [Option.map_some, Option.some.injEq] at h
    split at h
    · rename_i fs
      obtain ⟨l⟩ := fs
      match l, h with
      | [], h => cases h
      | [_], h => simp at h
      | [_, _], h => simp at h
      | [f0, f1, f2], h =>
        simp at h
        exact ⟨f0, f1, f2, rfl, h.1, h.2.1, h.2.2⟩
      | _ :: _ :: _ :: _ :: _, h => simp at h
    · cases h
theorem list_three {α : Type} (l : List α) (h : l.length = 3) : ∃ a b c, l = [a, b, c] := by
  match l, h with
  | [a, b, c], _ => exact ⟨a, b, c, rfl⟩
/-- a step as it is read -/
theorem open_step {H : Type} {enc : TypeId × Value → H} {w : World} {base : Nat} {spare : Nat → Bool} {held : Bool} {fuel : Nat} {a : Addr} {y : DataW H × List MemPlace}
    (h : (w.cells? base a (Tryz.prog.cellsOf 34)).bind (DataW.trod enc Tryz.prog w base spare held fuel 34) = some y) :
    ∃ (k z : Int) (s : ByteArray), w.cell? a = some (.int .i64 k) ∧ w.cell? (a.add 1) = some (.int .i64 z) ∧ w.cell? (a.add 2) = some (.string s) ∧ y = (.agg [.lit (.int .i64 k), .lit (.int .i64 z), .lit (.string s.data.toList)], []) := by
  obtain ⟨cs, hcs, hy⟩ := Option.bind_eq_some_iff.1 h
  obtain ⟨_, hl, hc⟩ := World.cells?_some hcs
  rw [Tryz.cells34R] at hl hc
  obtain ⟨f0, f1, f2, hu, ⟨t0, o0⟩, ⟨t1, o1⟩, t2, o2⟩ := Tryz.struct34R
  obtain ⟨xs, n, _, rfl, _, hxl, hf⟩ := DataW.trod_struct hu hy
  have g0 := hf 0 f0 rfl
  have g1 := hf 1 f1 rfl
  have g2 := hf 2 f2 rfl
  have hxl3 : xs.length = 3 := hxl
  clear hy hf hxl h hcs
  obtain ⟨c0, c1, c2, rfl⟩ := list_three cs hl
  obtain ⟨x0, x1, x2, rfl⟩ := list_three xs hxl3
  rw [t0, o0, Tryz.cells3R] at g0
  rw [t1, o1, Tryz.cells3R] at g1
  rw [t2, o2, Tryz.cells9R] at g2
  obtain ⟨k, e0, rfl, _⟩ := DataW.trod_int Tryz.underlying3 g0
  obtain ⟨z, e1, rfl, _⟩ := DataW.trod_int Tryz.underlying3 g1
  obtain ⟨s, e2, rfl, _⟩ := DataW.trod_string Tryz.underlying9 g2
  simp at e0 e1 e2
  subst e0 e1 e2
  have a0 := hc 0 (by omega)
  have a1 := hc 1 (by omega)
  have a2 := hc 2 (by omega)
  refine ⟨k, z, s, ?_, a1, a2, by simp⟩
  simpa [Addr.add] using a0
theorem bulk_snoc {H : Type} (ds : List (DataW H)) (d : DataW H) : Rows.uptoBulkAll (ds ++ [d]) = Rows.uptoBulkAll ds + Rows.uptoBulk d := by
  induction ds with
  | nil => simp [Rows.uptoBulkAll]
  | cons x ds ih =>
    simp only [List.cons_append, Rows.uptoBulkAll, ih]
    omega
def kOf {H : Type} (y : DataW H × List MemPlace) : Int := match y.1 with | .agg [.lit (.int _ k), _, _] => k | _ => 0
def hOf {H : Type} (y : DataW H × List MemPlace) : Int := match y.1 with | .agg [_, .lit (.int _ k), _] => k | _ => 0
def mOf {H : Type} (y : DataW H × List MemPlace) : List UInt8 := match y.1 with | .agg [_, _, .lit (.string m)] => m | _ => []
theorem sum_bulk {H : Type} (ys : List (DataW H × List MemPlace)) (hy : ∀ y ∈ ys, ∃ (k z : Int) (m : List UInt8), y.1 = .agg [.lit (.int .i64 k), .lit (.int .i64 z), .lit (.string m)]) :
    ∀ k, k ≤ ys.length → sumL (fun i => (ys[i]?.map mOf).getD []) k + 5 * k = Rows.uptoBulkAll ((ys.take k).map (·.1)) + k := by
  intro k
  induction k with
  | zero => intro _; simp [sumL, Rows.uptoBulkAll]
  | succ k ih =>
    intro hk
    have h1 := ih (by omega)
    have hlt : k < ys.length := by omega
    obtain ⟨kk, z, m, e⟩ := hy (ys[k]) (List.getElem_mem hlt)
    rw [List.take_succ_eq_append_getElem hlt, List.map_append, List.map_singleton, bulk_snoc, e]
    have e2 : mOf ys[k] = m := by unfold mOf; rw [e]
    simp only [sumL, List.getElem?_eq_getElem hlt, Option.map_some, Option.getD_some, e2, Rows.uptoBulk, Rows.uptoBulkAll]
    omega
set_option maxRecDepth 100000 in
theorem reads_contract (H : Type) (enc : TypeId × Value → H) (W : World) (base : Nat) (args : Array Value) (ds gs : List (DataW H)) (before : List MemPlace)
    (hval : ∀ (j : Nat) t v, Tryz.f3.params[j]? = some t → args[j]? = some v → Value.okWide Tryz.prog W .any base t v)
    (hW : DataW.Whole enc Tryz.prog Tryz.f3.params.toList Rows.readsSpec.vars false W args.toList ds gs before) (hk : Rows.uptoSmall H (ds ++ gs) = true) :
    Calls Tryz.prog 3 args W fun e W' => ∃ v, e = .returned v ∧ Rows.readsSpec.post enc Tryz.prog Tryz.f3 false true false false W args v W' := by
  have hW' := hW
  obtain ⟨p, q, hA0, hV, rfl, hfz, hnd⟩ := hW
  have hA : DataW.TrodAll enc Tryz.prog W 0 (fun _ => true) true Tryz.f3.params.toList args.toList ds p := hA0
  rw [Tryz.params3] at hA hval
  obtain ⟨v0, vs0, d0, ds0, p0, q0, hargs, rfl, rfl, h0, r0⟩ := trodAll_cons hA
  obtain ⟨v1, vs1, d1, ds1, p1, q1, rfl, rfl, rfl, h1, r1⟩ := trodAll_cons r0
  obtain ⟨v2, vs2, d2, ds2, p2, q2, rfl, rfl, rfl, h2, r2⟩ := trodAll_cons r1
  obtain ⟨rfl, rfl, rfl⟩ := trodAll_nil r2
  obtain rfl : args = #[v0, v1, v2] := by cases args; simp_all
  obtain ⟨rfl, rfl⟩ := trodVars_none hV
  obtain ⟨a0, rfl, rfl, rfl, w0⟩ := open_int Tryz.underlying3 (hval 0 3 v0 rfl rfl) h0
  obtain ⟨a1, rfl, rfl, rfl, w1⟩ := open_int Tryz.underlying3 (hval 1 3 v1 rfl rfl) h1
  obtain ⟨pa, n, cap, rfl⟩ := okWide_slice Tryz.under22R (hval 2 22 v2 rfl rfl)
  have h2k := h2
  obtain ⟨fuel, hf⟩ := h2
  clear hA0
  simp only [List.append_nil, List.nil_append] at hW' hk
  have hlt : ∀ x ∈ p2, x.block < W.heap.size := fun x hx => by simpa using hW'.lt x hx
  have hargs2 : ∀ (W' : World), Below W.heap.size W W' → DataW.Trod enc Tryz.prog W' 0 (fun b => decide (b < W.heap.size)) true 22 (.slice pa n cap) d2 p2 :=
    fun W' hn => Below.trod reads_laid (by kernel_rfl) (of_decide_eq_true (by kernel_rfl)) h2k hn hlt
  have hbulk : Rows.uptoBulkAll [DataW.lit (H := H) (.int .i64 a0), .lit (.int .i64 a1), d2] ≤ 1048576 := of_decide_eq_true hk
  simp only [Rows.uptoBulkAll, Rows.uptoBulk] at hbulk
  have close : ∀ (K Z : Nat → Int) (M : Nat → List UInt8), n ≤ 1048576 → sumL M n ≤ 1048576 → (0 < n → ∃ ad, pa = some ad) → (∀ ad, pa = some ad → 0 < n → ad.block < W.heap.size) →
      (∀ j ad, j < n → pa = some ad → W.cell? (ad.add (j * 3)) = some (.int .i64 (K j)) ∧ W.cell? ((ad.add (j * 3)).add 1) = some (.int .i64 (Z j)) ∧ W.cell? ((ad.add (j * 3)).add 2) = some (.string (ofL (M j)))) →
      Calls Tryz.prog 3 #[.int .i64 a0, .int .i64 a1, .slice pa n cap] W fun e W' => ∃ v, e = .returned v ∧ Rows.readsSpec.post enc Tryz.prog Tryz.f3 false true false false W #[.int .i64 a0, .int .i64 a1, .slice pa n cap] v W' := by
    intro K Z M hn hs hnil hb hel
    refine (reads_any a0 a1 pa n cap K Z M W hn hs hnil hb hel).mono fun e W' ⟨he, hg⟩ => ?_
    subst he
    exact ⟨_, rfl, _, _, _, [], p2, [], hW', trodAll_cons_mk (shut_bool Tryz.underlying4 _) trodAll_mk0, trodAll_mk3 (shut_int Tryz.underlying3 w0) (shut_int Tryz.underlying3 w1) (hargs2 W' hg.below), rfl, hg.below.frame _, fun h => by cases h⟩
  rcases DataW.trod_slice Tryz.under22R hf with ⟨hcs, hx⟩ | ⟨a, len', cap', elems, rest, n', _, hcs, hx, _, hl, hm, hlen, hel, _, _⟩
  · simp [Value.cells] at hcs
    obtain ⟨rfl, rfl, rfl⟩ := hcs
    exact close (fun _ => 0) (fun _ => 0) (fun _ => []) (by omega) (by simp [sumL]) (fun h => absurd h (by omega)) (fun ad h => by cases h) (fun j ad hj => absurd hj (by omega))
  · simp [Value.cells] at hcs
    obtain ⟨rfl, rfl, rfl⟩ := hcs
    simp only [Prod.mk.injEq] at hx
    obtain ⟨rfl, rfl⟩ := hx
    have each : ∀ i, i < n → ∃ (y : DataW H × List MemPlace) (k z : Int) (s : ByteArray), elems[i]? = some y ∧ W.cell? (a.add (i * 3)) = some (.int .i64 k) ∧ W.cell? ((a.add (i * 3)).add 1) = some (.int .i64 z) ∧ W.cell? ((a.add (i * 3)).add 2) = some (.string s) ∧ y = (.agg [.lit (.int .i64 k), .lit (.int .i64 z), .lit (.string s.data.toList)], []) := by
      intro i hi
      have h3 := hel i hi
      rw [List.getElem?_eq_getElem (show i < elems.length by omega)] at h3
      obtain ⟨k, z, s, c0, c1, c2, hy⟩ := open_step h3
      rw [Tryz.cells34R] at c0 c1 c2
      exact ⟨_, k, z, s, List.getElem?_eq_getElem (show i < elems.length by omega), c0, c1, c2, hy⟩
    have hb := sum_bulk elems (fun y hy => by
      obtain ⟨i, hi⟩ := List.getElem?_of_mem hy
      obtain ⟨y', k, z, s, e, _, _, _, rfl⟩ := each i (by have := (List.getElem?_eq_some_iff.1 hi).1; omega)
      rw [e] at hi
      simp at hi
      subst hi
      exact ⟨k, z, _, rfl⟩) n (by omega)
    rw [List.take_of_length_le (by omega)] at hb
    simp only [Rows.uptoBulk] at hbulk
    refine close (fun i => (elems[i]?.map kOf).getD 0) (fun i => (elems[i]?.map hOf).getD 0) (fun i => (elems[i]?.map mOf).getD []) (by omega) (by omega) (fun _ => ⟨a, rfl⟩) (fun ad e hpos => ?_) (fun j ad hj e => ?_)
    · cases e
      obtain ⟨b, off, spot⟩ := a
      refine hlt (.cell b off) (List.mem_append.2 (.inl (MemPlace.mem_row.2 ⟨0, ?_, by simp⟩)))
      rw [Tryz.cells34R]
      omega
    · cases e
      obtain ⟨y, k, z, s, e, c0, c1, c2, rfl⟩ := each j hj
      simp only [e, Option.map_some, Option.getD_some, kOf, hOf, mOf]
      rw [ofL_backC]
      exact ⟨c0, c1, c2⟩
set_option maxRecDepth 100000 in
theorem reads_lifted (os : Os) (started : os.Started) (H : Type) (enc : TypeId × Value → H) (F : Stop.Interp) :
    ReturnsInHanded {} Tryz.checked os 3 .any ((Rows.OpenSpec.upto Rows.readsSpec).pre6 enc Tryz.prog Tryz.f3 Rows.readsUptoRow.domain false) (((Rows.OpenSpec.upto Rows.readsSpec).at F).post enc Tryz.prog Tryz.f3 false true false false) := by
  refine returnsInHanded_of_cond (C := Tryz.checked) (s := Rows.OpenSpec.upto Rows.readsSpec) (k := Rows.uptoSmall) rfl reads_own started (by kernel_rfl) Tryz.func3
    (OpenSpec.witness (enc := enc) (C := Tryz.checked) (s := Rows.OpenSpec.upto Rows.readsSpec) (k := Rows.uptoSmall) rfl false ⟨#[], #[.int .i64 0, .int .i64 0, .slice none 0 0], []⟩ 8 (by kernel_rfl) (by kernel_rfl) (by kernel_rfl)
      (x := ([.lit (.int .i64 0), .lit (.int .i64 0), .nil], [], [])) (by kernel_rfl) rfl (by kernel_rfl)) ?_
  intro W base args ds gs before hval hW _ hk _
  exact reads_contract H enc W base args ds gs before hval hW hk
/-- What is claimed. -/
theorem reads_holds : Rows.ReadsUptoSaid :=
  OpenClaim.holds_of_cond 3 Tryz.f3 rfl rfl rfl rfl rfl rfl rfl ⟨rfl, rfl, rfl, rfl, rfl⟩ rfl rfl rfl rfl rfl (by kernel_rfl) Tryz.func3 (by kernel_rfl)
    (of_decide_eq_true (by kernel_rfl)) (by unfold Func.isWrapper; first | (rw [if_pos (by decide +kernel)]; kernel_rfl) | (rw [if_neg (by decide +kernel)]; exact ⟨rfl, rfl⟩))
    (fun os started H enc _ F => reads_lifted os started H enc F)
end Go.Proofs.YtmkkibaacclhnaaGreat
