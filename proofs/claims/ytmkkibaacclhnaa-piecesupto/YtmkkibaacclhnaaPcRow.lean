/-
  The law decantkeep.Pieces, second form: whatever the bytes, the depth and the sizes of the pieces, of bulk at most 1048576: the bytes are read the same in whatever pieces they come, and Feed says what Close says as soon as the wrong byte has come, and not sooner. By the walks of the texts above it.
-/
import Derived.Test.YtmkkibaacclhnaaRows
import Derived.Test.YtmkkibaacclhnaaQj
import Derived.ProofKit
import Derived.OpenShut
import Derived.JoinedCond
import Derived.Carry
import Derived.ChangeSlices
namespace Go.Proofs.Ytmkkibaacclhnaa
open Go.ChangeShapes Go.WideShapes Go.ChangeAt Go.RowKit
open Go.ChangeMaps (open_string shut_string)

theorem pieces_own : ownKnob Try.prog.godebug = none := by kernel_rfl
theorem pieces_laid : laidOutB Try.prog = true := by kernel_rfl
theorem Try.cells3R : Try.prog.cellsOf 3 = 1 := by kernel_rfl

theorem ofL_backC (s : ByteArray) : ofL s.data.toList = s := by
  cases s; rfl
theorem bulk_len {H : Type} (ds : List (DataW H)) (h : ∀ d ∈ ds, 1 ≤ Rows.uptoBulk d) : ds.length ≤ Rows.uptoBulkAll ds := by
  induction ds with
  | nil => simp
  | cons d ds ih =>
    have h1 := h d (by simp)
    have h2 := ih (fun x hx => h x (by simp [hx]))
    simp only [List.length_cons, Rows.uptoBulkAll]
    omega

set_option maxRecDepth 100000 in
theorem pieces_contract (H : Type) (enc : TypeId × Value → H) (W : World) (base : Nat) (args : Array Value) (ds gs : List (DataW H)) (before : List MemPlace)
    (hval : ∀ (j : Nat) t v, Try.f7.params[j]? = some t → args[j]? = some v → Value.okWide Try.prog W .any base t v)
    (hW : DataW.Whole enc Try.prog Try.f7.params.toList Rows.piecesSpec.vars false W args.toList ds gs before) (hk : Rows.uptoSmall H (ds ++ gs) = true) :
    Calls Try.prog 7 args W fun e W' => ∃ v, e = .returned v ∧ Rows.piecesSpec.post enc Try.prog Try.f7 false true false false W args v W' := by
  have hW' := hW
  obtain ⟨p, q, hA0, hV, rfl, hfz, hnd⟩ := hW
  have hA : DataW.TrodAll enc Try.prog W 0 (fun _ => true) true Try.f7.params.toList args.toList ds p := hA0
  rw [Try.params7] at hA hval
  obtain ⟨v0, vs0, d0, ds0, p0, q0, hargs, rfl, rfl, h0, r0⟩ := trodAll_cons hA
  obtain ⟨v1, vs1, d1, ds1, p1, q1, rfl, rfl, rfl, h1, r1⟩ := trodAll_cons r0
  obtain ⟨v2, vs2, d2, ds2, p2, q2, rfl, rfl, rfl, h2, r2⟩ := trodAll_cons r1
  obtain ⟨rfl, rfl, rfl⟩ := trodAll_nil r2
  obtain rfl : args = #[v0, v1, v2] := by cases args; simp_all
  obtain ⟨rfl, rfl⟩ := trodVars_none hV
  obtain ⟨s, rfl, rfl, rfl, hmax⟩ := open_string Try.underlying9 (hval 0 9 v0 rfl rfl) h0
  obtain ⟨a1, rfl, rfl, rfl, w1⟩ := open_int Try.underlying3 (hval 1 3 v1 rfl rfl) h1
  obtain ⟨pa, n, cap, rfl⟩ := okWide_slice Try.underlying39 (hval 2 39 v2 rfl rfl)
  have h2k := h2
  obtain ⟨fuel, hf⟩ := h2
  clear hA0
  simp only [List.append_nil, List.nil_append] at hW' hk
  have hlt : ∀ x ∈ p2, x.block < W.heap.size := fun x hx => by simpa using hW'.lt x hx
  have hargs2 : ∀ (W' : World), Below W.heap.size W W' → DataW.Trod enc Try.prog W' 0 (fun b => decide (b < W.heap.size)) true 39 (.slice pa n cap) d2 p2 :=
    fun W' hn => Below.trod pieces_laid (by kernel_rfl) (of_decide_eq_true (by kernel_rfl)) h2k hn hlt
  have u1 : -9223372036854775808 ≤ a1 ∧ a1 < 9223372036854775808 := by
    simp [Lit.wf] at w1
    have m1 : IntKind.i64.min = -9223372036854775808 := by decide
    omega
  have hbulk : Rows.uptoBulkAll [DataW.lit (H := H) (.string s.data.toList), .lit (.int .i64 a1), d2] ≤ 1048576 := of_decide_eq_true hk
  simp only [Rows.uptoBulkAll, Rows.uptoBulk] at hbulk
  have close : ∀ (z : Nat → Int), n ≤ 2000000 → (0 < n → ∃ ad, pa = some ad) → (∀ ad, pa = some ad → 0 < n → ad.block < W.heap.size) →
      (∀ j ad, j < n → pa = some ad → W.cell? (ad.add j) = some (.int .i64 (z j))) → (∀ j, j < n → -9223372036854775808 ≤ z j ∧ z j < 9223372036854775808) →
      Calls Try.prog 7 #[.string s, .int .i64 a1, .slice pa n cap] W fun e W' => ∃ v, e = .returned v ∧ Rows.piecesSpec.post enc Try.prog Try.f7 false true false false W #[.string s, .int .i64 a1, .slice pa n cap] v W' := by
    intro z hn hnil hb hel hz
    have hw := pieces_any s.data.toList a1 pa n cap z W (by omega) u1.1 u1.2 hn hnil hb hel hz
    rw [ofL_backC] at hw
    refine hw.mono fun e W' ⟨he, hg⟩ => ?_
    subst he
    exact ⟨_, rfl, _, _, _, [], p2, [], hW', trodAll_cons_mk (shut_bool Try.underlying4 _) trodAll_mk0, trodAll_mk3 (shut_string Try.underlying9 hmax) (shut_int Try.underlying3 w1) (hargs2 W' hg.below), rfl, hg.below.frame _, fun h => by cases h⟩
  rcases open_ints Try.underlying39 Try.underlying3 Try.cells3R hf with ⟨hcs, hx⟩ | ⟨a, len', cap', zs, hcs, _, hl, hm, hz, hx, hcell, hwz⟩
  · simp [Value.cells] at hcs
    obtain ⟨rfl, rfl, rfl⟩ := hcs
    exact close (fun _ => 0) (by omega) (fun h => absurd h (by omega)) (fun ad h => by cases h) (fun j ad hj => absurd hj (by omega)) (fun j hj => by omega)
  · simp [Value.cells] at hcs
    obtain ⟨rfl, rfl, rfl⟩ := hcs
    simp only [Prod.mk.injEq] at hx
    obtain ⟨rfl, rfl⟩ := hx
    simp only [if_true] at hz
    have hn : n ≤ 2000000 := by
      simp only [Rows.uptoBulk] at hbulk
      have := bulk_len (lits (H := H) .i64 (zs.take n)) (fun d hd => by
        obtain ⟨y, _, rfl⟩ := List.mem_map.1 hd
        simp [Rows.uptoBulk])
      have hlen : (lits (H := H) .i64 (zs.take n)).length = n := by
        show (List.map _ (zs.take n)).length = n
        rw [List.length_map, List.length_take]
        omega
      rw [hlen] at this
      omega
    refine close (fun j => zs.getD j 0) hn (fun _ => ⟨a, rfl⟩) (fun ad e hpos => ?_) (fun j ad hj e => by cases e; exact hcell j (by omega)) (fun j hj => ?_)
    · cases e
      obtain ⟨b, off, spot⟩ := a
      exact hlt (.cell b off) (MemPlace.mem_row.2 ⟨0, by omega, by simp⟩)
    · have hjz : j < zs.length := by omega
      have := hwz (zs.getD j 0) (by simp [List.getD, hjz])
      simp [Lit.wf] at this
      have m1 : IntKind.i64.min = -9223372036854775808 := by decide
      have m2 : IntKind.i64.max = 9223372036854775807 := by decide
      simp only [List.getD] at this ⊢
      omega

set_option maxRecDepth 100000 in
theorem pieces_lifted (os : Os) (started : os.Started) (H : Type) (enc : TypeId × Value → H) (F : Stop.Interp) :
    ReturnsInHanded {} Try.checked os 7 .any ((Rows.OpenSpec.upto Rows.piecesSpec).pre6 enc Try.prog Try.f7 Rows.piecesUptoRow.domain false) (((Rows.OpenSpec.upto Rows.piecesSpec).at F).post enc Try.prog Try.f7 false true false false) := by
  refine returnsInHanded_of_cond (C := Try.checked) (s := Rows.OpenSpec.upto Rows.piecesSpec) (k := Rows.uptoSmall) rfl pieces_own started (by kernel_rfl) Try.func7
    (OpenSpec.witness (enc := enc) (C := Try.checked) (s := Rows.OpenSpec.upto Rows.piecesSpec) (k := Rows.uptoSmall) rfl false ⟨#[], #[.string .empty, .int .i64 0, .slice none 0 0], []⟩ 8 (by kernel_rfl) (by kernel_rfl) (by kernel_rfl)
      (x := ([.lit (.string []), .lit (.int .i64 0), .nil], [], [])) (by kernel_rfl) rfl (by kernel_rfl)) ?_
  intro W base args ds gs before hval hW _ hk _
  exact pieces_contract H enc W base args ds gs before hval hW hk

/-- What is claimed. -/
theorem pieces_holds : Rows.PiecesUptoSaid :=
  OpenClaim.holds_of_cond 7 Try.f7 rfl rfl rfl rfl rfl rfl rfl ⟨rfl, rfl, rfl, rfl, rfl⟩ rfl rfl rfl rfl rfl (by kernel_rfl) Try.func7 (by kernel_rfl)
    (of_decide_eq_true (by kernel_rfl)) (by unfold Func.isWrapper; first | (rw [if_pos (by decide +kernel)]; kernel_rfl) | (rw [if_neg (by decide +kernel)]; exact ⟨rfl, rfl⟩))
    (fun os started H enc _ F => pieces_lifted os started H enc F)
end Go.Proofs.Ytmkkibaacclhnaa
