/-
  A step of the walk of the numbers, the part named Parse: what Parse answers of any text. No theorem of the row.
-/
import Derived.Test.YtmkkibaacclhnaaTkF
import Derived.Deep.DeepCutAuto
namespace Go.Proofs.Ytmkkibaacclhnaa
open Go.RowKit

/-- what Parse answers of a text -/
def PPost (l : List UInt8) (e : Ending) : Prop :=
  (∀ t, run t0 l = some t → Ends t.st → ∃ r, NearV t.D t.at r ∧ e = .returned (.tuple #[.int .u64 ((parseV t.neg r).1 : Nat), .int .i64 ((parseV t.neg r).2 : Nat)])) ∧
  ((∀ t, run t0 l = some t → ¬ Ends t.st) → e = .returned (.tuple #[.int .u64 0, .int .i64 3]))

/-- a token behind k bytes -/
def PInv (w : World) (l : List UInt8) (k : Nat) (wr : World) : Prop :=
  ∃ t cs v, run t0 (l.take k) = some t ∧ TkOk t k ∧ PwZero t ∧ TkAt w.heap.size wr w.heap.size 0 56 cs v t ∧ Fr (fun _ => False) w wr

theorem pinv_start (w : World) (l : List UInt8) : PInv w l 0 (w.alloc (.cells #[.int .i64 0, .bool false, .slice none 0 0, .int .i64 0, .int .i64 0, .bool false] 56)) :=
  ⟨t0, _, .slice none 0 0, by simp [run], t0_ok, fun _ => rfl, ⟨heap_alloc_new _ _, ⟨rfl, rfl, rfl, rfl, rfl, rfl⟩, World.ownsRow_nil _ _ _ _⟩, (Fr.refl _ _).alloc _⟩

theorem pinv_next {w wr w' : World} {l : List UInt8} {k : Nat} {t : Tk} {cs : Array Value} {v : Value} (hk : k < l.length) (h1 : run t0 (l.take k) = some t) (h2 : TkOk t k) (h3 : PwZero t) (h4 : TkAt w.heap.size wr w.heap.size 0 56 cs v t) (h5 : Fr (fun _ => False) w wr)
    (hb : beh t.st l[k] ≠ 0) (hn : NextPost w.heap.size w.heap.size 0 56 cs v wr w' (nxtTo t l[k] (beh t.st l[k]))) : PInv w l (k + 1) w' := by
  obtain ⟨cs', v', a1, _, a3⟩ := hn
  have hx : nxt t l[k] = some (nxtTo t l[k] (beh t.st l[k])) := nxt_of rfl hb
  have hy := nxt_ok h2 h3 hx
  refine ⟨_, cs', v', ?_, hy.1, hy.2, a1, h5.trans' a3 ?_⟩
  · rw [List.take_succ_eq_append_getElem hk, run_snoc _ h1, hx]
  · intro i hi
    rcases hi with rfl | hi
    · exact .inr (Nat.le_refl _)
    · exact .inr (h4.2.2.lt i hi).1

set_option maxRecDepth 100000 in
set_option maxHeartbeats 4000000 in
theorem parse_run (l : List UInt8) (w : World) (hl : l.length ≤ 1000000000000000) :
    Calls Try.prog 10 #[.string (ofL l)] w fun e w' => PPost l e ∧ Fr (fun _ => False) w w' := by
  have hsz := ofL_size l
  go_enter Try.func10, Try.ntmps10
  go_wp2
  go_loopw [8] (fun i wr => ∃ k : Nat, k ≤ l.length ∧ i = .int .i64 k ∧ PInv w l k wr) (fun i _ => l.length - (intOf i).toNat)
  case atStart => exact ⟨0, by omega, rfl, pinv_start w l⟩
  case round =>
    obtain ⟨k, hk, rfl, t, cs, v, h1, h2, h3, h4, h5⟩ := hrel
    have H1 := hid h1
    have H3 := hid h3
    have H5 := hid h5
    have H4 := hid h4
    have H2 := hid h2
    have hws := h5.size
    clear h1 h2 h3 h4 h5
    by_cases hlt : k < l.length
    · have hg : (ofL l)[k]'(by rw [hsz]; exact hlt) = l[k] := ofL_get l k _
      by_cases hb : beh t.st l[k] = 0
      · have HB := hid hb
        clear hb
        go_wp2_with (go_at_call 30; refine (next_none _ _ _ _ _ _ t l[k] _ H2.out.st H4.out HB.out).mono ?_; rintro e w' ⟨rfl, rfl⟩)
        go_ret2
        refine ⟨⟨fun t' ht' => ?_, fun _ => rfl⟩, H5.out⟩
        exfalso
        have hn : nxt t l[k] = none := by rw [nxt, HB.out]; rfl
        have := run_none (l.drop (k + 1)) H1.out hn
        rw [← List.drop_eq_getElem_cons hlt, List.take_append_drop, ht'] at this
        cases this
      · have HB := hid hb
        clear hb
        go_wp2_with (go_at_call 30; refine (next_some _ _ _ _ _ _ t l[k] _ k (by omega) hws (by omega) H2.out H4.out HB.out).mono ?_; rintro e w' ⟨rfl, hP⟩; have HP := hid hP; clear hP)
        go_roundw
        case rel => exact ⟨k + 1, by omega, by go_num, pinv_next hlt H1.out H2.out H3.out H4.out H5.out HB.out HP.out⟩
        case measure => simp [intOf]; omega
    · obtain rfl : k = l.length := by omega
      have hrun : Hid (run t0 l = some t) := by have := H1.out; rwa [List.take_length] at this
      by_cases hE : Ends t.st
      · have HE := hid hE
        clear hE
        go_wp2_with fail
        refine (value_some _ _ _ _ _ _ t _ l.length (by omega) H2.out H4.out HE.out).mono ?_
        rintro e w' ⟨r, hr, rfl, hF⟩
        have HR := hid hr
        have HF := hid hF
        clear hr hF
        go_wp2
        go_ret2
        refine ⟨⟨fun t' ht' _ => ?_, fun h => absurd HE.out (h t hrun.out)⟩, H5.out.trans HF.out⟩
        rw [hrun.out] at ht'
        cases ht'
        exact ⟨r, HR.out, rfl⟩
      · have HE := hid hE
        clear hE
        go_wp2_with fail
        refine (value_none _ _ _ _ _ _ t _ H4.out HE.out).mono ?_
        rintro e w' ⟨rfl, rfl⟩
        go_wp2
        go_ret2
        refine ⟨⟨fun t' ht' h => ?_, fun _ => rfl⟩, H5.out⟩
        rw [hrun.out] at ht'
        cases ht'
        exact absurd h HE.out
end Go.Proofs.Ytmkkibaacclhnaa
