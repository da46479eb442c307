/-
  A step of the walk, the part named Qgh. No theorem of the row.
-/
import Derived.Test.YtmkkibaacclhnaaGreatSn
import Derived.Test.YtmkkibaacclhnaaGreatSo
import Derived.Test.YtmkkibaacclhnaaGreatSp
import Derived.Test.YtmkkibaacclhnaaGreatQc
namespace Go.Proofs.YtmkkibaacclhnaaGreat
open Go.RowKit

theorem rGo_pair {d f inn : Nat} {p : List UInt8} : rGo d (f + 1) inn .pair p = match skipB p with
      | [] => .ended false
      | c :: q => if c ≠ 34 then .wrong 3 (c :: q) else match trRun tr0 q with
        | .wrong e p => .wrong e p
        | .ended => .ended false
        | .ok s p => match skipB p with
          | [] => .ended false
          | c2 :: q2 => if c2 ≠ 58 then .wrong 3 (c2 :: q2) else match rGo d f inn .val q2 with
            | .wrong e p2 => .wrong e p2
            | .ended l => .ended l
            | .ok _ its p2 => .ok 0 (⟨4, 0, 0, s⟩ :: its) p2 := by
  rw [rGo.eq_def]; rfl
set_option maxRecDepth 100000 in
set_option maxHeartbeats 40000000 in
theorem pair_any (B : Nat) (w0 w : World) (l p : List UInt8) (f inn d : Nat) (vi : Value) (its : List It) (hl : l.length ≤ 1800000) (hil : its.length + p.length ≤ 8000000) (hf : need .pair p ≤ f + 1) (h : SC B w0 w l p inn d vi its 0 false false)
    (h1 : ∀ (w' : World) (vi' : Value) (its' : List It) (p' : List UInt8), need .val p' ≤ f → its'.length + p'.length ≤ 8000000 → SC B w0 w' l p' inn d vi' its' 0 false false → Calls Tryz.prog 45 #[.pointer (some ⟨B, 0, none⟩)] w' (IPost B w0 l inn d its' (rGo d f inn .val p'))) :
    Calls Tryz.prog 97 #[.pointer (some ⟨B, 0, none⟩)] w (IPost B w0 l inn d its (rGo d (f + 1) inn .pair p)) := by
  obtain ⟨a, n, cap, rfl⟩ := row_shape3 h.oi
  obtain rfl := slice_len h.oi
  have HB := hid (blanks_any B w0 w l p inn d _ its 0 false false (by omega) h)
  have hsz := ofL_size l
  have hpl := h.at_
  have H1 := hid h1
  have hsk := (skipB_suf p).length_le
  obtain ⟨i0, hi, hz0, hz1, hz2⟩ := info_parts Tryz.info59
  obtain ⟨U, hU⟩ : ∃ U, rGo d (f + 1) inn .pair p = U := ⟨_, rfl⟩
  rw [hU]
  rw [rGo_pair] at hU
  clear h h1
  cases hx : skipB p with
  | nil =>
    rw [hx] at HB hU
    have HU := hid hU
    clear hx hU
    go_enter Tryz.func97, Tryz.ntmps97
    go_wp2_with fail
    refine Calls.mono HB.out ?_
    rintro x w2 ⟨rfl, hC⟩
    have HC := hid hC
    clear hC
    go_wp2
    go_ret
    rw [← HU.out]
    exact ⟨rfl, _, [], by rw [List.append_nil]; exact HC.out⟩
  | cons c q =>
    rw [hx] at HB hsk hU
    have hq : q.length + 1 ≤ p.length := hsk
    have hcl : c.toNat < 256 := c.toNat_lt
    have HU := hid hU
    have hf2 : 4 * q.length + 4 + 2 ≤ f + 1 := by unfold need at hf; simp only at hf; omega
    clear hx hU hsk hf
    go_enter Tryz.func97, Tryz.ntmps97
    go_wp2_with fail
    refine Calls.mono HB.out ?_
    rintro x w2 ⟨rfl, hC⟩
    have hI2 : SC B w0 w2 l (c :: q) inn d (.slice a its.length cap) its 0 false false := hC
    clear hC
    obtain ⟨hkk, hg⟩ := suf_get hI2.suf
    have k0 := blk_cell hI2.blk (show (scCells l (l.length - (c :: q).length) inn d (.slice a its.length cap) 0 false false)[0]? = some (.string (ofL l)) from rfl)
    have k1 := blk_cell hI2.blk (show (scCells l (l.length - (c :: q).length) inn d (.slice a its.length cap) 0 false false)[1]? = some (.int .i64 ((l.length - (c :: q).length : Nat) : Int)) from rfl)
    have hgc : (ofL l)[l.length - (c :: q).length]'(by rw [hsz]; exact hkk) = c := (ofL_get l _ _).trans hg
    have hFl := hid (fun n => fails_any B w0 (w2.drewN n) l (c :: q) inn d (.slice a its.length cap) its 0 3 false false (hI2.drewN n))
    have HT := hid (fun n => text_any B w0 (w2.drewN n) l c q inn d (.slice a its.length cap) its (by omega) (hI2.drewN n))
    generalize l.length - (c :: q).length = ps at *
    clear hg hI2 HB
    by_cases hc : c ≠ 34
    · have hb : ((c.toNat : Int) != 34) = true := bne_iff_ne.2 (by have := toNat_neP hc; simp at this; omega)
      have HE := HU.out
      simp only [if_pos hc] at HE
      have HE := hid HE
      clear HU hc
      go_wp2
      go_quiet (fail)
      go_wp2_with fail
      refine Calls.mono (hFl.out _) ?_
      rintro x w3 ⟨rfl, hC⟩
      have HC := hid hC
      clear hC
      go_wp2
      go_ret
      rw [← HE.out]
      exact ⟨rfl, _, [], by rw [List.append_nil]; exact HC.out⟩
    obtain rfl : c = 34 := Classical.not_not.1 hc
    have HE := HU.out
    simp only [if_neg hc] at HE
    have HE := hid HE
    clear HU hc
    have hsf := hid (trRun_suf tr0 q)
    cases hr : trRun tr0 q with
    | wrong e q3 =>
      rw [hr] at HT HE
      clear hr hsf
      go_wp2
      go_quiet (fail)
      go_wp2_with fail
      refine Calls.mono (HT.out _) ?_
      rintro x w3 ⟨rfl, hC⟩
      unfold sBad
      have HC := hid hC
      have oi := hC.oi
      have k4 := blk_cell hC.blk (show (scCells l (l.length - (q3 : List UInt8).length) inn d (.slice a its.length cap) e false false)[4]? = some (.slice a its.length cap) from rfl)
      have f4 := blk_free (j := 4) hC.blk
      clear hC k0 k1
      go_wp2_with (first
        | (at_builtin; refine wpList_append_d _ rfl _ _ 52 rfl 59 i0 (.agg #[.int .i64 0, .int .i64 0, .int .u64 0, .string ⟨#[]⟩]) 4 40 Tryz.underlying52 hi hz0 hz1 hz2 rfl (by decide) _ _ _ rfl (oi.alloc _) ⟨w3.heap.size, 0, none⟩ 1 1 (itCells ⟨4, 0, 0, []⟩) rfl rfl ?c1 ?c2 ?c3 ?c4 ?_)
        | fail)
      case c1 => exact four_new _ _ _ _ _ _
      case c2 => intro u hu; simp [itCells] at hu; rcases hu with rfl | rfl | rfl | rfl <;> rfl
      case c3 => unfold maxLen; omega
      case c4 => omega
      intro v' w1 hown' hgrow hnew
      obtain ⟨a', n', cap', rfl⟩ := row_shape3 hown'
      obtain ⟨hh1, hR⟩ := HC.out.growI ⟨4, 0, 0, []⟩ hown' hgrow hnew
      have q4 := blk_cell hh1 (show (scCells l (l.length - (q3 : List UInt8).length) inn d (.slice a its.length cap) e false false)[4]? = some (.slice a its.length cap) from rfl)
      have p4 := blk_free (j := 4) hh1
      have HR := hid hR
      clear hown' hgrow hnew hh1 hR oi k4 f4
      go_wp2
      go_ret
      rw [← HE.out]
      exact ⟨rfl, _, _, HR.out⟩
    | ended =>
      rw [hr] at HT HE
      clear hr hsf
      go_wp2
      go_quiet (fail)
      go_wp2_with fail
      refine Calls.mono (HT.out _) ?_
      rintro x w3 ⟨rfl, hC⟩
      unfold sBad
      have HC := hid hC
      have oi := hC.oi
      have k4 := blk_cell hC.blk (show (scCells l (l.length - ([] : List UInt8).length) inn d (.slice a its.length cap) 0 true false)[4]? = some (.slice a its.length cap) from rfl)
      have f4 := blk_free (j := 4) hC.blk
      clear hC k0 k1
      go_wp2_with (first
        | (at_builtin; refine wpList_append_d _ rfl _ _ 52 rfl 59 i0 (.agg #[.int .i64 0, .int .i64 0, .int .u64 0, .string ⟨#[]⟩]) 4 40 Tryz.underlying52 hi hz0 hz1 hz2 rfl (by decide) _ _ _ rfl (oi.alloc _) ⟨w3.heap.size, 0, none⟩ 1 1 (itCells ⟨4, 0, 0, []⟩) rfl rfl ?c1 ?c2 ?c3 ?c4 ?_)
        | fail)
      case c1 => exact four_new _ _ _ _ _ _
      case c2 => intro u hu; simp [itCells] at hu; rcases hu with rfl | rfl | rfl | rfl <;> rfl
      case c3 => unfold maxLen; omega
      case c4 => omega
      intro v' w1 hown' hgrow hnew
      obtain ⟨a', n', cap', rfl⟩ := row_shape3 hown'
      obtain ⟨hh1, hR⟩ := HC.out.growI ⟨4, 0, 0, []⟩ hown' hgrow hnew
      have q4 := blk_cell hh1 (show (scCells l (l.length - ([] : List UInt8).length) inn d (.slice a its.length cap) 0 true false)[4]? = some (.slice a its.length cap) from rfl)
      have p4 := blk_free (j := 4) hh1
      have HR := hid hR
      clear hown' hgrow hnew hh1 hR oi k4 f4
      go_wp2
      go_ret
      rw [← HE.out]
      exact ⟨rfl, _, _, HR.out⟩
    | ok s q3 =>
      rw [hr] at HT HE hsf
      clear hr
      go_wp2
      go_quiet (fail)
      go_wp2_with fail
      refine Calls.mono (HT.out _) ?_
      rintro x w3 ⟨rfl, hC⟩
      unfold sGood
      have HC := hid hC
      have oi := hC.oi
      have k4 := blk_cell hC.blk (show (scCells l (l.length - (q3 : List UInt8).length) inn d (.slice a its.length cap) 0 false false)[4]? = some (.slice a its.length cap) from rfl)
      have f4 := blk_free (j := 4) hC.blk
      clear hC k0 k1
      go_wp2_with (first
        | (at_builtin; refine wpList_append_d _ rfl _ _ 52 rfl 59 i0 (.agg #[.int .i64 0, .int .i64 0, .int .u64 0, .string ⟨#[]⟩]) 4 40 Tryz.underlying52 hi hz0 hz1 hz2 rfl (by decide) _ _ _ rfl (oi.alloc _) ⟨w3.heap.size, 0, none⟩ 1 1 (itCells ⟨4, 0, 0, s⟩) rfl rfl ?c1 ?c2 ?c3 ?c4 ?_)
        | fail)
      case c1 => exact four_new _ _ _ _ _ _
      case c2 => intro u hu; simp [itCells] at hu; rcases hu with rfl | rfl | rfl | rfl <;> rfl
      case c3 => unfold maxLen; omega
      case c4 => omega
      intro v' w1 hown' hgrow hnew
      obtain ⟨a', n', cap', rfl⟩ := row_shape3 hown'
      obtain ⟨hh1, hR⟩ := HC.out.growI ⟨4, 0, 0, s⟩ hown' hgrow hnew
      have q4 := blk_cell hh1 (show (scCells l (l.length - (q3 : List UInt8).length) inn d (.slice a its.length cap) 0 false false)[4]? = some (.slice a its.length cap) from rfl)
      have p4 := blk_free (j := 4) hh1
      have HB2 := hid (blanks_any B w0 _ l q3 inn d _ _ 0 false false (by omega) hR)
      have hsk2 := (skipB_suf q3).length_le
      have hq3 : q3.length ≤ q.length := List.IsSuffix.length_le hsf.out
      clear hown' hgrow hnew hh1 hR oi k4 f4 hsf
      go_wp2_with fail
      refine Calls.mono HB2.out ?_
      rintro x w4 ⟨rfl, hC⟩
      cases hy : skipB q3 with
      | nil =>
        rw [hy] at hC HE
        have HC := hid hC
        clear hC hy
        go_wp2
        go_ret
        rw [← HE.out]
        exact ⟨rfl, _, [⟨4, 0, 0, s⟩], HC.out⟩
      | cons c2 q2 =>
        rw [hy] at hC HE hsk2
        have hq2 : q2.length + 1 ≤ q3.length := hsk2
        clear hy HB2 q4 p4 HT hFl
        have hcl2 : c2.toNat < 256 := c2.toNat_lt
        have hI4 : SC B w0 w4 l (c2 :: q2) inn d (.slice a' n' cap') (its ++ [⟨4, 0, 0, s⟩]) 0 false false := hC
        clear hC
        obtain ⟨hkk2, hg⟩ := suf_get hI4.suf
        have k0 := blk_cell hI4.blk (show (scCells l (l.length - (c2 :: q2).length) inn d (.slice a' n' cap') 0 false false)[0]? = some (.string (ofL l)) from rfl)
        have k1 := blk_cell hI4.blk (show (scCells l (l.length - (c2 :: q2).length) inn d (.slice a' n' cap') 0 false false)[1]? = some (.int .i64 ((l.length - (c2 :: q2).length : Nat) : Int)) from rfl)
        have f1 := blk_free (j := 1) hI4.blk
        have hgc2 : (ofL l)[l.length - (c2 :: q2).length]'(by rw [hsz]; exact hkk2) = c2 := (ofL_get l _ _).trans hg
        have hFl := hid (fun n => fails_any B w0 (w4.drewN n) l (c2 :: q2) inn d (.slice a' n' cap') (its ++ [⟨4, 0, 0, s⟩]) 0 3 false false (hI4.drewN n))
        have hV := hid (fun n => H1.out _ _ (its ++ [⟨4, 0, 0, s⟩]) q2 (by unfold need; simp only; omega) (by rw [List.length_append]; simp only [List.length_cons, List.length_nil]; omega) ((hI4.drewN n).step))
        generalize l.length - (c2 :: q2).length = ps2 at *
        clear hg hI4
        by_cases hc : c2 ≠ 58
        · have hb : ((c2.toNat : Int) != 58) = true := bne_iff_ne.2 (by have := toNat_neP hc; simp at this; omega)
          have HE2 := HE.out
          simp only [if_pos hc] at HE2
          have HE2 := hid HE2
          clear HE hc
          go_wp2
          go_quiet (fail)
          go_wp2_with fail
          refine Calls.mono (hFl.out _) ?_
          rintro x w5 ⟨rfl, hC⟩
          have HC := hid hC
          clear hC
          go_wp2
          go_ret
          rw [← HE2.out]
          exact ⟨rfl, _, [⟨4, 0, 0, s⟩], HC.out⟩
        obtain rfl : c2 = 58 := Classical.not_not.1 hc
        have HE2 := HE.out
        simp only [if_neg hc] at HE2
        have HE2 := hid HE2
        clear HE hc
        go_wp2
        go_quiet (fail)
        go_wp2_with fail
        refine Calls.mono (hV.out _) ?_
        intro x w5 hp
        have HF := hid (show ∃ b, x = .returned (.bool b) ∧ IPost B w0 l inn d its U x w5 by
          rw [← HE2.out]
          cases hv : rGo d f inn .val q2 with
          | ok n new q5 =>
            rw [hv] at hp
            obtain ⟨e1, vi5, hS⟩ := hp
            exact ⟨true, e1, e1, vi5, by rw [List.append_assoc] at hS; exact hS⟩
          | wrong e q5 =>
            rw [hv] at hp
            obtain ⟨e1, vi5, more, hS⟩ := hp
            exact ⟨false, e1, e1, vi5, _, by rw [List.append_assoc] at hS; exact hS⟩
          | ended la =>
            rw [hv] at hp
            obtain ⟨e1, vi5, more, hS⟩ := hp
            exact ⟨false, e1, e1, vi5, _, by rw [List.append_assoc] at hS; exact hS⟩)
        clear hp
        obtain ⟨b, rfl, hp⟩ := HF.out
        have HP := hid hp
        clear hp HF
        go_wp2
        go_ret
        exact HP.out
end Go.Proofs.YtmkkibaacclhnaaGreat

namespace Go.Proofs.YtmkkibaacclhnaaGreat
open Go.RowKit

def Hs (d f : Nat) : Prop := ∀ (B : Nat) (w0 w : World) (l : List UInt8) (inn : Nat) (p : List UInt8) (vi : Value) (its : List It), l.length ≤ 1800000 → its.length + p.length ≤ 8000000 → inn ≤ d → SC B w0 w l p inn d vi its 0 false false →
  (need .val p ≤ f → Calls Tryz.prog 45 #[.pointer (some ⟨B, 0, none⟩)] w (IPost B w0 l inn d its (rGo d f inn .val p))) ∧
  (need .pair p ≤ f → Calls Tryz.prog 97 #[.pointer (some ⟨B, 0, none⟩)] w (IPost B w0 l inn d its (rGo d f inn .pair p))) ∧
  (need .vals p ≤ f → Calls Tryz.prog 72 #[.pointer (some ⟨B, 0, none⟩)] w (NPost B w0 l inn d its (rGo d f inn .vals p))) ∧
  (need .pairs p ≤ f → Calls Tryz.prog 71 #[.pointer (some ⟨B, 0, none⟩)] w (NPost B w0 l inn d its (rGo d f inn .pairs p)))
theorem hs_all (d : Nat) (hd : d ≤ 1000) (f : Nat) : Hs d f := by
  induction f using Nat.strongRecOn with
  | ind f ih =>
  intro B w0 w l inn p vi its hl hil hin h
  cases f with
  | zero => exact ⟨fun h0 => by unfold need at h0; simp only at h0; omega, fun h0 => by unfold need at h0; simp only at h0; omega, fun h0 => by unfold need at h0; simp only at h0; omega, fun h0 => by unfold need at h0; simp only at h0; omega⟩
  | succ f =>
    have hv : ∀ f', f' ≤ f → Hs d f' := fun f' hf' => ih f' (by omega)
    refine ⟨fun hn => ?_, fun hn => ?_, fun hn => ?_, fun hn => ?_⟩
    · have hsk := (skipB_suf p).length_le
      cases hx : skipB p with
      | nil => exact value_nil B w0 w l p f inn d vi its hl h hx
      | cons c q =>
        rw [hx] at hsk
        have hq : q.length + 1 ≤ p.length := hsk
        unfold need at hn
        simp only at hn
        by_cases h34 : c = 34
        · exact value_text B w0 w l p q c f inn d vi its hl (by omega) hd h hx h34
        by_cases h91 : c = 91
        · by_cases he : inn = d
          · exact value_deep_arr B w0 w l p q c f inn d vi its hl (by omega) hd h hx h91 he
          · exact value_nest_arr B w0 w l p q c f inn d vi its hl (by omega) hd h hx h91 he (by omega) fun w' vi' h' => (hv f (Nat.le_refl _) B w0 w' l (inn + 1) q vi' _ hl (by simp; omega) (by omega) h').2.2.1 (by unfold need; simp only; omega)
        by_cases h123 : c = 123
        · by_cases he : inn = d
          · exact value_deep_obj B w0 w l p q c f inn d vi its hl (by omega) hd h hx h123 he
          · exact value_nest_obj B w0 w l p q c f inn d vi its hl (by omega) hd h hx h123 he (by omega) fun w' vi' h' => (hv f (Nat.le_refl _) B w0 w' l (inn + 1) q vi' _ hl (by simp; omega) (by omega) h').2.2.2 (by unfold need; simp only; omega)
        exact value_rest B w0 w l p q c f inn d vi its hl (by omega) hd h hx h34 h91 h123
    · exact pair_any B w0 w l p f inn d vi its hl hil hn h fun w' vi' its' p' h1 h2 h3 => (hv f (Nat.le_refl _) B w0 w' l inn p' vi' its' hl h2 hin h3).1 h1
    · exact vals_any B w0 w l p f inn d vi its hl hil hn h fun f' w' vi' its' p' hf' h1 h2 h3 => (hv f' hf' B w0 w' l inn p' vi' its' hl h2 hin h3).1 h1
    · exact pairs_any B w0 w l p f inn d vi its hl hil hn h fun f' w' vi' its' p' hf' h1 h2 h3 => (hv f' hf' B w0 w' l inn p' vi' its' hl h2 hin h3).2.1 h1
end Go.Proofs.YtmkkibaacclhnaaGreat

namespace Go.Proofs.YtmkkibaacclhnaaGreat
open Go.RowKit

/-- what the document's own reading says of a text: so far, or as a whole -/
noncomputable def rFin (d : Nat) (l : List UInt8) (whole : Bool) : List It × Nat × Nat :=
  if errOf (psRun (ps0 d) l) ≠ 0 ∨ whole = true then psFin (psRun (ps0 d) l) else ([], 0, 0)
def RPost (w0 : World) (U : List It × Nat × Nat) (x : Ending) (w' : World) : Prop :=
  ∃ v, x = .returned (.tuple #[v, .int .i64 (U.2.1 : Int), .int .i64 (U.2.2 : Int)]) ∧ w'.ownsRow 0 59 4 v U.1.length (itsV U.1) ∧ Fr (fun _ => False) w0 w' ∧ ∀ i, v.ownBlock = some i → w0.heap.size ≤ i
theorem rnil_row (w : World) : w.ownsRow 0 59 4 (.slice none 0 0) ([] : List It).length (itsV []) := ⟨rfl, .inl ⟨rfl, rfl⟩⟩
theorem rFin_wrong {d n : Nat} {l p : List UInt8} {whole : Bool} (h : readV d l = .wrong n p) : n ≠ 0 ∧ rFin d l whole = ([], n, l.length - p.length) := by
  have hr := read_run d l
  rw [h] at hr
  have hr : psRun (ps0 d) l = .error (n, l.length - p.length) := hr
  have hn := (psRun_err hr).1
  refine ⟨hn, ?_⟩
  unfold rFin
  rw [hr, if_pos (.inl hn)]
  rfl
theorem rFin_ok {d k : Nat} {l q : List UInt8} {its : List It} (h : readV d l = .ok k its q) : rFin d l true = (its, 0, l.length) ∧ rFin d l false = ([], 0, 0) := by
  have hr := read_run d l
  rw [h] at hr
  obtain ⟨h1, h2⟩ := hr
  unfold rFin
  rw [if_pos (.inr rfl), if_neg (by rw [h1]; simp)]
  exact ⟨h2, rfl⟩
theorem rFin_ended {d : Nat} {l : List UInt8} {la : Bool} (h : readV d l = .ended la) : rFin d l true = ([], lateN la, l.length) ∧ rFin d l false = ([], 0, 0) := by
  have hr := read_run d l
  rw [h] at hr
  obtain ⟨h1, h2⟩ := hr
  unfold rFin
  rw [if_pos (.inr rfl), if_neg (by rw [h1]; simp)]
  exact ⟨h2, rfl⟩
set_option maxRecDepth 100000 in
set_option maxHeartbeats 40000000 in
theorem rread_any (w : World) (l : List UInt8) (d : Nat) (whole : Bool) (hl : l.length ≤ 1800000) (hd : d ≤ 1000) :
    Calls Tryz.prog 26 #[.string (ofL l), .int .i64 (d : Int), .bool whole] w (RPost w (rFin d l whole)) := by
  have hS0 : SC w.heap.size w (w.alloc (.cells (scCells l 0 0 d (.slice none 0 0) 0 false false) 110)) l l 0 d (.slice none 0 0) [] 0 false false :=
    ⟨by rw [Nat.sub_self]; exact heap_alloc_new w _, ⟨rfl, .inl ⟨rfl, rfl⟩⟩, List.suffix_refl _, (Fr.refl _ _).alloc _, Nat.le_refl _, fun i hi => by cases hi⟩
  have HV := hid ((hs_all d hd (4 * l.length + 1) w.heap.size w _ l 0 l _ [] hl (by simp; omega) (Nat.zero_le _) hS0).1 (Nat.le_refl _))
  obtain ⟨F, hF⟩ : ∃ F, rFin d l whole = F := ⟨_, rfl⟩
  rw [hF]
  have HF := hid hF
  have hsz := ofL_size l
  have hrv : readV d l = (match rGo d (4 * l.length + 1) 0 .val l with
    | .wrong n p => .wrong n p
    | .ended late => .ended late
    | .ok a its p => match skipB p with
      | [] => .ok a its []
      | c :: q => .wrong 3 (c :: q)) := rfl
  clear hS0 hF
  cases hr : rGo d (4 * l.length + 1) 0 .val l with
  | wrong n p =>
    rw [hr] at HV hrv
    obtain ⟨hn, hfin⟩ := rFin_wrong (whole := whole) hrv
    have HE := hid (show F = ([], n, l.length - p.length) by rw [← HF.out]; exact hfin)
    have hnb : ((n : Int) != 0) = true := bne_iff_ne.2 (by omega)
    clear hr hrv HF hn hfin
    go_enter Tryz.func26, Tryz.ntmps26
    go_wp2_with fail
    refine Calls.mono HV.out ?_
    rintro x w2 ⟨rfl, vi, more, hC⟩
    have k5 := blk_cell hC.blk (show (scCells l (l.length - p.length) 0 d vi n false false)[5]? = some (.int .i64 (n : Int)) from rfl)
    have k1 := blk_cell hC.blk (show (scCells l (l.length - p.length) 0 d vi n false false)[1]? = some (.int .i64 ((l.length - p.length : Nat) : Int)) from rfl)
    have HFr := hid (fun n => hC.fr.drewN n)
    generalize l.length - p.length = ps at *
    clear hC
    go_wp2
    go_quiet (fail)
    go_wp2
    go_ret3
    rw [HE.out]
    exact ⟨_, rfl, rnil_row _, HFr.out _, fun i hi => by cases hi⟩
  | ended la =>
    rw [hr] at HV hrv
    obtain ⟨hf1, hf2⟩ := rFin_ended hrv
    have HE1 := hid hf1
    have HE2 := hid hf2
    clear hr hrv hf1 hf2
    go_enter Tryz.func26, Tryz.ntmps26
    go_wp2_with fail
    refine Calls.mono HV.out ?_
    rintro x w2 ⟨rfl, vi, more, hC⟩
    have k5 := blk_cell hC.blk (show (scCells l (l.length - ([] : List UInt8).length) 0 d vi 0 true la)[5]? = some (.int .i64 0) from rfl)
    have k7 := blk_cell hC.blk (show (scCells l (l.length - ([] : List UInt8).length) 0 d vi 0 true la)[7]? = some (.bool la) from rfl)
    have HFr := hid (fun n => hC.fr.drewN n)
    have HFr0 := hid hC.fr
    clear hC
    cases whole with
    | false =>
      go_wp2
      go_ret3
      rw [← HF.out, HE2.out]
      exact ⟨_, rfl, rnil_row _, HFr0.out, fun i hi => by cases hi⟩
    | true =>
      cases la with
      | true =>
        go_wp2
        go_ret3
        rw [← HF.out, HE1.out]
        exact ⟨_, rfl, rnil_row _, HFr0.out, fun i hi => by cases hi⟩
      | false =>
        go_wp2
        go_ret3
        rw [← HF.out, HE1.out]
        exact ⟨_, rfl, rnil_row _, HFr0.out, fun i hi => by cases hi⟩
  | ok a its p =>
    rw [hr] at HV hrv
    have hrv : readV d l = match skipB p with
      | [] => .ok a its []
      | c :: q => .wrong 3 (c :: q) := hrv
    clear hr
    cases hx : skipB p with
    | nil =>
      rw [hx] at hrv
      obtain ⟨hf1, hf2⟩ := rFin_ok hrv
      have HE1 := hid hf1
      have HE2 := hid hf2
      clear hrv hf1 hf2
      go_enter Tryz.func26, Tryz.ntmps26
      go_wp2_with fail
      refine Calls.mono HV.out ?_
      rintro x w2 ⟨rfl, vi, hC⟩
      have HB := hid (blanks_any _ _ w2 l p 0 d vi its 0 false false (by omega) hC)
      rw [hx] at HB
      clear hC hx
      go_wp2_with fail
      refine Calls.mono HB.out ?_
      rintro x w3 ⟨rfl, hC⟩
      obtain ⟨a4, n4, cap4, rfl⟩ := row_shape3 hC.oi
      have hC : SC w.heap.size w w3 l [] 0 d (.slice a4 n4 cap4) its 0 true false := hC
      have k4 := blk_cell hC.blk (show (scCells l (l.length - ([] : List UInt8).length) 0 d (.slice a4 n4 cap4) 0 true false)[4]? = some (.slice a4 n4 cap4) from rfl)
      have k5 := blk_cell hC.blk (show (scCells l (l.length - ([] : List UInt8).length) 0 d (.slice a4 n4 cap4) 0 true false)[5]? = some (.int .i64 0) from rfl)
      have k6 := blk_cell hC.blk (show (scCells l (l.length - ([] : List UInt8).length) 0 d (.slice a4 n4 cap4) 0 true false)[6]? = some (.bool true) from rfl)
      have f6 := blk_free (j := 6) hC.blk
      have hR := hid (hC.cell 6 (.bool false) (p' := []) (inn' := 0) (e' := 0) (en' := false) (la' := false) hC.suf rfl)
      clear hC
      cases whole with
      | false =>
        go_wp2
        go_ret3
        rw [← HF.out, HE2.out]
        exact ⟨_, rfl, rnil_row _, hR.out.fr, fun i hi => by cases hi⟩
      | true =>
        go_wp2
        go_ret3
        rw [← HF.out, HE1.out]
        exact ⟨_, rfl, hR.out.oi, hR.out.fr, hR.out.hv⟩
    | cons c q =>
      rw [hx] at hrv
      obtain ⟨hn, hfin⟩ := rFin_wrong (whole := whole) hrv
      have HE := hid (show F = ([], 3, l.length - (c :: q).length) by rw [← HF.out]; exact hfin)
      clear hrv HF hn hfin
      go_enter Tryz.func26, Tryz.ntmps26
      go_wp2_with fail
      refine Calls.mono HV.out ?_
      rintro x w2 ⟨rfl, vi, hC⟩
      have HB := hid (blanks_any _ _ w2 l p 0 d vi its 0 false false (by omega) hC)
      rw [hx] at HB
      clear hC hx
      go_wp2_with fail
      refine Calls.mono HB.out ?_
      rintro x w3 ⟨rfl, hC⟩
      have hC : SC w.heap.size w w3 l (c :: q) 0 d vi its 0 false false := hC
      have k1 := blk_cell hC.blk (show (scCells l (l.length - (c :: q).length) 0 d vi 0 false false)[1]? = some (.int .i64 ((l.length - (c :: q).length : Nat) : Int)) from rfl)
      have k5 := blk_cell hC.blk (show (scCells l (l.length - (c :: q).length) 0 d vi 0 false false)[5]? = some (.int .i64 0) from rfl)
      have k6 := blk_cell hC.blk (show (scCells l (l.length - (c :: q).length) 0 d vi 0 false false)[6]? = some (.bool false) from rfl)
      have f5 := blk_free (j := 5) hC.blk
      have f6 := blk_free (j := 6) hC.blk
      have HFr := hid (fun n => (((hC.fr.setCell (p := ⟨w.heap.size, 5, none⟩) (.inr (Nat.le_refl _)) (.int .i64 3)).setCell (p := ⟨w.heap.size, 6, none⟩) (.inr (Nat.le_refl _)) (.bool false))).drewN n)
      generalize l.length - (c :: q).length = ps at *
      clear hC
      go_wp2
      go_quiet (fail)
      go_wp2
      go_ret3
      rw [HE.out]
      exact ⟨_, rfl, rnil_row _, HFr.out _, fun i hi => by cases hi⟩
end Go.Proofs.YtmkkibaacclhnaaGreat

namespace Go.Proofs.YtmkkibaacclhnaaGreat
open Go.RowKit

def rpCells (d : Nat) (l : List UInt8) (cl : Bool) : Array Value := #[.int .i64 (d : Int), .string (ofL l), .bool cl]
set_option maxRecDepth 100000 in
set_option maxHeartbeats 40000000 in
theorem newRef_no (w : World) (n : Int) (hn : n < 1 ∨ 1000 < n) :
    Calls Tryz.prog 12 #[.int .i64 n] w fun x w' => x = .returned (.tuple #[.pointer none, .int .i64 1]) ∧ w' = w := by
  by_cases h1 : n < 1
  · clear hn
    go_enter Tryz.func12, Tryz.ntmps12
    go_wp2
    go_ret2
    exact ⟨rfl, rfl⟩
  · have h2 : 1000 < n := by omega
    clear hn
    go_enter Tryz.func12, Tryz.ntmps12
    go_wp2
    go_ret2
    exact ⟨rfl, rfl⟩
set_option maxRecDepth 100000 in
set_option maxHeartbeats 40000000 in
theorem newRef_yes (w : World) (d : Nat) (h1 : 1 ≤ d) (h2 : d ≤ 1000) :
    Calls Tryz.prog 12 #[.int .i64 (d : Int)] w fun x w' => x = .returned (.tuple #[.pointer (some ⟨w.heap.size, 0, none⟩), .int .i64 0]) ∧ w' = w.alloc (.cells (rpCells d [] false) 85) := by
  have b1 : ¬ ((d : Int) < 1) := by omega
  have b2 : ¬ ((1000 : Int) < (d : Int)) := by omega
  go_enter Tryz.func12, Tryz.ntmps12
  go_wp2
  go_ret2
  exact ⟨rfl, rfl⟩
set_option maxRecDepth 100000 in
set_option maxHeartbeats 40000000 in
theorem feedRef_no (w : World) (B d : Nat) (l m : List UInt8) (h : w.heap[B]? = some (.cells (rpCells d l true) 85 (0, 0))) :
    Calls Tryz.prog 14 #[.pointer (some ⟨B, 0, none⟩), .string (ofL m)] w fun x w' => x = .returned (.int .i64 1) ∧ w' = w := by
  have k2 := blk_cell h (show (rpCells d l true)[2]? = some (.bool true) from rfl)
  clear h
  go_enter Tryz.func14, Tryz.ntmps14
  go_wp2
  go_ret
  exact ⟨rfl, rfl⟩
set_option maxRecDepth 100000 in
set_option maxHeartbeats 40000000 in
theorem feedRef_yes (w : World) (B d : Nat) (l m : List UInt8) (hl : (l ++ m).length ≤ 1800000) (hd : d ≤ 1000) (h : w.heap[B]? = some (.cells (rpCells d l false) 85 (0, 0))) :
    Calls Tryz.prog 14 #[.pointer (some ⟨B, 0, none⟩), .string (ofL m)] w fun x w' => x = .returned (.int .i64 ((rFin d (l ++ m) false).2.1 : Int)) ∧ w'.heap[B]? = some (.cells (rpCells d (l ++ m) false) 85 (0, 0)) ∧ Fr (fun i => i = B) w w' := by
  have k0 := blk_cell h (show (rpCells d l false)[0]? = some (.int .i64 (d : Int)) from rfl)
  have k1 := blk_cell h (show (rpCells d l false)[1]? = some (.string (ofL l)) from rfl)
  have k2 := blk_cell h (show (rpCells d l false)[2]? = some (.bool false) from rfl)
  have f1 := blk_free (j := 1) h
  have hap : ofL l ++ ofL m = ofL (l ++ m) := ofL_append l m
  have hs1 := ofL_size l
  have hs2 := ofL_size m
  have hll : l.length + m.length ≤ 1800000 := by rw [List.length_append] at hl; exact hl
  have hb : (w.setCell ⟨B, 1, none⟩ (.string (ofL (l ++ m)))).heap[B]? = some (.cells (rpCells d (l ++ m) false) 85 (0, 0)) := heap_setCell_same w B 1 _ 85 _ h
  have HFr := hid ((Fr.refl (fun i => i = B) w).setCell (p := ⟨B, 1, none⟩) (.inl rfl) (.string (ofL (l ++ m))))
  have HB := hid hb
  have hBl := lt_of_block hb
  have HR := hid (fun w' => rread_any w' (l ++ m) d false hl hd)
  obtain ⟨U, hU⟩ : ∃ U, rFin d (l ++ m) false = U := ⟨_, rfl⟩
  rw [hU] at HR ⊢
  generalize l ++ m = t at *
  have HBl := hid hBl
  clear h hb hU hl hBl
  go_enter Tryz.func14, Tryz.ntmps14
  go_wp2_with fail
  go_region_with (go_at_call 26; refine Calls.mono (HR.out _) ?_; rintro x w2 ⟨v, rfl, hown, hF, hnew⟩; have HF := hid hF; clear hown hF hnew)
  all_goals
    go_wp2
    go_ret
    refine ⟨rfl, ?_, ?_⟩
    · have := HF.out.block B (by first | exact HBl.out | simpa using HBl.out) (fun h => h)
      rw [this]
      exact HB.out
    · exact ((HFr.out.drewN _).trans (HF.out.mono (fun i hi => hi.elim)))
end Go.Proofs.YtmkkibaacclhnaaGreat

namespace Go.Proofs.YtmkkibaacclhnaaGreat
open Go.RowKit

set_option maxRecDepth 100000 in
set_option maxHeartbeats 8000000 in
theorem feed_wrong (B c n : Nat) (S : Nat → Prop) (l : List UInt8) (w0 w : World) (h : Gave B c n S w0 w) (hn : n ≠ 0) :
    Calls Tryz.prog 13 #[.pointer (some ⟨B, 0, none⟩), .string (ofL l)] w fun e w' => e = .returned (.int .i64 (n : Int)) ∧ Gave B c n S w0 w' := by
  have hmf : ∀ (fn : Fn) (first cap : Array Value) (w : World), (Instr.makeFunc fn first cap).run Tryz.prog w = .ok (.func fn first cap) w := fun _ _ _ _ => rfl
  obtain ⟨hb, hF⟩ := h
  have hBl := lt_of_block hb
  have hbb : ∀ a b, ((w.alloc a).alloc b).heap[B]? = some (.cells (wrongCells c n) 83 (0, 0)) := fun a b => ((Below.heap_alloc (w.alloc a) b B (by simp; omega)).trans (Below.heap_alloc w a B hBl)).trans hb
  have k3 : ∀ a b, ((w.alloc a).alloc b).cell? ⟨B, 3, none⟩ = some (.bool false) := fun a b => blk_cell (hbb a b) rfl
  have k2 : ∀ a b, ((w.alloc a).alloc b).cell? ⟨B, 2, none⟩ = some (.int .i64 (n : Int)) := fun a b => blk_cell (hbb a b) rfl
  have hs : ((n : Int) != 0) = true := bne_iff_ne.2 (by omega)
  have HG := hid (show ∀ a b, Gave B c n S w0 ((w.alloc a).alloc b) from fun a b => ⟨hbb a b, (hF.alloc a).alloc b⟩)
  clear hb hF hbb hn
  go_enter_defers Tryz.func13, Tryz.ntmps13
  go_wp2
  simp [bodyPostD, Leaves, results, Tryz.results13, go_sem]
  exact HG.out _ _
theorem feed_any (B d : Nat) (S : Nat → Prop) (w0 w : World) (l a : List UInt8) (h1 : 1 ≤ d) (h2 : d ≤ 1000) (hl : l.length + a.length ≤ 1500000) (h : Rd B S w0 w (psRun (ps0 d) l)) :
    Calls Tryz.prog 13 #[.pointer (some ⟨B, 0, none⟩), .string (ofL a)] w fun e w' => e = .returned (.int .i64 ((errOf (psRun (ps0 d) (l ++ a)) : Nat) : Int)) ∧ Rd B S w0 w' (psRun (ps0 d) (l ++ a)) := by
  rw [psRun_append]
  cases hx : psRun (ps0 d) l with
  | error x =>
    obtain ⟨n, c⟩ := x
    rw [hx] at h
    exact feed_wrong B c n S a w0 w h (psRun_err hx).1
  | ok s =>
    rw [hx] at h
    obtain ⟨vi, vo, vt, vm, hC, hQ⟩ := h
    have hok := psRun_ok (ps0_ok d h1 h2) hx
    have hcm := psRun_came hx
    have hc0 : (ps0 d).came = 0 := rfl
    refine (feed_run B vi vo vt vm s _ _ a (psRun s a) w hC.pr hQ hok (by omega) (by omega) (by omega) rfl).mono ?_
    rintro e w' ⟨rfl, hR⟩
    refine ⟨rfl, ?_⟩
    show Rd B S w0 w' (psRun s a)
    cases hy : psRun s a with
    | ok s' =>
      rw [hy] at hR
      exact hC.trans hR
    | error x =>
      obtain ⟨n, c⟩ := x
      rw [hy] at hR
      exact ⟨hR.1, hC.fr.trans' hR.2 hC.ow⟩
end Go.Proofs.YtmkkibaacclhnaaGreat
