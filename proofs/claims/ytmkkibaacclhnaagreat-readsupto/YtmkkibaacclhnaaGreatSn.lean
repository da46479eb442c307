/-
  A step of the walk, the part named Sn. No theorem of the row.
-/
import Derived.Test.YtmkkibaacclhnaaGreatSk
import Derived.Deep.MidRow
namespace Go.Proofs.YtmkkibaacclhnaaGreat
open Go.RowKit

/-! ### no more items than bytes -/
def mdAcc : Md → Nat
  | .valsGo _ acc => acc.length
  | .pairsGo _ acc => acc.length
  | _ => 0
def RV.lenOk (b : Nat) : RV → Prop
  | .ok _ new q => new.length + q.length ≤ b
  | _ => True
theorem RV.lenOk.mono {a b : Nat} {x : RV} (h : x.lenOk a) (hab : a ≤ b) : x.lenOk b := by
  cases x with
  | ok n new q => exact Nat.le_trans h hab
  | wrong e q => trivial
  | ended l => trivial
theorem wordGo_len {w r q : List UInt8} {a : Unit} (h : wordGo w r = .ok a q) : w.length + q.length = r.length := by
  induction w generalizing r with
  | nil => rw [wordGo] at h; cases h; simp
  | cons x w ih =>
    cases r with
    | nil => rw [wordGo] at h; cases h
    | cons c r =>
      rw [wordGo] at h
      split at h
      · cases h
      · have := ih h
        simp
        omega
theorem wordV_len (k : Nat) (x : UInt8) (w r : List UInt8) : (wordV k (x :: w) r).lenOk r.length := by
  unfold wordV
  cases hx : wordGo (x :: w) r with
  | ok a q =>
    have := wordGo_len hx
    show [(⟨k, 0, 0, []⟩ : It)].length + q.length ≤ r.length
    simp at this ⊢
    omega
  | wrong n q => trivial
  | ended => trivial
theorem numOut_len (inn : Nat) (c : UInt8) (q : List UInt8) : (numOut inn (c :: q)).lenOk (c :: q).length := by
  unfold numOut
  rw [tkRun]
  cases hn : nxt t0 c with
  | none =>
    simp only
    rw [tokV_no (show ¬ Ends t0.st by unfold Ends; decide), if_pos (by decide)]
    trivial
  | some t' =>
    simp only
    split
    · trivial
    · rename_i t q' hx
      split at hx
      · cases hx
      have h := tkRun_suf t' q
      rw [hx] at h
      have := h.1.length_le
      split
      · trivial
      · show [_].length + q'.length ≤ _
        simp
        omega
    · split
      · show [_].length + 0 ≤ _
        simp
      · trivial
theorem nestV_len {k b : Nat} {x : RV} (h : x.lenOk b) : (nestV k x).lenOk (b + 1) := by
  cases x with
  | ok n its q =>
    have h : its.length + q.length ≤ b := h
    show (_ :: its).length + q.length ≤ b + 1
    simp
    omega
  | wrong e q => trivial
  | ended l => trivial
theorem textV_len (r : List UInt8) : (textV r).lenOk (r.length + 1) := by
  have h := trRun_suf tr0 r
  unfold textV
  cases hx : trRun tr0 r with
  | ok a q =>
    rw [hx] at h
    have := List.IsSuffix.length_le h
    show [_].length + q.length ≤ _
    simp
    omega
  | wrong n q => trivial
  | ended => trivial
theorem rGo_len (depth f inn : Nat) (m : Md) (r : List UInt8) : (rGo depth f inn m r).lenOk (mdAcc m + r.length) := by
  induction f generalizing inn m r with
  | zero => trivial
  | succ f ih =>
    have hs := (skipB_suf r).length_le
    rw [rGo.eq_def]
    cases m with
    | val =>
      simp only
      cases hx : skipB r with
      | nil => trivial
      | cons c q =>
        rw [hx] at hs
        have hs2 : q.length + 1 ≤ r.length := hs
        simp only [mdAcc, Nat.zero_add]
        repeat' split
        · exact (textV_len q).mono hs2
        · trivial
        · exact (nestV_len (ih _ _ _)).mono (by simp only [mdAcc]; omega)
        · trivial
        · exact (nestV_len (ih _ _ _)).mono (by simp only [mdAcc]; omega)
        · exact (numOut_len _ _ _).mono hs
        · exact (wordV_len _ _ _ _).mono hs
        · exact (wordV_len _ _ _ _).mono hs
        · exact (wordV_len _ _ _ _).mono hs
        · trivial
    | vals =>
      simp only
      cases hx : skipB r with
      | nil => trivial
      | cons c q =>
        rw [hx] at hs
        have hs2 : q.length + 1 ≤ r.length := hs
        simp only
        split
        · show ([] : List It).length + q.length ≤ _
          simp [mdAcc]
          omega
        · exact (ih _ _ _).mono (by simp [mdAcc] at hs ⊢; omega)
    | pairs =>
      simp only
      cases hx : skipB r with
      | nil => trivial
      | cons c q =>
        rw [hx] at hs
        have hs2 : q.length + 1 ≤ r.length := hs
        simp only
        split
        · show ([] : List It).length + q.length ≤ _
          simp [mdAcc]
          omega
        · exact (ih _ _ _).mono (by simp [mdAcc] at hs ⊢; omega)
    | valsGo n acc =>
      simp only
      have h1 := ih inn .val r
      cases hy : rGo depth f inn .val r with
      | wrong e q => trivial
      | ended l => trivial
      | ok a its p =>
        rw [hy] at h1
        have h1 : its.length + p.length ≤ 0 + r.length := h1
        have hs := (skipB_suf p).length_le
        simp only
        cases hx : skipB p with
        | nil => trivial
        | cons c q =>
          rw [hx] at hs
          have hs2 : q.length + 1 ≤ p.length := hs
          simp only
          repeat' split
          · show (acc ++ its).length + q.length ≤ _
            simp [mdAcc]
            omega
          · exact (ih _ _ _).mono (by simp [mdAcc]; omega)
          · trivial
    | pairsGo n acc =>
      simp only
      have h1 := ih inn .pair r
      cases hy : rGo depth f inn .pair r with
      | wrong e q => trivial
      | ended l => trivial
      | ok a its p =>
        rw [hy] at h1
        have h1 : its.length + p.length ≤ 0 + r.length := h1
        have hs := (skipB_suf p).length_le
        simp only
        cases hx : skipB p with
        | nil => trivial
        | cons c q =>
          rw [hx] at hs
          have hs2 : q.length + 1 ≤ p.length := hs
          simp only
          repeat' split
          · show (acc ++ its).length + q.length ≤ _
            simp [mdAcc]
            omega
          · exact (ih _ _ _).mono (by simp [mdAcc]; omega)
          · trivial
    | pair =>
      simp only
      cases hx : skipB r with
      | nil => trivial
      | cons c q =>
        rw [hx] at hs
        have hs2 : q.length + 1 ≤ r.length := hs
        simp only
        split
        · trivial
        · have h1 := trRun_suf tr0 q
          cases hy : trRun tr0 q with
          | wrong e p => trivial
          | ended => trivial
          | ok s p =>
            rw [hy] at h1
            have h1 := List.IsSuffix.length_le h1
            have hs3 := (skipB_suf p).length_le
            simp only
            cases hz : skipB p with
            | nil => trivial
            | cons c2 q2 =>
              rw [hz] at hs3
              have hs4 : q2.length + 1 ≤ p.length := hs3
              simp only
              split
              · trivial
              · have h2 := ih inn .val q2
                cases hw : rGo depth f inn .val q2 with
                | wrong e p2 => trivial
                | ended l => trivial
                | ok a its p2 =>
                  rw [hw] at h2
                  have h2 : its.length + p2.length ≤ 0 + q2.length := h2
                  show (_ :: its).length + p2.length ≤ _
                  simp [mdAcc]
                  omega

/-! ### an item is set -/
theorem set4 (A C : List Value) (x0 x1 x2 x3 y0 y1 y2 y3 : Value) (n : Nat) (h : A.length = n) :
    ((((A ++ ([x0, x1, x2, x3] ++ C)).set n y0).set (n + 1) y1).set (n + 2) y2).set (n + 3) y3 = A ++ ([y0, y1, y2, y3] ++ C) := by
  subst h
  rw [List.set_append_right _ _ (by omega), List.set_append_right _ _ (by omega), List.set_append_right _ _ (by omega), List.set_append_right _ _ (by omega)]
  simp
theorem SC.setItem {B : Nat} {w0 w : World} {l p : List UInt8} {inn d : Nat} {g n cap : Nat} {its new : List It} {x y : It} {e : Nat} {en la : Bool} (h : SC B w0 w l p inn d (.slice (some ⟨g, 0, none⟩) n cap) (its ++ x :: new) e en la) (o : Nat) (ho : o = its.length * 4) :
    SC B w0 ((((w.setCell ⟨g, o, none⟩ (.int .i64 (y.k : Int))).setCell ⟨g, o + 1, none⟩ (.int .i64 (y.n : Int))).setCell ⟨g, o + 2, none⟩ (.int .u64 (y.b : Int))).setCell ⟨g, o + 3, none⟩ (.string (ofL y.s))) l p inn d (.slice (some ⟨g, 0, none⟩) n cap) (its ++ y :: new) e en la := by
  obtain rfl := slice_len h.oi
  obtain ⟨a, b, c, f, hB, hv⟩ := h
  have hro := rowT b a (show 110 ≠ 59 by decide)
  have hgB : g ≠ B := by rintro rfl; exact hro rfl
  have hg0 := hv g rfl
  have hother : ∀ (W : World) (j : Nat) (u : Value), (W.setCell ⟨g, j, none⟩ u).heap[B]? = W.heap[B]? := fun W j u => heap_setCell_other W ⟨g, j, none⟩ B u (fun e => hgB e.symm)
  have e1 : itsV (its ++ x :: new) = itsV its ++ ([.int .i64 (x.k : Int), .int .i64 (x.n : Int), .int .u64 (x.b : Int), .string (ofL x.s)] ++ itsV new) := by rw [itsV_append]; rfl
  have e2 : itsV (its ++ y :: new) = itsV its ++ ([.int .i64 (y.k : Int), .int .i64 (y.n : Int), .int .u64 (y.b : Int), .string (ofL y.s)] ++ itsV new) := by rw [itsV_append]; rfl
  have hl : (its ++ x :: new).length = (its ++ y :: new).length := by simp
  refine ⟨?_, ?_, c, ((((f.setCell (p := ⟨g, o, none⟩) (.inr hg0) _).setCell (p := ⟨g, o + 1, none⟩) (.inr hg0) _).setCell (p := ⟨g, o + 2, none⟩) (.inr hg0) _).setCell (p := ⟨g, o + 3, none⟩) (.inr hg0) _), hB, hv⟩
  · rw [hother, hother, hother, hother]
    exact a
  · have := rowSet (rowSet (rowSet (rowSet b o (.int .i64 (y.k : Int))) (o + 1) (.int .i64 (y.n : Int))) (o + 2) (.int .u64 (y.b : Int))) (o + 3) (.string (ofL y.s))
    rw [e1, set4 _ _ _ _ _ _ _ _ _ _ o (by rw [itsV_length]; exact ho.symm)] at this
    rw [e2, ← hl]
    exact this
def nGood (n : Nat) : Value := .tuple #[.int .i64 (n : Int), .bool true]
def nBad (n : Nat) : Value := .tuple #[.int .i64 (n : Int), .bool false]
/-- what a rule leaves that makes items and counts -/
def NPost (B : Nat) (w0 : World) (l : List UInt8) (inn d : Nat) (its : List It) (U : RV) (x : Ending) (w' : World) : Prop :=
  match U with
  | .ok n new q => x = .returned (nGood n) ∧ ∃ vi, SC B w0 w' l q inn d vi (its ++ new) 0 false false
  | .wrong n q => ∃ m, x = .returned (nBad m) ∧ ∃ vi more, SC B w0 w' l q inn d vi (its ++ more) n false false
  | .ended late => ∃ m, x = .returned (nBad m) ∧ ∃ vi more, SC B w0 w' l [] inn d vi (its ++ more) 0 true late
theorem rGo_val_nil {d f inn : Nat} {p : List UInt8} (h : skipB p = []) : rGo d (f + 1) inn .val p = .ended false := by
  rw [rGo.eq_def]; simp only; rw [h]
theorem rGo_val_cons {d f inn : Nat} {p q : List UInt8} {c : UInt8} (h : skipB p = c :: q) : rGo d (f + 1) inn .val p =
    (if c = 34 then textV q
        else if c = 91 then (if inn = d then .wrong 4 (c :: q) else nestV 5 (rGo d f (inn + 1) .vals q))
        else if c = 123 then (if inn = d then .wrong 4 (c :: q) else nestV 6 (rGo d f (inn + 1) .pairs q))
        else if c = 45 ∨ isD c = true then numOut inn (c :: q)
        else if c = 110 then wordV 0 [110, 117, 108, 108] (c :: q)
        else if c = 102 then wordV 1 [102, 97, 108, 115, 101] (c :: q)
        else if c = 116 then wordV 2 [116, 114, 117, 101] (c :: q)
        else .wrong 3 (c :: q)) := by
  rw [rGo.eq_def]; simp only; rw [h]
end Go.Proofs.YtmkkibaacclhnaaGreat

namespace Go.Proofs.YtmkkibaacclhnaaGreat
open Go.RowKit

set_option maxRecDepth 100000 in
set_option maxHeartbeats 40000000 in
theorem value_nil (B : Nat) (w0 w : World) (l p : List UInt8) (f inn d : Nat) (vi : Value) (its : List It) (hl : l.length ≤ 1800000) (h : SC B w0 w l p inn d vi its 0 false false) (hx : skipB p = []) :
    Calls Tryz.prog 45 #[.pointer (some ⟨B, 0, none⟩)] w (IPost B w0 l inn d its (rGo d (f + 1) inn .val p)) := by
  rw [rGo_val_nil hx]
  have HB := hid (blanks_any B w0 w l p inn d _ its 0 false false (by omega) h)
  rw [hx] at HB
  clear h hx
  go_enter Tryz.func45, Tryz.ntmps45
  go_wp2_with fail
  refine Calls.mono HB.out ?_
  rintro x w2 ⟨rfl, hC⟩
  have HC := hid hC
  clear hC
  go_wp2
  go_ret
  exact ⟨rfl, _, [], by rw [List.append_nil]; exact HC.out⟩
set_option maxRecDepth 100000 in
set_option maxHeartbeats 40000000 in
theorem value_text (B : Nat) (w0 w : World) (l p q : List UInt8) (c : UInt8) (f inn d : Nat) (vi : Value) (its : List It) (hl : l.length ≤ 1800000) (hil : its.length ≤ 10000000) (_hd : d ≤ 1000) (h : SC B w0 w l p inn d vi its 0 false false) (hx : skipB p = c :: q) (h34 : c = 34) :
    Calls Tryz.prog 45 #[.pointer (some ⟨B, 0, none⟩)] w (IPost B w0 l inn d its (rGo d (f + 1) inn .val p)) := by
  obtain ⟨a, n, cap, rfl⟩ := row_shape3 h.oi
  obtain rfl := slice_len h.oi
  have HB := hid (blanks_any B w0 w l p inn d _ its 0 false false (by omega) h)
  rw [hx] at HB
  have hsz := ofL_size l
  have hcl : c.toNat < 256 := c.toNat_lt
  obtain ⟨U, hU⟩ : ∃ U, rGo d (f + 1) inn .val p = U := ⟨_, rfl⟩
  rw [hU]
  rw [rGo_val_cons hx] at hU
  clear h hx
  rw [if_pos h34] at hU
  subst h34
  obtain ⟨i0, hi, hz0, hz1, hz2⟩ := info_parts Tryz.info59
  have HU := hid hU
  clear hU
  go_enter Tryz.func45, Tryz.ntmps45
  go_wp2_with fail
  refine Calls.mono HB.out ?_
  rintro x w2 ⟨rfl, hC⟩
  have hI2 : SC B w0 w2 l (34 :: q) inn d (.slice a its.length cap) its 0 false false := hC
  clear hC
  obtain ⟨hkk, hg⟩ := suf_get hI2.suf
  have k0 := blk_cell hI2.blk (show (scCells l (l.length - (34 :: q).length) inn d (.slice a its.length cap) 0 false false)[0]? = some (.string (ofL l)) from rfl)
  have k1 := blk_cell hI2.blk (show (scCells l (l.length - (34 :: q).length) inn d (.slice a its.length cap) 0 false false)[1]? = some (.int .i64 ((l.length - (34 :: q).length : Nat) : Int)) from rfl)
  have hgc : (ofL l)[l.length - (34 :: q).length]'(by rw [hsz]; exact hkk) = 34 := (ofL_get l _ _).trans hg
  have HI2 := hid hI2
  have HT := hid (fun n => text_any B w0 (w2.drewN n) l 34 q inn d (.slice a its.length cap) its (by omega) (hI2.drewN n))
  generalize l.length - (34 :: q).length = ps at *
  clear hg hI2
  cases hr : trRun tr0 q with
  | ok s q3 =>
    rw [hr] at HT
    have HE := hid (show U = .ok 0 [⟨4, 0, 0, s⟩] q3 by rw [← HU.out, textV, hr])
    clear hr HU
    go_wp2
    go_quiet (fail)
    go_wp2_with fail
    refine Calls.mono (HT.out _) ?_
    rintro x w3 ⟨rfl, hC⟩
    unfold sGood
    have HC := hid hC
    have oi := hC.oi
    have k4 := blk_cell hC.blk (show (scCells l (l.length - (q3 : List UInt8).length) inn d (.slice a its.length cap) 0 false false)[4]? = some (.slice a its.length cap) from rfl)
    have f4 := blk_free (j := 4) hC.blk
    clear hC k0 k1
    go_wp2_with (first
      | (at_builtin; refine wpList_append_d _ rfl _ _ 52 rfl 59 i0 (.agg #[.int .i64 0, .int .i64 0, .int .u64 0, .string ⟨#[]⟩]) 4 40 Tryz.underlying52 hi hz0 hz1 hz2 rfl (by decide) _ _ _ rfl (oi.alloc _) ⟨w3.heap.size, 0, none⟩ 1 1 (itCells ⟨4, 0, 0, s⟩) rfl rfl ?c1 ?c2 ?c3 ?c4 ?_)
      | fail)
    case c1 => exact four_new _ _ _ _ _ _
    case c2 => intro u hu; simp [itCells] at hu; rcases hu with rfl | rfl | rfl | rfl <;> rfl
    case c3 => unfold maxLen; omega
    case c4 => omega
    intro v' w1 hown' hgrow hnew
    obtain ⟨a', n', cap', rfl⟩ := row_shape3 hown'
    obtain ⟨hh1, hR⟩ := HC.out.growI ⟨4, 0, 0, s⟩ hown' hgrow hnew
    have q4 := blk_cell hh1 (show (scCells l (l.length - (q3 : List UInt8).length) inn d (.slice a its.length cap) 0 false false)[4]? = some (.slice a its.length cap) from rfl)
    have p4 := blk_free (j := 4) hh1
    have HR := hid hR
    clear hown' hgrow hnew hh1 hR oi k4 f4
    go_wp2
    go_ret
    rw [HE.out]
    exact ⟨rfl, _, HR.out⟩
  | wrong e q3 =>
    rw [hr] at HT
    have HE := hid (show U = .wrong e q3 by rw [← HU.out, textV, hr])
    clear hr HU
    go_wp2
    go_quiet (fail)
    go_wp2_with fail
    refine Calls.mono (HT.out _) ?_
    rintro x w3 ⟨rfl, hC⟩
    unfold sBad
    have HC := hid hC
    have oi := hC.oi
    have k4 := blk_cell hC.blk (show (scCells l (l.length - (q3 : List UInt8).length) inn d (.slice a its.length cap) e false false)[4]? = some (.slice a its.length cap) from rfl)
    have f4 := blk_free (j := 4) hC.blk
    clear hC k0 k1
    go_wp2_with (first
      | (at_builtin; refine wpList_append_d _ rfl _ _ 52 rfl 59 i0 (.agg #[.int .i64 0, .int .i64 0, .int .u64 0, .string ⟨#[]⟩]) 4 40 Tryz.underlying52 hi hz0 hz1 hz2 rfl (by decide) _ _ _ rfl (oi.alloc _) ⟨w3.heap.size, 0, none⟩ 1 1 (itCells ⟨4, 0, 0, []⟩) rfl rfl ?c1 ?c2 ?c3 ?c4 ?_)
      | fail)
    case c1 => exact four_new _ _ _ _ _ _
    case c2 => intro u hu; simp [itCells] at hu; rcases hu with rfl | rfl | rfl | rfl <;> rfl
    case c3 => unfold maxLen; omega
    case c4 => omega
    intro v' w1 hown' hgrow hnew
    obtain ⟨a', n', cap', rfl⟩ := row_shape3 hown'
    obtain ⟨hh1, hR⟩ := HC.out.growI ⟨4, 0, 0, []⟩ hown' hgrow hnew
    have q4 := blk_cell hh1 (show (scCells l (l.length - (q3 : List UInt8).length) inn d (.slice a its.length cap) e false false)[4]? = some (.slice a its.length cap) from rfl)
    have p4 := blk_free (j := 4) hh1
    have HR := hid hR
    clear hown' hgrow hnew hh1 hR oi k4 f4
    go_wp2
    go_ret
    rw [HE.out]
    exact ⟨rfl, _, _, HR.out⟩
  | ended =>
    rw [hr] at HT
    have HE := hid (show U = .ended false by rw [← HU.out, textV, hr])
    clear hr HU
    go_wp2
    go_quiet (fail)
    go_wp2_with fail
    refine Calls.mono (HT.out _) ?_
    rintro x w3 ⟨rfl, hC⟩
    unfold sBad
    have HC := hid hC
    have oi := hC.oi
    have k4 := blk_cell hC.blk (show (scCells l (l.length - ([] : List UInt8).length) inn d (.slice a its.length cap) 0 true false)[4]? = some (.slice a its.length cap) from rfl)
    have f4 := blk_free (j := 4) hC.blk
    clear hC k0 k1
    go_wp2_with (first
      | (at_builtin; refine wpList_append_d _ rfl _ _ 52 rfl 59 i0 (.agg #[.int .i64 0, .int .i64 0, .int .u64 0, .string ⟨#[]⟩]) 4 40 Tryz.underlying52 hi hz0 hz1 hz2 rfl (by decide) _ _ _ rfl (oi.alloc _) ⟨w3.heap.size, 0, none⟩ 1 1 (itCells ⟨4, 0, 0, []⟩) rfl rfl ?c1 ?c2 ?c3 ?c4 ?_)
      | fail)
    case c1 => exact four_new _ _ _ _ _ _
    case c2 => intro u hu; simp [itCells] at hu; rcases hu with rfl | rfl | rfl | rfl <;> rfl
    case c3 => unfold maxLen; omega
    case c4 => omega
    intro v' w1 hown' hgrow hnew
    obtain ⟨a', n', cap', rfl⟩ := row_shape3 hown'
    obtain ⟨hh1, hR⟩ := HC.out.growI ⟨4, 0, 0, []⟩ hown' hgrow hnew
    have q4 := blk_cell hh1 (show (scCells l (l.length - ([] : List UInt8).length) inn d (.slice a its.length cap) 0 true false)[4]? = some (.slice a its.length cap) from rfl)
    have p4 := blk_free (j := 4) hh1
    have HR := hid hR
    clear hown' hgrow hnew hh1 hR oi k4 f4
    go_wp2
    go_ret
    rw [HE.out]
    exact ⟨rfl, _, _, HR.out⟩
end Go.Proofs.YtmkkibaacclhnaaGreat

namespace Go.Proofs.YtmkkibaacclhnaaGreat
open Go.RowKit

set_option maxRecDepth 100000 in
set_option maxHeartbeats 40000000 in
theorem value_rest (B : Nat) (w0 w : World) (l p q : List UInt8) (c : UInt8) (f inn d : Nat) (vi : Value) (its : List It) (hl : l.length ≤ 1800000) (hil : its.length ≤ 10000000) (_hd : d ≤ 1000) (h : SC B w0 w l p inn d vi its 0 false false) (hx : skipB p = c :: q) (h34 : c ≠ 34) (h91 : c ≠ 91) (h123 : c ≠ 123) :
    Calls Tryz.prog 45 #[.pointer (some ⟨B, 0, none⟩)] w (IPost B w0 l inn d its (rGo d (f + 1) inn .val p)) := by
  obtain ⟨a, n, cap, rfl⟩ := row_shape3 h.oi
  obtain rfl := slice_len h.oi
  have HB := hid (blanks_any B w0 w l p inn d _ its 0 false false (by omega) h)
  rw [hx] at HB
  have hsz := ofL_size l
  have hcl : c.toNat < 256 := c.toNat_lt
  obtain ⟨U, hU⟩ : ∃ U, rGo d (f + 1) inn .val p = U := ⟨_, rfl⟩
  rw [hU]
  rw [rGo_val_cons hx] at hU
  clear h hx
  rw [if_neg h34, if_neg h91, if_neg h123] at hU
  have i34 : ((c.toNat : Int) == 34) = false := beq_eq_false_iff_ne.2 (by have := toNat_neP h34; simp at this; omega)
  have i91 : ((c.toNat : Int) == 91) = false := beq_eq_false_iff_ne.2 (by have := toNat_neP h91; simp at this; omega)
  have i123 : ((c.toNat : Int) == 123) = false := beq_eq_false_iff_ne.2 (by have := toNat_neP h123; simp at this; omega)
  clear h34 h91 h123
  have HU := hid hU
  clear hU
  go_enter Tryz.func45, Tryz.ntmps45
  go_wp2_with fail
  refine Calls.mono HB.out ?_
  rintro x w2 ⟨rfl, hC⟩
  have hI2 : SC B w0 w2 l (c :: q) inn d (.slice a its.length cap) its 0 false false := hC
  clear hC
  obtain ⟨hkk, hg⟩ := suf_get hI2.suf
  have k0 := blk_cell hI2.blk (show (scCells l (l.length - (c :: q).length) inn d (.slice a its.length cap) 0 false false)[0]? = some (.string (ofL l)) from rfl)
  have k1 := blk_cell hI2.blk (show (scCells l (l.length - (c :: q).length) inn d (.slice a its.length cap) 0 false false)[1]? = some (.int .i64 ((l.length - (c :: q).length : Nat) : Int)) from rfl)
  have hgc : (ofL l)[l.length - (c :: q).length]'(by rw [hsz]; exact hkk) = c := (ofL_get l _ _).trans hg
  have HI2 := hid hI2
  have HN := hid (fun n => number_any B w0 (w2.drewN n) l (c :: q) inn d (.slice a its.length cap) its (by omega) (by omega) (hI2.drewN n))
  have HW1 := hid (fun n => word_any B w0 (w2.drewN n) l (c :: q) [110, 117, 108, 108] 0 inn d (.slice a its.length cap) its (by omega) (by decide) (by omega) (hI2.drewN n))
  have HW2 := hid (fun n => word_any B w0 (w2.drewN n) l (c :: q) [102, 97, 108, 115, 101] 1 inn d (.slice a its.length cap) its (by omega) (by decide) (by omega) (hI2.drewN n))
  have HW3 := hid (fun n => word_any B w0 (w2.drewN n) l (c :: q) [116, 114, 117, 101] 2 inn d (.slice a its.length cap) its (by omega) (by decide) (by omega) (hI2.drewN n))
  have hFl := hid (fun n => fails_any B w0 (w2.drewN n) l (c :: q) inn d (.slice a its.length cap) its 0 3 false false (hI2.drewN n))
  have HV := hid (fun (x : Ending) (w' : World) (hp : IPost B w0 l inn d its U x w') => (show ∃ b, x = .returned (.bool b) by
    cases U with
    | ok n new q => exact ⟨_, hp.1⟩
    | wrong e q => exact ⟨_, hp.1⟩
    | ended la => exact ⟨_, hp.1⟩))
  generalize l.length - (c :: q).length = ps at *
  clear hg hI2
  by_cases hnum : c = 45 ∨ isD c = true
  · have HE := HU.out
    rw [if_pos hnum] at HE
    rw [HE] at HN
    clear HE HU
    by_cases h45 : c = 45
    · subst h45
      go_wp2
      go_quiet (fail)
      go_wp2_with fail
      refine Calls.mono (HN.out _) ?_
      intro x w3 hp
      obtain ⟨b, rfl⟩ := HV.out x w3 hp
      have HP := hid hp
      clear hp
      go_wp2
      go_ret
      exact HP.out
    · have hD : 48 ≤ c.toNat ∧ c.toNat ≤ 57 := (isD_iff c).1 (hnum.resolve_left h45)
      have i45 : ((c.toNat : Int) == 45) = false := beq_eq_false_iff_ne.2 (by have := toNat_neP h45; simp at this; omega)
      obtain ⟨b1, b2⟩ := hD
      have b3 : (48 : Int) ≤ (c.toNat : Int) := by omega
      have b4 : (c.toNat : Int) ≤ 57 := by omega
      clear hnum h45
      go_wp2
      go_quiet (fail)
      go_wp2_with fail
      refine Calls.mono (HN.out _) ?_
      intro x w3 hp
      obtain ⟨b, rfl⟩ := HV.out x w3 hp
      have HP := hid hp
      clear hp
      go_wp2
      go_ret
      exact HP.out
  · have h45 : c ≠ 45 := fun e => hnum (.inl e)
    have i45 : ((c.toNat : Int) == 45) = false := beq_eq_false_iff_ne.2 (by have := toNat_neP h45; simp at this; omega)
    have hnd : ¬ (48 ≤ c.toNat ∧ c.toNat ≤ 57) := fun e => hnum (.inr ((isD_iff c).2 e))
    have HE := HU.out
    rw [if_neg hnum] at HE
    have HE := hid HE
    clear HU hnum h45
    have hpk : (decide ((48 : Int) ≤ (c.toNat : Int)) && decide ((c.toNat : Int) ≤ 57)) = false := by
      rw [Bool.and_eq_false_iff, decide_eq_false_iff_not, decide_eq_false_iff_not]; omega
    by_cases h110 : c = 110
    · have HE := HE.out
      rw [if_pos h110] at HE
      rw [HE] at HW1
      subst h110
      clear HE
      go_wp2
      go_quiet (fail)
      go_wp2_with fail
      refine Calls.mono (HW1.out _) ?_
      intro x w3 hp
      obtain ⟨b, rfl⟩ := HV.out x w3 hp
      have HP := hid hp
      clear hp
      go_wp2
      go_ret
      exact HP.out
    have i110 : ((c.toNat : Int) == 110) = false := beq_eq_false_iff_ne.2 (by have := toNat_neP h110; simp at this; omega)
    by_cases h102 : c = 102
    · have HE := HE.out
      rw [if_neg h110, if_pos h102] at HE
      rw [HE] at HW2
      subst h102
      clear HE
      go_wp2
      go_quiet (fail)
      go_wp2_with fail
      refine Calls.mono (HW2.out _) ?_
      intro x w3 hp
      obtain ⟨b, rfl⟩ := HV.out x w3 hp
      have HP := hid hp
      clear hp
      go_wp2
      go_ret
      exact HP.out
    have i102 : ((c.toNat : Int) == 102) = false := beq_eq_false_iff_ne.2 (by have := toNat_neP h102; simp at this; omega)
    by_cases h116 : c = 116
    · have HE := HE.out
      rw [if_neg h110, if_neg h102, if_pos h116] at HE
      rw [HE] at HW3
      subst h116
      clear HE
      go_wp2
      go_quiet (fail)
      go_wp2_with fail
      refine Calls.mono (HW3.out _) ?_
      intro x w3 hp
      obtain ⟨b, rfl⟩ := HV.out x w3 hp
      have HP := hid hp
      clear hp
      go_wp2
      go_ret
      exact HP.out
    have i116 : ((c.toNat : Int) == 116) = false := beq_eq_false_iff_ne.2 (by have := toNat_neP h116; simp at this; omega)
    have HE2 := hid (show U = .wrong 3 (c :: q) by have := HE.out; rw [if_neg h110, if_neg h102, if_neg h116] at this; exact this.symm)
    clear HE h110 h102 h116
    by_cases h48 : c.toNat < 48
    all_goals
      go_wp2
      go_quiet (fail)
      go_wp2_with fail
      refine Calls.mono (hFl.out _) ?_
      rintro x w3 ⟨rfl, hC⟩
      have HC := hid hC
      clear hC
      go_wp2
      go_ret
      rw [HE2.out]
      exact ⟨rfl, _, [], by rw [List.append_nil]; exact HC.out⟩
end Go.Proofs.YtmkkibaacclhnaaGreat
