/-
  A step of the walk, the part named Sg. No theorem of the row.
-/
import Derived.Test.YtmkkibaacclhnaaGreatSe
namespace Go.Proofs.YtmkkibaacclhnaaGreat
open Go.RowKit

theorem suf_mid {l P pre q : List UInt8} {x : UInt8} (h : P <:+ l) (hP : P = pre ++ x :: q) : l.length - (x :: q).length = l.length - P.length + pre.length ∧ (l.take (l.length - P.length + pre.length + 1)).drop (l.length - P.length) = pre ++ [x] := by
  obtain ⟨t, rfl⟩ := h
  subst hP
  have e : (t ++ (pre ++ x :: q)).length - (pre ++ x :: q).length = t.length := by simp
  rw [e]
  constructor
  · simp
    omega
  · rw [show t.length + pre.length + 1 = (t ++ (pre ++ [x])).length by simp; omega, show t ++ (pre ++ x :: q) = (t ++ (pre ++ [x])) ++ q by simp, List.take_left, List.drop_left]
theorem begins_ne (p : List UInt8) (w : World) (hp : p ≠ []) (hr : p.length ≤ 1000000000) :
    Calls Tryz.prog 117 #[.string (ofL p)] w fun x w' => x = .returned (.int .i64 ((beginsV p : Nat) : Int)) ∧ Fr (fun _ => False) w w' := by
  cases p with
  | nil => exact absurd rfl hp
  | cons c r => exact begins_any c r w (by simp only [List.length_cons] at hr; omega)
set_option maxRecDepth 100000 in
set_option maxHeartbeats 40000000 in
theorem character_any (B : Nat) (w0 w : World) (l P : List UInt8) (inn d : Nat) (vi : Value) (its : List It) (hl : l.length ≤ 100000000) (h : SC B w0 w l P inn d vi its 0 false false) :
    Calls Tryz.prog 96 #[.pointer (some ⟨B, 0, none⟩)] w (TPost B w0 l inn d vi its sGood sBad (charGo [] P)) := by
  obtain ⟨U, hU⟩ : ∃ U, charGo [] P = U := ⟨_, rfl⟩
  rw [hU]
  have HU := hid hU
  have hsz := ofL_size l
  have hsP := hid h.suf
  have kP := blk_cell h.blk (show (scCells l (l.length - P.length) inn d vi 0 false false)[1]? = some (.int .i64 ((l.length - P.length : Nat) : Int)) from rfl)
  have hPl := h.at_
  have H := hid h
  obtain ⟨fr, hfr⟩ : ∃ fr, l.length - P.length = fr := ⟨_, rfl⟩
  have hfl : fr + P.length = l.length := by omega
  rw [hfr] at kP
  have HFR := hid hfr
  clear h hU hfr hPl
  go_enter Tryz.func96, Tryz.ntmps96
  go_wp2
  go_loopw [] (fun wr => ∃ pre p', Hid (SC B w0 wr l p' inn d vi its 0 false false) ∧ Hid (charGo pre p' = U) ∧ Hid (P = pre ++ p')) (fun wr => l.length - atOf wr B)
  case atStart => exact ⟨[], P, H, HU, hid rfl⟩
  case round =>
    clear kP
    obtain ⟨pre, p', hI, hG, hPP⟩ := hrel
    cases p' with
    | nil =>
      have HM := hid (more_no B w0 _ l inn d vi its 0 false false hI.out)
      rw [charGo] at hG
      go_wp2_with fail
      refine Calls.mono HM.out ?_
      rintro x w2 ⟨rfl, hC⟩
      have HC := hid hC
      clear hC
      go_wp2
      go_ret2
      rw [← hG.out]
      exact ⟨rfl, HC.out⟩
    | cons x q =>
      have HM := hid (more_yes B w0 _ l x q inn d vi its 0 false false hI.out)
      obtain ⟨hm1, hm2⟩ := suf_mid hsP.out hPP.out
      rw [HFR.out] at hm1 hm2
      have hA := hid hI.out.atOf
      go_wp2_with fail
      refine Calls.mono HM.out ?_
      rintro x2 w2 ⟨rfl, hw2⟩
      have hI2 : SC B w0 w2 l (x :: q) inn d vi its 0 false false := hw2 ▸ hI.out.drew
      clear hw2
      have hkl : fr + pre.length < l.length := by have := hI2.at_; have h3 := congrArg List.length hPP.out; simp at h3; omega
      have k0 := blk_cell hI2.blk (show (scCells l (l.length - (x :: q).length) inn d vi 0 false false)[0]? = some (.string (ofL l)) from rfl)
      have k1 := blk_cell hI2.blk (show (scCells l (l.length - (x :: q).length) inn d vi 0 false false)[1]? = some (.int .i64 ((l.length - (x :: q).length : Nat) : Int)) from rfl)
      have f1 := blk_free (j := 1) hI2.blk
      have hst := hid (fun wx (hF : Fr (fun _ => False) w2.drew wx) => (hI2.drew.same hF).step)
      have hFl := hid (fun wx (hF : Fr (fun _ => False) w2.drew wx) => fails_any B w0 wx l (x :: q) inn d vi its 0 2 false false (hI2.drew.same hF))
      have hKx := hid (fun wx (hF : Fr (fun _ => False) w2.drew wx) => (show wx.cell? ⟨B, 1, none⟩ = some (.int .i64 ((l.length - (x :: q).length : Nat) : Int)) from blk_cell (hI2.drew.same hF).blk rfl))
      have hK0 := hid (fun wx (hF : Fr (fun _ => False) w2.drew wx) => (show wx.cell? ⟨B, 0, none⟩ = some (.string (ofL l)) from blk_cell (hI2.drew.same hF).blk rfl))
      have hKf := hid (fun wx (hF : Fr (fun _ => False) w2.drew wx) => (show wx.frozen? ⟨B, 1, none⟩ = false from blk_free (j := 1) (hI2.drew.same hF).blk))
      have hex1 : (ofL l).extract fr (fr + pre.length + 1) = ofL (pre ++ [x]) := by rw [ofL_extract, hm2]
      rw [hm1] at k1 hst hKx
      have HBG := hid (fun w => begins_ne (pre ++ [x]) w (by simp) (by simp; omega))
      have hlen : (pre ++ [x]).length = pre.length + 1 := by simp
      generalize hpx : pre ++ [x] = px at *
      have hcg := charGo_cons pre x q
      rw [hpx] at hcg
      rw [hcg] at hG
      generalize hbv : beginsV px = bv at *
      clear hI2 hm2 hcg hbv
      obtain ⟨ps, hps⟩ : ∃ ps, fr + pre.length = ps := ⟨_, rfl⟩
      rw [hps] at k1 hKx hst hex1 hkl hm1
      have hfp : fr ≤ ps := by omega
      have hplen : px.length = ps + 1 - fr := by omega
      clear hps hlen
      have z1 : fr ≤ ps + 1 := by omega
      have z2 : ps + 1 ≤ l.length := by omega
      have z3 : (fr : Int) ≤ (ps : Int) + 1 := by omega
      have z4 : (ps : Int) + 1 ≤ (l.length : Int) := by omega
      have z5 : ¬ (ps : Int) + 1 < (fr : Int) := by omega
      have z6 : ¬ (l.length : Int) < (ps : Int) + 1 := by omega
      have hwp : IntKind.i64.wrap ((ps : Int) + 1) = (ps : Int) + 1 := IntWalk.i64_in ((ps : Int) + 1) (by omega)
      have z8 : (0 : Int) ≤ (ps : Int) + 1 := by omega
      have z9 : (0 : Int) ≤ (fr : Int) := by omega
      have z7 : ((ps : Int) + 1).toNat = ps + 1 := by omega
      have hb0 : bv = 0 ∨ (bv ≠ 0 ∧ px.length = bv) ∨ (bv ≠ 0 ∧ px.length ≠ bv) := by omega
      rcases hb0 with hb0 | ⟨hb0, hb1⟩ | ⟨hb0, hb1⟩
      · subst hb0
        rw [if_pos rfl] at hG
        go_wp2
        go_region_with (refine Calls.mono (HBG.out _) ?_; rintro x3 w3 ⟨rfl, hF3⟩; have m0 := hK0.out w3 hF3; have m1 := hKx.out w3 hF3; have mf := hKf.out w3 hF3; have HF3 := hid hF3; clear hF3)
        all_goals
          go_wp2_with fail
          refine Calls.mono (hFl.out _ (by first | exact HF3.out | exact HF3.out.drew)) ?_
          rintro x4 w4 ⟨rfl, hC⟩
          have HC := hid hC
          clear hC
          go_wp2
          go_ret2
          rw [← hG.out]
          exact ⟨rfl, HC.out⟩
      · rw [if_neg hb0, if_pos hb1] at hG
        have hbi : ((bv : Int) == 0) = false := beq_eq_false_iff_ne.2 (by omega)
        have hbq : (((ps : Int) + 1 - (fr : Int)) == (bv : Int)) = true := beq_iff_eq.2 (by omega)
        go_wp2
        go_region_with (refine Calls.mono (HBG.out _) ?_; rintro x3 w3 ⟨rfl, hF3⟩; have m0 := hK0.out w3 hF3; have m1 := hKx.out w3 hF3; have mf := hKf.out w3 hF3; have HF3 := hid hF3; clear hF3)
        all_goals
          go_wp2
          go_quiet (fail)
          go_wp2
          go_ret2
          rw [← hG.out]
          exact ⟨rfl, (hst.out _ (by first | exact HF3.out | exact HF3.out.drew)).drewN _⟩
      · rw [if_neg hb0, if_neg hb1] at hG
        have hbi : ((bv : Int) == 0) = false := beq_eq_false_iff_ne.2 (by omega)
        have hbq : (((ps : Int) + 1 - (fr : Int)) == (bv : Int)) = false := beq_eq_false_iff_ne.2 (by omega)
        have HPX := hid (show P = px ++ q by rw [hPP.out, ← hpx]; simp)
        clear hpx
        go_wp2
        go_region_with (refine Calls.mono (HBG.out _) ?_; rintro x3 w3 ⟨rfl, hF3⟩; have m0 := hK0.out w3 hF3; have m1 := hKx.out w3 hF3; have mf := hKf.out w3 hF3; have HF3 := hid hF3; clear hF3)
        all_goals
          go_wp2
          have hS := hst.out _ (by first | exact HF3.out | exact HF3.out.drew)
          exact ⟨⟨px, q, hid hS, hG, HPX⟩, by rw [hS.atOf, hA.out]; have := suf_pos hI.out.suf; omega⟩
end Go.Proofs.YtmkkibaacclhnaaGreat

namespace Go.Proofs.YtmkkibaacclhnaaGreat
open Go.RowKit

theorem unitGo_suf (low : Bool) (k n : Nat) (r : List UInt8) : (unitGo low k n r).suf r := by
  induction k generalizing n r with
  | zero => exact List.suffix_refl _
  | succ k ih =>
    cases r with
    | nil => trivial
    | cons c r =>
      rw [unitGo]
      cases hexV c with
      | none => exact suf_self
      | some h =>
        simp only
        split
        · exact suf_self
        split
        · exact suf_self
        · exact (ih _ r).mono (List.suffix_cons c r)
theorem pairOut_suf (n : Nat) (q : List UInt8) : (pairOut n q).suf q := by
  cases q with
  | nil => trivial
  | cons c q =>
    by_cases h : c = 92
    · subst h
      cases q with
      | nil => rw [pair_one]; trivial
      | cons c2 q2 =>
        by_cases h2 : c2 = 117
        · subst h2
          rw [pair_u]
          have := (unitGo_suf true 4 0 q2).mono ((List.suffix_cons 117 q2).trans (List.suffix_cons 92 (117 :: q2)))
          cases hx : unitGo true 4 0 q2 with
          | ok m q3 =>
            rw [hx] at this
            have this : q3 <:+ 92 :: 117 :: q2 := this
            show q3 <:+ 92 :: 117 :: q2
            exact this
          | wrong e q3 => rw [hx] at this; exact this
          | ended => trivial
        · rw [pair_w2 n q2 h2]
          exact ⟨List.suffix_cons 92 _, by simp⟩
    · rw [pair_w1 n q h]
      exact suf_self
theorem escOut_suf (r : List UInt8) : (escOut r).suf r := by
  cases r with
  | nil => trivial
  | cons c r =>
    rw [escOut]
    cases escV c with
    | some x => exact List.suffix_cons c r
    | none =>
      simp only
      split
      · exact suf_self
      · have := (unitGo_suf false 4 0 r).mono (List.suffix_cons c r)
        cases hx : unitGo false 4 0 r with
        | wrong e q => rw [hx] at this; exact this
        | ended => trivial
        | ok n q =>
          rw [hx] at this
          simp only
          split
          · exact this
          · exact (pairOut_suf n q).mono this
theorem escOut_len {r s q : List UInt8} (h : escOut r = .ok s q) : s.length ≤ 4 := by
  cases r with
  | nil => cases h
  | cons c r =>
    rw [escOut] at h
    cases hv : escV c with
    | some x => rw [hv] at h; cases h; simp
    | none =>
      rw [hv] at h
      simp only at h
      split at h
      · cases h
      cases hx : unitGo false 4 0 r with
      | wrong e q => rw [hx] at h; cases h
      | ended => rw [hx] at h; cases h
      | ok n q1 =>
        rw [hx] at h
        simp only at h
        split at h
        · cases h
          exact encR_len _
        · cases q1 with
          | nil => rw [pair_nil] at h; cases h
          | cons c1 q1 =>
            by_cases h1 : c1 = 92
            · subst h1
              cases q1 with
              | nil => rw [pair_one] at h; cases h
              | cons c2 q2 =>
                by_cases h2 : c2 = 117
                · subst h2
                  rw [pair_u] at h
                  cases hy : unitGo true 4 0 q2 with
                  | ok m q3 =>
                    rw [hy] at h
                    injection h with h1 h2
                    rw [← h1]
                    exact encR_len _
                  | wrong e q3 => rw [hy] at h; cases h
                  | ended => rw [hy] at h; cases h
                · rw [pair_w2 n q2 h2] at h; cases h
            · rw [pair_w1 n q1 h1] at h; cases h
theorem charGo_len {pre p s q : List UInt8} (h : charGo pre p = .ok s q) : s.length + q.length = pre.length + p.length := by
  induction p generalizing pre with
  | nil => cases h
  | cons c r ih =>
    rw [charGo] at h
    split at h
    · cases h
    split at h
    · cases h
      simp
      omega
    · have := ih h
      simp at this ⊢
      omega
theorem charGo_ne {pre p s q : List UInt8} (h : charGo pre p = .ok s q) : s ≠ [] := by
  induction p generalizing pre with
  | nil => cases h
  | cons c r ih =>
    rw [charGo] at h
    split at h
    · cases h
    split at h
    · cases h
      simp
    · exact ih h
theorem text_end {out q : List UInt8} {t : Tr} (h : Tx0 out t) : trRun t (34 :: q) = .ok out q := by
  rw [trRun, trNext0 h.1, trChar, if_neg (by decide), if_neg (by have := h.2.2; omega), if_pos rfl]
  simp only
  rw [h.2.1]
theorem text_low {out q : List UInt8} {t : Tr} {c : UInt8} (h : Tx0 out t) (hc : c.toNat < 32) : trRun t (c :: q) = .wrong 3 (c :: q) := by
  refine trRun_err ?_
  rw [trNext0 h.1, trChar, if_neg (by rintro rfl; exact absurd hc (by decide)), if_neg (by have := h.2.2; omega), if_neg (by rintro rfl; exact absurd hc (by decide)), if_pos hc]
theorem text_one {out q : List UInt8} {t : Tr} {c : UInt8} (h : Tx0 out t) (h1 : c ≠ 34) (h2 : ¬ c.toNat < 32) (h3 : c ≠ 92) (h4 : c.toNat < 128) : ∃ t', Tx0 (out ++ [c]) t' ∧ trRun t (c :: q) = trRun t' q := by
  refine ⟨⟨t.st, t.made ++ [c], t.lack, t.lo, t.hi, t.dg, t.code, t.high⟩, ⟨h.1, by show t.made ++ [c] = _; rw [h.2.1], h.2.2⟩, trRun_ok ?_⟩
  rw [trNext0 h.1, trChar, if_neg h3, if_neg (by have := h.2.2; omega), if_neg h1, if_neg h2, if_pos h4]
set_option maxRecDepth 100000 in
set_option maxHeartbeats 80000000 in
theorem text_any (B : Nat) (w0 w : World) (l : List UInt8) (c0 : UInt8) (r : List UInt8) (inn d : Nat) (vi : Value) (its : List It) (hl : l.length ≤ 100000000) (h : SC B w0 w l (c0 :: r) inn d vi its 0 false false) :
    Calls Tryz.prog 69 #[.pointer (some ⟨B, 0, none⟩)] w (TPost B w0 l inn d vi its sGood sBad (trRun tr0 r)) := by
  obtain ⟨U, hU⟩ : ∃ U, trRun tr0 r = U := ⟨_, rfl⟩
  rw [hU]
  have HU := hid hU
  have hsz := ofL_size l
  have kP := blk_cell h.blk (show (scCells l (l.length - (c0 :: r).length) inn d vi 0 false false)[1]? = some (.int .i64 ((l.length - (c0 :: r).length : Nat) : Int)) from rfl)
  have fP := blk_free (j := 1) h.blk
  have hrl : r.length ≤ l.length := by have := h.at_; simp at this; omega
  have HS := hid h.step
  obtain ⟨pP, hpP⟩ : ∃ pP, l.length - (c0 :: r).length = pP := ⟨_, rfl⟩
  have hpb : pP ≤ 100000000 := by omega
  rw [hpP] at kP HS
  clear h hU hpP
  go_enter Tryz.func69, Tryz.ntmps69
  go_wp2
  go_loopw [4] (fun o wr => ∃ out p', o = .string (ofL out) ∧ Hid (SC B w0 wr l p' inn d vi its 0 false false) ∧ Hid (∃ t, Tx0 out t ∧ trRun t p' = U) ∧ out.length + 4 * p'.length ≤ 4 * r.length) (fun _ wr => l.length - atOf wr B)
  case atStart => exact ⟨[], r, rfl, HS, hid ⟨tr0, ⟨rfl, rfl, rfl⟩, HU.out⟩, by simp⟩
  case round =>
    clear kP fP
    obtain ⟨out, p', rfl, hI, hT, hlen⟩ := hrel
    have hso := ofL_size out
    cases p' with
    | nil =>
      have HM := hid (more_no B w0 _ l inn d vi its 0 false false hI.out)
      have HE := hid (show U = .ended by obtain ⟨t, _, ht⟩ := hT.out; rw [← ht]; rfl)
      go_wp2_with fail
      refine Calls.mono HM.out ?_
      rintro x w2 ⟨rfl, hC⟩
      have HC := hid hC
      clear hC
      go_wp2
      go_ret2
      rw [HE.out]
      exact ⟨rfl, HC.out⟩
    | cons c q =>
      have HM := hid (more_yes B w0 _ l c q inn d vi its 0 false false hI.out)
      have hA := hid hI.out.atOf
      have hkq := suf_pos hI.out.suf
      have hcl : c.toNat < 256 := c.toNat_lt
      rw [List.length_cons] at hlen
      go_wp2_with fail
      refine Calls.mono HM.out ?_
      rintro x2 w2 ⟨rfl, hw2⟩
      have hI2 : SC B w0 w2 l (c :: q) inn d vi its 0 false false := hw2 ▸ hI.out.drew
      clear hw2
      obtain ⟨hkk, hg⟩ := suf_get hI2.suf
      have k0 := blk_cell hI2.blk (show (scCells l (l.length - (c :: q).length) inn d vi 0 false false)[0]? = some (.string (ofL l)) from rfl)
      have k1 := blk_cell hI2.blk (show (scCells l (l.length - (c :: q).length) inn d vi 0 false false)[1]? = some (.int .i64 ((l.length - (c :: q).length : Nat) : Int)) from rfl)
      have f1 := blk_free (j := 1) hI2.blk
      have hgc : (ofL l)[l.length - (c :: q).length]'(by rw [hsz]; exact hkk) = c := (ofL_get l _ _).trans hg
      have HI2 := hid hI2
      have HKA := hid (fun n ob => blk_cell ((hI2.drewN n).same ((Fr.refl _ _).alloc ob)).blk (show (scCells l (l.length - (c :: q).length) inn d vi 0 false false)[1]? = some (.int .i64 ((l.length - (c :: q).length : Nat) : Int)) from rfl))
      have hst2 := hid (fun n ob => ((hI2.drewN n).same ((Fr.refl _ _).alloc ob)).step)
      have HKF := hid (fun n ob => blk_free (j := 1) ((hI2.drewN n).same ((Fr.refl _ _).alloc ob)).blk)
      have hst := hid (fun n => (hI2.drewN n).step)
      have hFl := hid (fun n => fails_any B w0 (w2.drewN n) l (c :: q) inn d vi its 0 3 false false (hI2.drewN n))
      generalize l.length - (c :: q).length = ps at *
      clear hg hI2
      by_cases h34 : c = 34
      · subst h34
        have HE := hid (show U = .ok out q by obtain ⟨t, h1, ht⟩ := hT.out; rw [← ht]; exact text_end h1)
        go_wp2
        go_quiet (fail)
        go_wp2
        go_ret2
        rw [HE.out]
        exact ⟨rfl, hst.out _⟩
      have i34 : ((c.toNat : Int) == 34) = false := beq_eq_false_iff_ne.2 (by have := toNat_neP h34; simp at this; omega)
      by_cases h32 : c.toNat < 32
      · have HE := hid (show U = .wrong 3 (c :: q) by obtain ⟨t, h1, ht⟩ := hT.out; rw [← ht]; exact text_low h1 h32)
        go_wp2
        go_quiet (fail)
        go_wp2_with fail
        refine Calls.mono (hFl.out _) ?_
        rintro x w3 ⟨rfl, hC⟩
        have HC := hid hC
        clear hC
        go_wp2
        go_ret2
        rw [HE.out]
        exact ⟨rfl, HC.out⟩
      by_cases h92 : c = 92
      · subst h92
        have HEs := hid (fun n => escape_any B w0 (w2.drewN n) l q inn d vi its hl (HI2.out.drewN n))
        have hes := hid (show ∃ t, Tx0 out t ∧ (match escOut q with | .ok s q' => ∃ t', Tx0 (out ++ s) t' ∧ trRun t (92 :: q) = trRun t' q' | .wrong e q' => trRun t (92 :: q) = .wrong e q' | .ended => trRun t (92 :: q) = .ended) ∧ trRun t (92 :: q) = U from by obtain ⟨t, h1, ht⟩ := hT.out; exact ⟨t, h1, esc_run out t h1 q, ht⟩)
        have hsf := hid (escOut_suf q)
        cases he : escOut q with
        | wrong e q' =>
          rw [he] at HEs hes
          have HE := hid (show U = .wrong e q' by obtain ⟨t, _, h1, h2⟩ := hes.out; exact h2.symm.trans h1)
          clear he hes
          go_wp2
          go_quiet (fail)
          go_wp2_with fail
          refine Calls.mono (HEs.out _) ?_
          rintro x w3 ⟨rfl, hC⟩
          unfold sBad
          have HC := hid hC
          clear hC
          go_wp2
          go_ret2
          rw [HE.out]
          exact ⟨rfl, HC.out⟩
        | ended =>
          rw [he] at HEs hes
          have HE := hid (show U = .ended by obtain ⟨t, _, h1, h2⟩ := hes.out; exact h2.symm.trans h1)
          clear he hes
          go_wp2
          go_quiet (fail)
          go_wp2_with fail
          refine Calls.mono (HEs.out _) ?_
          rintro x w3 ⟨rfl, hC⟩
          unfold sBad
          have HC := hid hC
          clear hC
          go_wp2
          go_ret2
          rw [HE.out]
          exact ⟨rfl, HC.out⟩
        | ok s q' =>
          have hsl := escOut_len he
          rw [he] at HEs hes hsf
          have hql : q'.length ≤ q.length := List.IsSuffix.length_le hsf.out
          have HT := hid (show ∃ t', Tx0 (out ++ s) t' ∧ trRun t' q' = U by obtain ⟨t, _, ⟨t', h1, h2⟩, h3⟩ := hes.out; exact ⟨t', h1, h2.symm.trans h3⟩)
          have hss := ofL_size s
          have hap : ofL out ++ ofL s = ofL (out ++ s) := ofL_append out s
          have hlen2 : (out ++ s).length + 4 * q'.length ≤ 4 * r.length := by rw [List.length_append]; omega
          have HL2 := hid hlen2
          clear he hes hlen2
          go_wp2
          go_quiet (fail)
          go_wp2_with fail
          refine Calls.mono (HEs.out _) ?_
          rintro x w3 ⟨rfl, hC⟩
          unfold sGood
          have HC := hid hC
          clear hC
          go_wp2
          exact ⟨⟨out ++ s, q', rfl, HC, HT, HL2.out⟩, by rw [HC.out.atOf, hA.out]; have := HC.out.at_; omega⟩
      have i92 : ((c.toNat : Int) == 92) = false := beq_eq_false_iff_ne.2 (by have := toNat_neP h92; simp at this; omega)
      by_cases h128 : c.toNat < 128
      · have HT := hid (show ∃ t', Tx0 (out ++ [c]) t' ∧ trRun t' q = U by obtain ⟨t, h1, ht⟩ := hT.out; obtain ⟨t', g1, g2⟩ := text_one (q := q) h1 h34 h32 h92 h128; exact ⟨t', g1, g2.symm.trans ht⟩)
        have hcv : ∀ n, (convert 66 9 (.slice (some ⟨w2.heap.size, 0, none⟩) 1 1)).run Tryz.prog ((w2.drewN n).alloc (.cells #[.int .u8 (c.toNat : Int)] 5)) = .ok (.string (ofL [c])) ((w2.drewN n).alloc (.cells #[.int .u8 (c.toNat : Int)] 5)) := fun n => conv_new (w2.drewN n) [c] #[.int .u8 (c.toNat : Int)] 1 rfl (by omega) rfl
        have hss := ofL_size [c]
        have hap : ofL out ++ ofL [c] = ofL (out ++ [c]) := ofL_append out [c]
        have hlen2 : (out ++ [c]).length + 4 * q.length ≤ 4 * r.length := by rw [List.length_append]; simp; omega
        have HL2 := hid hlen2
        have ka := HKA.out
        have fa := HKF.out
        generalize hcl2 : ofL [c] = cs at *
        clear hlen2 hcl2
        go_wp2
        go_quiet (fail)
        go_wp2
        exact ⟨⟨out ++ [c], q, rfl, hid (hst2.out _ _), HT, HL2.out⟩, by rw [(hst2.out _ _).atOf, hA.out]; omega⟩
      · have HCh := hid (fun n => character_any B w0 (w2.drewN n) l (c :: q) inn d vi its hl (HI2.out.drewN n))
        have hes := hid (show ∃ t, Tx0 out t ∧ (match charGo [] (c :: q) with | .ok s q' => ∃ t', Tx0 (out ++ s) t' ∧ trRun t (c :: q) = trRun t' q' | .wrong e q' => trRun t (c :: q) = .wrong e q' | .ended => trRun t (c :: q) = .ended) ∧ trRun t (c :: q) = U from by obtain ⟨t, h1, ht⟩ := hT.out; exact ⟨t, h1, char_run out t h1 c (by omega) q, ht⟩)
        cases he : charGo [] (c :: q) with
        | wrong e q' =>
          rw [he] at HCh hes
          have HE := hid (show U = .wrong e q' by obtain ⟨t, _, h1, h2⟩ := hes.out; exact h2.symm.trans h1)
          clear he hes
          go_wp2
          go_quiet (fail)
          go_wp2_with fail
          refine Calls.mono (HCh.out _) ?_
          rintro x w3 ⟨rfl, hC⟩
          unfold sBad
          have HC := hid hC
          clear hC
          go_wp2
          go_ret2
          rw [HE.out]
          exact ⟨rfl, HC.out⟩
        | ended =>
          rw [he] at HCh hes
          have HE := hid (show U = .ended by obtain ⟨t, _, h1, h2⟩ := hes.out; exact h2.symm.trans h1)
          clear he hes
          go_wp2
          go_quiet (fail)
          go_wp2_with fail
          refine Calls.mono (HCh.out _) ?_
          rintro x w3 ⟨rfl, hC⟩
          unfold sBad
          have HC := hid hC
          clear hC
          go_wp2
          go_ret2
          rw [HE.out]
          exact ⟨rfl, HC.out⟩
        | ok s q' =>
          have hsl := charGo_len he
          simp only [List.length_nil, List.length_cons, Nat.zero_add] at hsl
          have hs0 : s ≠ [] := charGo_ne he
          have hs1 : 0 < s.length := List.length_pos_iff.2 hs0
          rw [he] at HCh hes
          have HT := hid (show ∃ t', Tx0 (out ++ s) t' ∧ trRun t' q' = U by obtain ⟨t, _, ⟨t', h1, h2⟩, h3⟩ := hes.out; exact ⟨t', h1, h2.symm.trans h3⟩)
          have hss := ofL_size s
          have hap : ofL out ++ ofL s = ofL (out ++ s) := ofL_append out s
          have hlen2 : (out ++ s).length + 4 * q'.length ≤ 4 * r.length := by rw [List.length_append]; omega
          have HL2 := hid hlen2
          have hql : q'.length ≤ q.length := by omega
          clear he hes hlen2 hs0
          go_wp2
          go_quiet (fail)
          go_wp2_with fail
          refine Calls.mono (HCh.out _) ?_
          rintro x w3 ⟨rfl, hC⟩
          unfold sGood
          have HC := hid hC
          clear hC
          go_wp2
          exact ⟨⟨out ++ s, q', rfl, HC, HT, HL2.out⟩, by rw [HC.out.atOf, hA.out]; have := HC.out.at_; omega⟩
end Go.Proofs.YtmkkibaacclhnaaGreat
