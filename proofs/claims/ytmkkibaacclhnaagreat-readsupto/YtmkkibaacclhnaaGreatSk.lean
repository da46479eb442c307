/-
  A step of the walk, the part named Sk. No theorem of the row.
-/
import Derived.Test.YtmkkibaacclhnaaGreatSj
namespace Go.Proofs.YtmkkibaacclhnaaGreat
open Go.RowKit

theorem suf_pre {l P pre q : List UInt8} (h : P <:+ l) (hP : P = pre ++ q) : l.length - q.length = l.length - P.length + pre.length ∧ (l.take (l.length - P.length + pre.length)).drop (l.length - P.length) = pre := by
  obtain ⟨t, rfl⟩ := h
  subst hP
  have e : (t ++ (pre ++ q)).length - (pre ++ q).length = t.length := by simp
  rw [e]
  constructor
  · simp
    omega
  · rw [show t.length + pre.length = (t ++ pre).length by simp, ← List.append_assoc, List.take_left, List.drop_left]
noncomputable def numR (inn : Nat) : NO → RV
  | .lost q => .wrong 6 q
  | .stop t q => if (tokV t).2 ≠ 0 then .wrong (tokV t).2 q else .ok 0 [⟨3, 0, (tokV t).1, []⟩] q
  | .ended t => if (tokV t).2 = 0 then .ok 0 [⟨3, 0, (tokV t).1, []⟩] [] else .ended (decide ((tokV t).2 = 6 ∧ inn = 0))
theorem numOut_R (inn : Nat) (r : List UInt8) : numOut inn r = numR inn (tkRun t0 r) := by
  unfold numOut
  cases tkRun t0 r <;> rfl
theorem numR_en {inn : Nat} {t : Tk} (h : tokV t = (0, 3)) : numR inn (.ended t) = .ended false := by
  show (if (tokV t).2 = 0 then RV.ok 0 [⟨3, 0, (tokV t).1, []⟩] [] else .ended (decide ((tokV t).2 = 6 ∧ inn = 0))) = _
  rw [h]
  simp
theorem numR_sn {inn : Nat} {t : Tk} {q : List UInt8} (h : tokV t = (0, 3)) : numR inn (.stop t q) = .wrong 3 q := by
  show (if (tokV t).2 ≠ 0 then RV.wrong (tokV t).2 q else .ok 0 [⟨3, 0, (tokV t).1, []⟩] q) = _
  rw [h, if_pos (by decide)]
theorem numR_e6 {inn : Nat} {t : Tk} (h : (tokV t).2 = 6) : numR inn (.ended t) = .ended (decide (inn = 0)) := by
  show (if (tokV t).2 = 0 then RV.ok 0 [⟨3, 0, (tokV t).1, []⟩] [] else .ended (decide ((tokV t).2 = 6 ∧ inn = 0))) = _
  rw [h, if_neg (by decide)]
  simp
theorem numR_s6 {inn : Nat} {t : Tk} {q : List UInt8} (h : (tokV t).2 = 6) : numR inn (.stop t q) = .wrong 6 q := by
  show (if (tokV t).2 ≠ 0 then RV.wrong (tokV t).2 q else .ok 0 [⟨3, 0, (tokV t).1, []⟩] q) = _
  rw [h, if_pos (by decide)]
theorem numR_e0 {inn : Nat} {t : Tk} (h : (tokV t).2 = 0) : numR inn (.ended t) = .ok 0 [⟨3, 0, (tokV t).1, []⟩] [] := if_pos h
theorem numR_s0 {inn : Nat} {t : Tk} {q : List UInt8} (h : (tokV t).2 = 0) : numR inn (.stop t q) = .ok 0 [⟨3, 0, (tokV t).1, []⟩] q := if_neg (by rw [h]; decide)
theorem inn_dec (inn : Nat) : ((inn : Int) == 0) = decide (inn = 0) := by
  by_cases h0 : inn = 0
  · rw [h0]; rfl
  · rw [decide_eq_false h0]
    exact beq_eq_false_iff_ne.2 (by omega)
/-- where a token has ended, or the text -/
def NEnd (B : Nat) (w0 : World) (l P : List UInt8) (inn d : Nat) (vi : Value) (its : List It) (N : NO) (wr : World) : Prop :=
  ∃ pre p' t en, SC B w0 wr l p' inn d vi its 0 en false ∧ P = pre ++ p' ∧ run t0 pre = some t ∧ ((en = true ∧ p' = [] ∧ N = .ended t) ∨ (en = false ∧ p' ≠ [] ∧ N = .stop t p'))
set_option maxRecDepth 100000 in
set_option maxHeartbeats 80000000 in
theorem number_any (B : Nat) (w0 w : World) (l P : List UInt8) (inn d : Nat) (vi : Value) (its : List It) (hl : l.length ≤ 1800000) (hil : its.length ≤ 100000000) (h : SC B w0 w l P inn d vi its 0 false false) :
    Calls Tryz.prog 73 #[.pointer (some ⟨B, 0, none⟩)] w (IPost B w0 l inn d its (numOut inn P)) := by
  obtain ⟨a, n, cap, rfl⟩ := row_shape3 h.oi
  obtain rfl := slice_len h.oi
  obtain ⟨N, hN⟩ : ∃ N, tkRun t0 P = N := ⟨_, rfl⟩
  obtain ⟨V, hV⟩ : ∃ V, numOut inn P = V := ⟨_, rfl⟩
  have HV := hid (show V = numR inn N by rw [← hV, ← hN]; exact numOut_R inn P)
  have HN := hid hN
  rw [hV]
  have hsz := ofL_size l
  have hsP := hid h.suf
  have kP := blk_cell h.blk (show (scCells l (l.length - P.length) inn d (.slice a its.length cap) 0 false false)[1]? = some (.int .i64 ((l.length - P.length : Nat) : Int)) from rfl)
  have hPl := h.at_
  have H := hid h
  obtain ⟨fr, hfr⟩ : ∃ fr, l.length - P.length = fr := ⟨_, rfl⟩
  have hfl : fr + P.length = l.length := by omega
  rw [hfr] at kP
  have HFR := hid hfr
  clear h hN hV hfr hPl
  go_enter Tryz.func73, Tryz.ntmps73
  go_upto_block 0 with fail
  go_cut [3] (fun f wr => f = .int .i64 (fr : Int) ∧ Hid (NEnd B w0 l P inn d (.slice a its.length cap) its N wr))
  case first =>
    go_wp2
    go_loopw [4] (fun g wr => ∃ pre p' t, g = .bool (growB t) ∧ Hid (SC B w0 wr l p' inn d (.slice a its.length cap) its 0 false false) ∧ Hid (P = pre ++ p' ∧ run t0 pre = some t ∧ tkRun t p' = N ∧ PnOk t)) (fun _ wr => l.length - atOf wr B)
    case atStart => exact ⟨[], P, t0, rfl, H, hid ⟨rfl, rfl, HN.out, t0_pn⟩⟩
    case round =>
      clear kP
      obtain ⟨pre, p', t, rfl, hI, hT⟩ := hrel
      cases p' with
      | nil =>
        have HM := hid (more_no B w0 _ l inn d (.slice a its.length cap) its 0 false false hI.out)
        go_wp2_with fail
        refine Calls.mono HM.out ?_
        rintro x w2 ⟨rfl, hC⟩
        have HC := hid hC
        clear hC
        go_wp2
        go_meet
        exact ⟨rfl, hid ⟨pre, [], t, true, HC.out, hT.out.1, hT.out.2.1, .inl ⟨rfl, rfl, hT.out.2.2.1.symm⟩⟩⟩
      | cons x q =>
        have HM := hid (more_yes B w0 _ l x q inn d (.slice a its.length cap) its 0 false false hI.out)
        obtain ⟨hm1, hm2⟩ := suf_mid hsP.out hT.out.1
        rw [HFR.out] at hm1 hm2
        have hA := hid hI.out.atOf
        have hcl : x.toNat < 256 := x.toNat_lt
        go_wp2_with fail
        refine Calls.mono HM.out ?_
        rintro x2 w2 ⟨rfl, hw2⟩
        have hI2 : SC B w0 w2 l (x :: q) inn d (.slice a its.length cap) its 0 false false := hw2 ▸ hI.out.drew
        clear hw2
        have hkl : fr + pre.length < l.length := by have := hI2.at_; have h3 := congrArg List.length hT.out.1; simp at h3; omega
        obtain ⟨hkk, hg⟩ := suf_get hI2.suf
        have k0 := blk_cell hI2.blk (show (scCells l (l.length - (x :: q).length) inn d (.slice a its.length cap) 0 false false)[0]? = some (.string (ofL l)) from rfl)
        have k1 := blk_cell hI2.blk (show (scCells l (l.length - (x :: q).length) inn d (.slice a its.length cap) 0 false false)[1]? = some (.int .i64 ((l.length - (x :: q).length : Nat) : Int)) from rfl)
        have hgc : (ofL l)[l.length - (x :: q).length]'(by rw [hsz]; exact hkk) = x := (ofL_get l _ _).trans hg
        have hex1 : (ofL l).extract fr (fr + pre.length + 1) = ofL (pre ++ [x]) := by rw [ofL_extract, hm2]
        have hst := hid (fun wx (hF : Fr (fun _ => False) w2 wx) => (hI2.same hF).step)
        have hFl := hid (fun wx (hF : Fr (fun _ => False) w2 wx) => fails_any B w0 wx l (x :: q) inn d (.slice a its.length cap) its 0 6 false false (hI2.same hF))
        have hK1 := hid (fun wx (hF : Fr (fun _ => False) w2 wx) => (show wx.cell? ⟨B, 1, none⟩ = some (.int .i64 ((l.length - (x :: q).length : Nat) : Int)) from blk_cell (hI2.same hF).blk rfl))
        have hKf := hid (fun wx (hF : Fr (fun _ => False) w2 wx) => (show wx.frozen? ⟨B, 1, none⟩ = false from blk_free (j := 1) (hI2.same hF).blk))
        have HI2 := hid hI2
        have hkq := suf_pos hI2.suf
        have hps := hm1
        generalize l.length - (x :: q).length = ps at *
        rw [← hps] at hex1
        have hfp : fr ≤ ps := by omega
        have hplen : (pre ++ [x]).length = ps + 1 - fr := by simp; omega
        have z1 : fr ≤ ps + 1 := by omega
        have z2 : ps + 1 ≤ l.length := by omega
        have z3 : (fr : Int) ≤ (ps : Int) + 1 := by omega
        have z4 : (ps : Int) + 1 ≤ (l.length : Int) := by omega
        have hwp : IntKind.i64.wrap ((ps : Int) + 1) = (ps : Int) + 1 := IntWalk.i64_in ((ps : Int) + 1) (by omega)
        have z8 : (0 : Int) ≤ (ps : Int) + 1 := by omega
        have z9 : (0 : Int) ≤ (fr : Int) := by omega
        have z7 : ((ps : Int) + 1).toNat = ps + 1 := by omega
        have hrs := hid (show run t0 (pre ++ [x]) = nxt t x from run_snoc x hT.out.2.1)
        have HPQ := hid (show P = (pre ++ [x]) ++ q by rw [hT.out.1]; simp)
        obtain ⟨px, hpx⟩ : ∃ px, pre ++ [x] = px := ⟨_, rfl⟩
        rw [hpx] at hex1 hplen hrs HPQ
        have HPX := hid hpx
        have hspx := ofL_size px
        have hpl2 : px.length ≤ 1800000 := by omega
        have HCo := hid (fun w => could_any px w (by omega))
        rw [hrs.out] at HCo
        clear hI2 hm1 hm2 hg hps hpx
        cases hn : nxt t x with
        | none =>
          rw [hn] at HCo
          have HE := hid (show N = .stop t (x :: q) by rw [← hT.out.2.2.1, tkRun, hn])
          clear hn
          go_wp2
          go_quiet (fail)
          go_wp2
          go_quiet (fail)
          go_wp2_with fail
          refine Calls.mono (HCo.out _) ?_
          rintro x3 w3 ⟨rfl, hF3⟩
          have hI3 := hid (HI2.out.same (⟨hF3.os, hF3.tape, hF3.output, hF3.size, hF3.block⟩ : Fr (fun _ => False) w2 w3))
          clear hF3
          go_wp2
          go_meet
          exact ⟨rfl, hid ⟨pre, x :: q, t, false, hI3.out, hT.out.1, hT.out.2.1, .inr ⟨rfl, by simp, HE.out⟩⟩⟩
        | some t' =>
          rw [hn] at HCo hrs
          obtain ⟨s1, s2, s3, s4, s5⟩ := num_step hn hT.out.2.2.2
          have HG2 := hid (show (if tokLost t' = true then NO.lost (x :: q) else tkRun t' q) = N by rw [← hT.out.2.2.1, tkRun, hn])
          have HS1 := hid s1
          have HNX := hid hn
          clear hn
          by_cases he : x = 101 ∨ x = 69
          · obtain ⟨hgr, hlo⟩ := s2 he
            have HGR := hid hgr
            have HTK := hid (show tkRun t' q = N by rw [← HG2.out, if_neg (by rw [hlo]; simp)])
            clear s2 s3 s4 s5 hlo hgr
            rcases he with rfl | rfl
            · go_wp2
              go_quiet (fail)
              go_wp2
              go_quiet (fail)
              go_wp2_with fail
              refine Calls.mono (HCo.out _) ?_
              rintro x3 w3 ⟨rfl, hF3⟩
              have HF3 := hid (⟨hF3.os, hF3.tape, hF3.output, hF3.size, hF3.block⟩ : Fr (fun _ => False) w2 w3)
              have m1 := hK1.out w3 HF3.out
              have mf := hKf.out w3 HF3.out
              clear hF3
              go_wp2
              have hS := hst.out _ HF3.out
              exact ⟨⟨px, q, t', by rw [HGR.out], hid hS, hid ⟨HPQ.out, hrs.out, HTK.out, HS1.out⟩⟩, by rw [hS.atOf, hA.out, hkq]; omega⟩
            · go_wp2
              go_quiet (fail)
              go_wp2
              go_quiet (fail)
              go_wp2_with fail
              refine Calls.mono (HCo.out _) ?_
              rintro x3 w3 ⟨rfl, hF3⟩
              have HF3 := hid (⟨hF3.os, hF3.tape, hF3.output, hF3.size, hF3.block⟩ : Fr (fun _ => False) w2 w3)
              have m1 := hK1.out w3 HF3.out
              have mf := hKf.out w3 HF3.out
              clear hF3
              go_wp2
              have hS := hst.out _ HF3.out
              exact ⟨⟨px, q, t', by rw [HGR.out], hid hS, hid ⟨HPQ.out, hrs.out, HTK.out, HS1.out⟩⟩, by rw [hS.atOf, hA.out, hkq]; omega⟩
          have i1 : ((x.toNat : Int) == 101) = false := beq_eq_false_iff_ne.2 (by intro h; exact he (.inl (UInt8.toNat_inj.1 (by simp; omega))))
          have i2 : ((x.toNat : Int) == 69) = false := beq_eq_false_iff_ne.2 (by intro h; exact he (.inr (UInt8.toNat_inj.1 (by simp; omega))))
          cases hgt : growB t with
          | false =>
            obtain ⟨hgr, hlo⟩ := s5 he hgt
            have HGR := hid hgr
            have HTK := hid (show tkRun t' q = N by rw [← HG2.out, if_neg (by rw [hlo]; simp)])
            clear s2 s3 s4 s5 hlo hgr he
            go_wp2
            go_quiet (fail)
            go_wp2
            go_quiet (fail)
            go_wp2_with fail
            refine Calls.mono (HCo.out _) ?_
            rintro x3 w3 ⟨rfl, hF3⟩
            have HF3 := hid (⟨hF3.os, hF3.tape, hF3.output, hF3.size, hF3.block⟩ : Fr (fun _ => False) w2 w3)
            have m1 := hK1.out w3 HF3.out
            have mf := hKf.out w3 HF3.out
            clear hF3
            go_wp2
            have hS := hst.out _ HF3.out
            exact ⟨⟨px, q, t', by rw [HGR.out], hid hS, hid ⟨HPQ.out, hrs.out, HTK.out, HS1.out⟩⟩, by rw [hS.atOf, hA.out, hkq]; omega⟩
          | true =>
            by_cases h45 : x = 45
            · obtain ⟨hgr, hlo⟩ := s3 he hgt h45
              have HGR := hid hgr
              have HTK := hid (show tkRun t' q = N by rw [← HG2.out, if_neg (by rw [hlo]; simp)])
              clear s2 s3 s4 s5 hlo hgr he
              subst h45
              go_wp2
              go_quiet (fail)
              go_wp2
              go_quiet (fail)
              go_wp2_with fail
              refine Calls.mono (HCo.out _) ?_
              rintro x3 w3 ⟨rfl, hF3⟩
              have HF3 := hid (⟨hF3.os, hF3.tape, hF3.output, hF3.size, hF3.block⟩ : Fr (fun _ => False) w2 w3)
              have m1 := hK1.out w3 HF3.out
              have mf := hKf.out w3 HF3.out
              clear hF3
              go_wp2
              have hS := hst.out _ HF3.out
              exact ⟨⟨px, q, t', by rw [HGR.out], hid hS, hid ⟨HPQ.out, hrs.out, HTK.out, HS1.out⟩⟩, by rw [hS.atOf, hA.out, hkq]; omega⟩
            · obtain ⟨hgr, hlo, hs8⟩ := s4 he hgt h45
              have i3 : ((x.toNat : Int) == 45) = false := beq_eq_false_iff_ne.2 (by have := toNat_neP h45; simp at this; omega)
              have HGR := hid hgr
              have HOv := hid (show (someV px && greatV (if t'.st = 7 then px ++ [48] else px)) = tokLost t' by rw [hlo]; exact lost_over w (by omega) hrs.out (by rcases hs8 with h | h; exact .inl h; exact .inr h.1))
              have HSo := hid (fun w => some_any px w (by omega))
              clear s2 s3 s4 s5 hlo hgr he
              by_cases h43 : x = 43
              · have h7 : t'.st = 7 := by
                  rcases hs8 with h | h
                  · exfalso
                    obtain ⟨b1, b2⟩ := nxt_is HNX.out
                    rw [b2, nxtTo_st] at h
                    have := (beh_from (st := t.st) (c := x)).2.2.1 h
                    rw [h43] at this
                    exact absurd this.2.2 (by decide)
                  · exact h.1
                rw [if_pos h7] at HOv
                have hap : ofL px ++ (ByteArray.mk #[48]) = ofL (px ++ [48]) := ofL_append px [48]
                have HGa := hid (fun w => great_any (px ++ [48]) w (by simp; omega))
                generalize px ++ [48] = wh at *
                subst h43
                clear hs8 h45
                cases hsv : someV px with
                | false =>
                  rw [hsv] at HOv HSo
                  have hlo : tokLost t' = false := by rw [← HOv.out]; rfl
                  have HTK := hid (show tkRun t' q = N by rw [← HG2.out, if_neg (by rw [hlo]; simp)])
                  clear hsv hlo HOv
                  go_wp2
                  go_quiet (fail)
                  go_wp2
                  go_quiet (fail)
                  go_wp2_with fail
                  refine Calls.mono (HCo.out _) ?_
                  rintro x3 w3 ⟨rfl, hF3⟩
                  have HF3 := hid (⟨hF3.os, hF3.tape, hF3.output, hF3.size, hF3.block⟩ : Fr (fun _ => False) w2 w3)
                  have m1 := hK1.out w3 HF3.out
                  have mf := hKf.out w3 HF3.out
                  clear hF3
                  go_wp2_with fail
                  refine Calls.mono (HSo.out _) ?_
                  rintro x4 w4 ⟨rfl, rfl⟩
                  go_wp2
                  have hS := hst.out _ HF3.out
                  exact ⟨⟨px, q, t', by rw [HGR.out], hid hS, hid ⟨HPQ.out, hrs.out, HTK.out, HS1.out⟩⟩, by rw [hS.atOf, hA.out]; have := suf_pos hI.out.suf; omega⟩
                | true =>
                  rw [hsv] at HOv HSo
                  cases hgv : greatV wh with
                  | false =>
                    rw [hgv] at HOv HGa
                    have hlo : tokLost t' = false := by rw [← HOv.out]; rfl
                    have HTK := hid (show tkRun t' q = N by rw [← HG2.out, if_neg (by rw [hlo]; simp)])
                    clear hsv hgv hlo HOv
                    go_wp2
                    go_quiet (fail)
                    go_wp2
                    go_quiet (fail)
                    go_wp2_with fail
                    refine Calls.mono (HCo.out _) ?_
                    rintro x3 w3 ⟨rfl, hF3⟩
                    have HF3 := hid (⟨hF3.os, hF3.tape, hF3.output, hF3.size, hF3.block⟩ : Fr (fun _ => False) w2 w3)
                    have m1 := hK1.out w3 HF3.out
                    have mf := hKf.out w3 HF3.out
                    clear hF3
                    go_wp2_with fail
                    refine Calls.mono (HSo.out _) ?_
                    rintro x4 w4 ⟨rfl, rfl⟩
                    go_wp2_with fail
                    refine Calls.mono (HGa.out _) ?_
                    rintro x5 w5 ⟨rfl, hF5⟩
                    have HF5 := hid (HF3.out.trans hF5)
                    have n1 := hK1.out w5 HF5.out
                    have nf := hKf.out w5 HF5.out
                    clear hF5 m1 mf
                    go_wp2
                    have hS := hst.out _ HF5.out
                    exact ⟨⟨px, q, t', by rw [HGR.out], hid hS, hid ⟨HPQ.out, hrs.out, HTK.out, HS1.out⟩⟩, by rw [hS.atOf, hA.out]; have := suf_pos hI.out.suf; omega⟩
                  | true =>
                    rw [hgv] at HOv HGa
                    have HE := hid (show N = .lost (43 :: q) by rw [← HG2.out, if_pos (by rw [← HOv.out]; rfl)])
                    clear hsv hgv HOv
                    go_wp2
                    go_quiet (fail)
                    go_wp2
                    go_quiet (fail)
                    go_wp2_with fail
                    refine Calls.mono (HCo.out _) ?_
                    rintro x3 w3 ⟨rfl, hF3⟩
                    have HF3 := hid (⟨hF3.os, hF3.tape, hF3.output, hF3.size, hF3.block⟩ : Fr (fun _ => False) w2 w3)
                    have m1 := hK1.out w3 HF3.out
                    have mf := hKf.out w3 HF3.out
                    clear hF3
                    go_wp2_with fail
                    refine Calls.mono (HSo.out _) ?_
                    rintro x4 w4 ⟨rfl, rfl⟩
                    go_wp2_with fail
                    refine Calls.mono (HGa.out _) ?_
                    rintro x5 w5 ⟨rfl, hF5⟩
                    have HF5 := hid (HF3.out.trans hF5)
                    clear hF5 m1 mf
                    go_wp2_with fail
                    refine Calls.mono (hFl.out w5 HF5.out) ?_
                    rintro x6 w6 ⟨rfl, hC⟩
                    have HC := hid hC
                    clear hC
                    go_wp2
                    go_ret
                    rw [HV.out, HE.out]
                    exact ⟨rfl, _, [], by rw [List.append_nil]; exact HC.out⟩
              · have i4 : ((x.toNat : Int) == 43) = false := beq_eq_false_iff_ne.2 (by have := toNat_neP h43; simp at this; omega)
                have h7 : ¬ t'.st = 7 := fun h => by
                  rcases hs8 with h8 | h8
                  · omega
                  · exact h43 h8.2
                rw [if_neg h7] at HOv
                have HGa := hid (fun w => great_any px w (by omega))
                clear hs8 h45 h43 h7
                cases hsv : someV px with
                | false =>
                  rw [hsv] at HOv HSo
                  have hlo : tokLost t' = false := by rw [← HOv.out]; rfl
                  have HTK := hid (show tkRun t' q = N by rw [← HG2.out, if_neg (by rw [hlo]; simp)])
                  clear hsv hlo HOv
                  go_wp2
                  go_quiet (fail)
                  go_wp2
                  go_quiet (fail)
                  go_wp2_with fail
                  refine Calls.mono (HCo.out _) ?_
                  rintro x3 w3 ⟨rfl, hF3⟩
                  have HF3 := hid (⟨hF3.os, hF3.tape, hF3.output, hF3.size, hF3.block⟩ : Fr (fun _ => False) w2 w3)
                  have m1 := hK1.out w3 HF3.out
                  have mf := hKf.out w3 HF3.out
                  clear hF3
                  go_wp2_with fail
                  refine Calls.mono (HSo.out _) ?_
                  rintro x4 w4 ⟨rfl, rfl⟩
                  go_wp2
                  have hS := hst.out _ HF3.out
                  exact ⟨⟨px, q, t', by rw [HGR.out], hid hS, hid ⟨HPQ.out, hrs.out, HTK.out, HS1.out⟩⟩, by rw [hS.atOf, hA.out]; have := suf_pos hI.out.suf; omega⟩
                | true =>
                  rw [hsv] at HOv HSo
                  cases hgv : greatV px with
                  | false =>
                    rw [hgv] at HOv HGa
                    have hlo : tokLost t' = false := by rw [← HOv.out]; rfl
                    have HTK := hid (show tkRun t' q = N by rw [← HG2.out, if_neg (by rw [hlo]; simp)])
                    clear hsv hgv hlo HOv
                    go_wp2
                    go_quiet (fail)
                    go_wp2
                    go_quiet (fail)
                    go_wp2_with fail
                    refine Calls.mono (HCo.out _) ?_
                    rintro x3 w3 ⟨rfl, hF3⟩
                    have HF3 := hid (⟨hF3.os, hF3.tape, hF3.output, hF3.size, hF3.block⟩ : Fr (fun _ => False) w2 w3)
                    have m1 := hK1.out w3 HF3.out
                    have mf := hKf.out w3 HF3.out
                    clear hF3
                    go_wp2_with fail
                    refine Calls.mono (HSo.out _) ?_
                    rintro x4 w4 ⟨rfl, rfl⟩
                    go_wp2_with fail
                    refine Calls.mono (HGa.out _) ?_
                    rintro x5 w5 ⟨rfl, hF5⟩
                    have HF5 := hid (HF3.out.trans hF5)
                    have n1 := hK1.out w5 HF5.out
                    have nf := hKf.out w5 HF5.out
                    clear hF5 m1 mf
                    go_wp2
                    have hS := hst.out _ HF5.out
                    exact ⟨⟨px, q, t', by rw [HGR.out], hid hS, hid ⟨HPQ.out, hrs.out, HTK.out, HS1.out⟩⟩, by rw [hS.atOf, hA.out]; have := suf_pos hI.out.suf; omega⟩
                  | true =>
                    rw [hgv] at HOv HGa
                    have HE := hid (show N = .lost (x :: q) by rw [← HG2.out, if_pos (by rw [← HOv.out]; rfl)])
                    clear hsv hgv HOv
                    go_wp2
                    go_quiet (fail)
                    go_wp2
                    go_quiet (fail)
                    go_wp2_with fail
                    refine Calls.mono (HCo.out _) ?_
                    rintro x3 w3 ⟨rfl, hF3⟩
                    have HF3 := hid (⟨hF3.os, hF3.tape, hF3.output, hF3.size, hF3.block⟩ : Fr (fun _ => False) w2 w3)
                    have m1 := hK1.out w3 HF3.out
                    have mf := hKf.out w3 HF3.out
                    clear hF3
                    go_wp2_with fail
                    refine Calls.mono (HSo.out _) ?_
                    rintro x4 w4 ⟨rfl, rfl⟩
                    go_wp2_with fail
                    refine Calls.mono (HGa.out _) ?_
                    rintro x5 w5 ⟨rfl, hF5⟩
                    have HF5 := hid (HF3.out.trans hF5)
                    clear hF5 m1 mf
                    go_wp2_with fail
                    refine Calls.mono (hFl.out w5 HF5.out) ?_
                    rintro x6 w6 ⟨rfl, hC⟩
                    have HC := hid hC
                    clear hC
                    go_wp2
                    go_ret
                    rw [HV.out, HE.out]
                    exact ⟨rfl, _, [], by rw [List.append_nil]; exact HC.out⟩
  case rest =>
    obtain ⟨rfl, hcut⟩ := hcut
    obtain ⟨pre, p', t, en, hC, hPP, hr, hor⟩ := hcut.out
    clear kP
    obtain ⟨hm1, hm2⟩ := suf_pre hsP.out hPP
    rw [HFR.out] at hm1 hm2
    have hp1 := congrArg List.length hPP
    rw [List.length_append] at hp1
    have k0 := blk_cell hC.blk (show (scCells l (l.length - p'.length) inn d (.slice a its.length cap) 0 en false)[0]? = some (.string (ofL l)) from rfl)
    have k1 := blk_cell hC.blk (show (scCells l (l.length - p'.length) inn d (.slice a its.length cap) 0 en false)[1]? = some (.int .i64 ((l.length - p'.length : Nat) : Int)) from rfl)
    rw [hm1] at k1
    have hex1 : (ofL l).extract fr (fr + pre.length) = ofL pre := by rw [ofL_extract, hm2]
    obtain ⟨ps, hps⟩ : ∃ ps, fr + pre.length = ps := ⟨_, rfl⟩
    rw [hps] at k1 hex1
    have z1 : fr ≤ ps := by omega
    have z2 : ps ≤ l.length := by omega
    have z3 : (fr : Int) ≤ (ps : Int) := by omega
    have z4 : (ps : Int) ≤ (l.length : Int) := by omega
    have hpl : pre.length ≤ 1800000 := by omega
    have hCF := hid (fun wx (hF : Fr (fun _ => False) wc wx) => hC.same hF)
    have HSd := hid (fun w => said_any pre w (by omega))
    have HGa := hid (fun w => great_any pre w (by omega))
    have HPa := hid (fun w => rparse_any pre w (by omega))
    have HR := hid hr
    have hgt := great_tok hr
    clear hPP hm1 hm2 hp1 hps hr hC
    cases hc : cutL pre with
    | none =>
      have HTV := hid (show tokV t = (0, 3) from tokV_no (cut_none hc HR.out))
      have hg0 : greatV pre = false := great_none hc
      rw [hg0] at HGa
      have HC := hid hc
      clear hg0 hgt HPa hc
      rcases hor with ⟨rfl, rfl, hN2⟩ | ⟨rfl, hne, hN2⟩
      · have HN2 := hid hN2
        clear hN2
        go_wp2
        go_quiet (fail)
        go_wp2_with fail
        refine Calls.mono (HSd.out _) ?_
        rintro x1 w1 ⟨⟨hp1, hp2⟩, hF1⟩
        have F1 := hid (⟨hF1.os, hF1.tape, hF1.output, hF1.size, hF1.block⟩ : Fr (fun _ => False) wc w1)
        obtain ⟨mm, D, X, rfl⟩ := hp2 HC.out
        clear hp1 hp2 hF1
        go_wp2_with fail
        refine Calls.mono (HGa.out _) ?_
        rintro x2 w2 ⟨rfl, hF2⟩
        have hS2 := hCF.out w2 ((F1.out.alloc _).trans hF2)
        have e6 := blk_cell hS2.blk (show (scCells l (l.length - ([] : List UInt8).length) inn d (.slice a its.length cap) 0 true false)[6]? = some (.bool true) from rfl)
        have e2 := blk_cell hS2.blk (show (scCells l (l.length - ([] : List UInt8).length) inn d (.slice a its.length cap) 0 true false)[2]? = some (.int .i64 (inn : Int)) from rfl)
        have e7 := blk_cell hS2.blk (show (scCells l (l.length - ([] : List UInt8).length) inn d (.slice a its.length cap) 0 true false)[7]? = some (.bool false) from rfl)
        have g7 := blk_free (j := 7) hS2.blk
        have g6 := blk_free (j := 6) hS2.blk
        have HS2 := hid hS2
        clear hF2 hS2
        go_wp2
        go_ret
        rw [HV.out, HN2.out, numR_en HTV.out]
        exact ⟨rfl, _, [], by rw [List.append_nil]; exact HS2.out⟩
      · have HN2 := hid hN2
        clear hN2 hne
        go_wp2
        go_quiet (fail)
        go_wp2_with fail
        refine Calls.mono (HSd.out _) ?_
        rintro x1 w1 ⟨⟨hp1, hp2⟩, hF1⟩
        have F1 := hid (⟨hF1.os, hF1.tape, hF1.output, hF1.size, hF1.block⟩ : Fr (fun _ => False) wc w1)
        obtain ⟨mm, D, X, rfl⟩ := hp2 HC.out
        clear hp1 hp2 hF1
        go_wp2_with fail
        refine Calls.mono (HGa.out _) ?_
        rintro x2 w2 ⟨rfl, hF2⟩
        have hS2 := hCF.out w2 ((F1.out.alloc _).trans hF2)
        have e6 := blk_cell hS2.blk (show (scCells l (l.length - p'.length) inn d (.slice a its.length cap) 0 false false)[6]? = some (.bool false) from rfl)
        have e2 := blk_cell hS2.blk (show (scCells l (l.length - p'.length) inn d (.slice a its.length cap) 0 false false)[2]? = some (.int .i64 (inn : Int)) from rfl)
        have e7 := blk_cell hS2.blk (show (scCells l (l.length - p'.length) inn d (.slice a its.length cap) 0 false false)[7]? = some (.bool false) from rfl)
        have g7 := blk_free (j := 7) hS2.blk
        have g6 := blk_free (j := 6) hS2.blk
        have HFl := hid (fails_any B w0 w2 l p' inn d (.slice a its.length cap) its 0 3 false false hS2)
        clear hF2 hS2
        go_wp2_with fail
        refine Calls.mono HFl.out ?_
        rintro x3 w3 ⟨rfl, hC3⟩
        have HC3 := hid hC3
        clear hC3
        go_wp2
        go_ret
        rw [HV.out, HN2.out, numR_sn HTV.out]
        exact ⟨rfl, _, [], by rw [List.append_nil]; exact HC3.out⟩
    | some xx =>
      obtain ⟨neg, wh, fr2, en2, ex⟩ := xx
      have HC := hid hc
      have hE : Ends t.st := by
        obtain ⟨t', r', h1, h2, _⟩ := near_link w (by omega) hc
        rw [HR.out] at h1
        cases h1
        exact h2
      clear hc
      cases hgv : greatV pre with
      | true =>
        have HTV := hid (show (tokV t).2 = 6 from of_decide_eq_true (hgt.symm.trans hgv))
        rw [hgv] at HGa
        clear hgv hgt HPa hE
        rcases hor with ⟨rfl, rfl, hN2⟩ | ⟨rfl, hne, hN2⟩
        · have HN2 := hid hN2
          clear hN2
          have HD := hid (inn_dec inn)
          go_wp2
          go_quiet (fail)
          go_wp2_with fail
          refine Calls.mono (HSd.out _) ?_
          rintro x1 w1 ⟨⟨hp1, hp2⟩, hF1⟩
          have F1 := hid (⟨hF1.os, hF1.tape, hF1.output, hF1.size, hF1.block⟩ : Fr (fun _ => False) wc w1)
          obtain rfl := hp1 _ _ _ _ _ HC.out
          clear hp1 hp2 hF1
          have hX : saidV neg wh fr2 en2 ex = .agg #[.bool neg, .string (ofL (wh ++ fr2)), .int .i64 (clampX fr2 en2 ex)] := rfl
          rw [hX]
          generalize clampX fr2 en2 ex = XX at *
          clear hX
          go_wp2_with fail
          refine Calls.mono (HGa.out _) ?_
          rintro x2 w2 ⟨rfl, hF2⟩
          have hS2 := hCF.out w2 ((F1.out.alloc _).trans hF2)
          have e6 := blk_cell hS2.blk (show (scCells l (l.length - ([] : List UInt8).length) inn d (.slice a its.length cap) 0 true false)[6]? = some (.bool true) from rfl)
          have e2 := blk_cell hS2.blk (show (scCells l (l.length - ([] : List UInt8).length) inn d (.slice a its.length cap) 0 true false)[2]? = some (.int .i64 (inn : Int)) from rfl)
          have e7 := blk_cell hS2.blk (show (scCells l (l.length - ([] : List UInt8).length) inn d (.slice a its.length cap) 0 true false)[7]? = some (.bool false) from rfl)
          have g7 := blk_free (j := 7) hS2.blk
          have g6 := blk_free (j := 6) hS2.blk
          have HS2 := hid (hS2.cell 7 (.bool ((inn : Int) == 0)) (p' := []) (inn' := inn) (e' := 0) (en' := true) (la' := ((inn : Int) == 0)) hS2.suf rfl)
          clear hF2 hS2
          go_wp2
          go_ret
          rw [HV.out, HN2.out, numR_e6 HTV.out, ← HD.out]
          exact ⟨rfl, _, [], by rw [List.append_nil]; exact HS2.out⟩
        · have HN2 := hid hN2
          clear hN2 hne
          go_wp2
          go_quiet (fail)
          go_wp2_with fail
          refine Calls.mono (HSd.out _) ?_
          rintro x1 w1 ⟨⟨hp1, hp2⟩, hF1⟩
          have F1 := hid (⟨hF1.os, hF1.tape, hF1.output, hF1.size, hF1.block⟩ : Fr (fun _ => False) wc w1)
          obtain rfl := hp1 _ _ _ _ _ HC.out
          clear hp1 hp2 hF1
          have hX : saidV neg wh fr2 en2 ex = .agg #[.bool neg, .string (ofL (wh ++ fr2)), .int .i64 (clampX fr2 en2 ex)] := rfl
          rw [hX]
          generalize clampX fr2 en2 ex = XX at *
          clear hX
          go_wp2_with fail
          refine Calls.mono (HGa.out _) ?_
          rintro x2 w2 ⟨rfl, hF2⟩
          have hS2 := hCF.out w2 ((F1.out.alloc _).trans hF2)
          have e6 := blk_cell hS2.blk (show (scCells l (l.length - p'.length) inn d (.slice a its.length cap) 0 false false)[6]? = some (.bool false) from rfl)
          have e2 := blk_cell hS2.blk (show (scCells l (l.length - p'.length) inn d (.slice a its.length cap) 0 false false)[2]? = some (.int .i64 (inn : Int)) from rfl)
          have e7 := blk_cell hS2.blk (show (scCells l (l.length - p'.length) inn d (.slice a its.length cap) 0 false false)[7]? = some (.bool false) from rfl)
          have g7 := blk_free (j := 7) hS2.blk
          have g6 := blk_free (j := 6) hS2.blk
          have HFl := hid (fails_any B w0 w2 l p' inn d (.slice a its.length cap) its 0 6 false false hS2)
          clear hF2 hS2
          go_wp2_with fail
          refine Calls.mono HFl.out ?_
          rintro x3 w3 ⟨rfl, hC3⟩
          have HC3 := hid hC3
          clear hC3
          go_wp2
          go_ret
          rw [HV.out, HN2.out, numR_s6 HTV.out]
          exact ⟨rfl, _, [], by rw [List.append_nil]; exact HC3.out⟩
      | false =>
        have HT6 := hid (show (tokV t).2 ≠ 6 from of_decide_eq_false (hgt.symm.trans hgv))
        rw [hgv] at HGa
        have HEe := hid hE
        clear hgv hgt hE
        obtain ⟨i0, hi, hz0, hz1, hz2⟩ := info_parts Tryz.info59
        rcases hor with ⟨rfl, rfl, hN2⟩ | ⟨rfl, hne, hN2⟩
        · have HN2 := hid hN2
          clear hN2
          go_wp2
          go_quiet (fail)
          go_wp2_with fail
          refine Calls.mono (HSd.out _) ?_
          rintro x1 w1 ⟨⟨hp1, hp2⟩, hF1⟩
          have F1 := hid (⟨hF1.os, hF1.tape, hF1.output, hF1.size, hF1.block⟩ : Fr (fun _ => False) wc w1)
          obtain rfl := hp1 _ _ _ _ _ HC.out
          clear hp1 hp2 hF1
          have hX : saidV neg wh fr2 en2 ex = .agg #[.bool neg, .string (ofL (wh ++ fr2)), .int .i64 (clampX fr2 en2 ex)] := rfl
          rw [hX]
          generalize clampX fr2 en2 ex = XX at *
          clear hX
          go_wp2_with fail
          refine Calls.mono (HGa.out _) ?_
          rintro x2 w2 ⟨rfl, hF2⟩
          have hS2 := hCF.out w2 ((F1.out.alloc _).trans hF2)
          have HS2 := hid hS2
          have HF2 := hid ((F1.out.alloc _).trans hF2)
          clear hF2 hS2
          go_wp2_with fail
          refine Calls.mono (HPa.out _) ?_
          rintro x3 w3 ⟨hpp, hF3⟩
          have hS3 := HS2.out.same hF3
          rcases hpp with ⟨hbad, _⟩ | ⟨neg3, wh3, fr3, en3, ex3, r3, hc3, hn3, rfl⟩
          · rw [HC.out] at hbad
            cases hbad
          have hv3 := tok_cut w (by omega) HR.out hc3 hn3
          have HT0 := hid (show (tokV t).2 = 0 by
            have h6 := HT6.out
            rw [hv3.2] at h6 ⊢
            exact (parseV_err _ _).2.2 (fun hh => h6 ((parseV_err _ _).1.2 hh)))
          have HOK := hid (numR_e0 (inn := inn) (t := t) HT0.out)
          rw [← hv3.2]
          generalize hb : (tokV t).1 = b at *
          generalize (tokV t).2 = b2 at *
          have oi3 := hS3.oi
          have e4 := blk_cell hS3.blk (show (scCells l (l.length - ([] : List UInt8).length) inn d (.slice a its.length cap) 0 true false)[4]? = some (.slice a its.length cap) from rfl)
          have g4 := blk_free (j := 4) hS3.blk
          have HS3 := hid hS3
          clear hF3 hc3 hn3 hv3 hb hS3
          go_wp2_with (first
            | (at_builtin; refine wpList_append_d _ rfl _ _ 52 rfl 59 i0 (.agg #[.int .i64 0, .int .i64 0, .int .u64 0, .string ⟨#[]⟩]) 4 40 Tryz.underlying52 hi hz0 hz1 hz2 rfl (by decide) _ _ _ rfl (oi3.alloc _) ⟨w3.heap.size, 0, none⟩ 1 1 (itCells ⟨3, 0, b, []⟩) rfl rfl ?c1 ?c2 ?c3 ?c4 ?_)
            | fail)
          case c1 => exact four_new _ _ _ _ _ _
          case c2 => intro u hu; simp [itCells] at hu; rcases hu with rfl | rfl | rfl | rfl <;> rfl
          case c3 => unfold maxLen; omega
          case c4 => omega
          intro v' w4 hown' hgrow hnew
          obtain ⟨a', n', cap', rfl⟩ := row_shape3 hown'
          obtain ⟨hh1, hR4⟩ := HS3.out.growI ⟨3, 0, b, []⟩ hown' hgrow hnew
          have q4 := blk_cell hh1 (show (scCells l (l.length - ([] : List UInt8).length) inn d (.slice a its.length cap) 0 true false)[4]? = some (.slice a its.length cap) from rfl)
          have p4 := blk_free (j := 4) hh1
          have q6 := blk_cell hR4.blk (show (scCells l (l.length - ([] : List UInt8).length) inn d (.slice a' n' cap') 0 true false)[6]? = some (.bool true) from rfl)
          have p6 := blk_free (j := 6) hR4.blk
          have HR4 := hid (hR4.cell 6 (.bool false) (p' := []) (inn' := inn) (e' := 0) (en' := false) (la' := false) hR4.suf rfl)
          clear hown' hgrow hnew hh1 hR4 oi3 e4 g4
          go_wp2
          go_ret
          rw [HV.out, HN2.out, HOK.out]
          exact ⟨rfl, _, HR4.out⟩
        · have HN2 := hid hN2
          clear hN2 hne
          go_wp2
          go_quiet (fail)
          go_wp2_with fail
          refine Calls.mono (HSd.out _) ?_
          rintro x1 w1 ⟨⟨hp1, hp2⟩, hF1⟩
          have F1 := hid (⟨hF1.os, hF1.tape, hF1.output, hF1.size, hF1.block⟩ : Fr (fun _ => False) wc w1)
          obtain rfl := hp1 _ _ _ _ _ HC.out
          clear hp1 hp2 hF1
          have hX : saidV neg wh fr2 en2 ex = .agg #[.bool neg, .string (ofL (wh ++ fr2)), .int .i64 (clampX fr2 en2 ex)] := rfl
          rw [hX]
          generalize clampX fr2 en2 ex = XX at *
          clear hX
          go_wp2_with fail
          refine Calls.mono (HGa.out _) ?_
          rintro x2 w2 ⟨rfl, hF2⟩
          have hS2 := hCF.out w2 ((F1.out.alloc _).trans hF2)
          have HS2 := hid hS2
          have HF2 := hid ((F1.out.alloc _).trans hF2)
          clear hF2 hS2
          go_wp2_with fail
          refine Calls.mono (HPa.out _) ?_
          rintro x3 w3 ⟨hpp, hF3⟩
          have hS3 := HS2.out.same hF3
          rcases hpp with ⟨hbad, _⟩ | ⟨neg3, wh3, fr3, en3, ex3, r3, hc3, hn3, rfl⟩
          · rw [HC.out] at hbad
            cases hbad
          have hv3 := tok_cut w (by omega) HR.out hc3 hn3
          have HT0 := hid (show (tokV t).2 = 0 by
            have h6 := HT6.out
            rw [hv3.2] at h6 ⊢
            exact (parseV_err _ _).2.2 (fun hh => h6 ((parseV_err _ _).1.2 hh)))
          have HOK := hid (numR_s0 (inn := inn) (t := t) (q := p') HT0.out)
          rw [← hv3.2]
          generalize hb : (tokV t).1 = b at *
          generalize (tokV t).2 = b2 at *
          have oi3 := hS3.oi
          have e4 := blk_cell hS3.blk (show (scCells l (l.length - p'.length) inn d (.slice a its.length cap) 0 false false)[4]? = some (.slice a its.length cap) from rfl)
          have g4 := blk_free (j := 4) hS3.blk
          have HS3 := hid hS3
          clear hF3 hc3 hn3 hv3 hb hS3
          go_wp2_with (first
            | (at_builtin; refine wpList_append_d _ rfl _ _ 52 rfl 59 i0 (.agg #[.int .i64 0, .int .i64 0, .int .u64 0, .string ⟨#[]⟩]) 4 40 Tryz.underlying52 hi hz0 hz1 hz2 rfl (by decide) _ _ _ rfl (oi3.alloc _) ⟨w3.heap.size, 0, none⟩ 1 1 (itCells ⟨3, 0, b, []⟩) rfl rfl ?c1 ?c2 ?c3 ?c4 ?_)
            | fail)
          case c1 => exact four_new _ _ _ _ _ _
          case c2 => intro u hu; simp [itCells] at hu; rcases hu with rfl | rfl | rfl | rfl <;> rfl
          case c3 => unfold maxLen; omega
          case c4 => omega
          intro v' w4 hown' hgrow hnew
          obtain ⟨a', n', cap', rfl⟩ := row_shape3 hown'
          obtain ⟨hh1, hR4⟩ := HS3.out.growI ⟨3, 0, b, []⟩ hown' hgrow hnew
          have q4 := blk_cell hh1 (show (scCells l (l.length - p'.length) inn d (.slice a its.length cap) 0 false false)[4]? = some (.slice a its.length cap) from rfl)
          have p4 := blk_free (j := 4) hh1
          have q6 := blk_cell hR4.blk (show (scCells l (l.length - p'.length) inn d (.slice a' n' cap') 0 false false)[6]? = some (.bool false) from rfl)
          have p6 := blk_free (j := 6) hR4.blk
          have HR4 := hid (hR4.cell 6 (.bool false) (p' := p') (inn' := inn) (e' := 0) (en' := false) (la' := false) hR4.suf rfl)
          clear hown' hgrow hnew hh1 hR4 oi3 e4 g4
          go_wp2
          go_ret
          rw [HV.out, HN2.out, HOK.out]
          exact ⟨rfl, _, HR4.out⟩
end Go.Proofs.YtmkkibaacclhnaaGreat
