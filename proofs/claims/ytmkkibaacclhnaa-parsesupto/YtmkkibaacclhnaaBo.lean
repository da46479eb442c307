/-
  A step of the walk of the numbers, the part named Bo: what a text says, by the document's answer. No theorem of the row.
-/
import Derived.Test.YtmkkibaacclhnaaBnb
namespace Go.Proofs.Ytmkkibaacclhnaa
open Go.RowKit

set_option maxRecDepth 100000 in
set_option maxHeartbeats 8000000 in
theorem said_any (l : List UInt8) (w : World) (hl : l.length ≤ 4000000) :
    Calls Try.prog 32 #[.string (ofL l)] w fun e w' => SaidPost l e ∧ Fr (fun _ => False) w w' := by
  have hsz := ofL_size l
  go_enter Try.func32, Try.ntmps32
  go_upto_region 1 with fail
  go_cut [4] (fun tp wc => tp = .pointer (some ⟨w.heap.size + 1, 0, none⟩) ∧ wc = SaidW w (cutP 45 l).2 [] 0)
  case first =>
    by_cases hp : 0 < l.length
    · have hne : (ofL l).toList.isEmpty = false := by rw [ofL_toList]; cases l with | nil => simp at hp | cons => rfl
      have hg : (ofL l)[0]'(by omega) = l[0] := ofL_get l 0 _
      have hh : l.head? = some l[0] := by cases l with | nil => simp at hp | cons => rfl
      by_cases h45 : l[0] = 45
      · have hx : ((l[0].toNat : Int) == 45) = true := by rw [h45]; rfl
        have HR := hid (show (cutP 45 l).2 = true from by rw [cutP, if_pos (by rw [hh, h45])])
        clear h45 hh
        go_wp2
        go_meet
        exact ⟨rfl, by rw [HR.out]; rfl⟩
      · have hx : ((l[0].toNat : Int) == 45) = false := beq_eq_false_iff_ne.2 (by have := toNat_ne h45; simp at this; omega)
        have HR := hid (show (cutP 45 l).2 = false from by rw [cutP, if_neg (by rw [hh]; simpa using h45)])
        clear h45 hh
        go_wp2
        go_meet
        exact ⟨rfl, by rw [HR.out]; rfl⟩
    · have hl0 : l = [] := List.eq_nil_of_length_eq_zero (by omega)
      subst hl0
      have hne : (ofL []).toList.isEmpty = true := by rw [ofL_toList]; rfl
      go_wp2
      go_meet
      exact ⟨rfl, rfl⟩
  case rest =>
    obtain ⟨rfl, rfl⟩ := hcut
    have hdc := drop_cut l
    obtain ⟨m, hm⟩ : ∃ m, (cutP 45 l).2 = m := ⟨_, rfl⟩
    obtain ⟨r0, hr0⟩ : ∃ r0, (cutP 45 l).1 = r0 := ⟨_, rfl⟩
    obtain ⟨p, hp⟩ : ∃ p : Nat, (if m = true then 1 else 0) = p := ⟨_, rfl⟩
    rw [hm, hr0, hp] at hdc
    rw [hm]
    have hp1 : p ≤ 1 := by rw [← hp]; split <;> omega
    have hpl : p ≤ l.length := by
      rcases Nat.lt_or_ge l.length p with h | h
      · exfalso
        have hp' : p = 1 := by omega
        have hl0 : l = [] := List.eq_nil_of_length_eq_zero (by omega)
        rw [hl0] at hm
        have : m = false := by rw [← hm]; rfl
        rw [this] at hp
        simp at hp; omega
      · exact h
    have HP := hid hp
    have HM := hid hm
    have HR0 := hid hr0
    have HDC := hid hdc
    clear hm hr0 hp hdc
    simp only [SaidW]
    go_upto_if 19 with fail
    go_cut [5] (fun at' wc => at' = .int .i64 (p : Int) ∧ wc = SaidW w m [] 0)
    case first =>
      cases m
      · have hp0 : p = 0 := by have := HP.out; simpa using this.symm
        subst hp0
        go_wp2
        go_meet
        exact ⟨rfl, rfl⟩
      · have hp0 : p = 1 := by have := HP.out; simpa using this.symm
        subst hp0
        go_wp2
        go_meet
        exact ⟨rfl, rfl⟩
    case rest =>
      obtain ⟨rfl, rfl⟩ := hcut
      -- the whole part
      obtain ⟨wh, hwh⟩ : ∃ wh, r0.takeWhile isD = wh := ⟨_, rfl⟩
      obtain ⟨r1, hr1⟩ : ∃ r1, r0.dropWhile isD = r1 := ⟨_, rfl⟩
      have hsplit : wh ++ r1 = r0 := by rw [← hwh, ← hr1]; exact List.takeWhile_append_dropWhile
      have hlr : l.length - p = r0.length := by have := congrArg List.length HDC.out; rwa [List.length_drop] at this
      have hget : ∀ j (hj : j < r0.length), l[p + j]'(Nat.add_lt_of_lt_sub' (hlr ▸ hj)) = r0[j] := by
        intro j hj
        have := HDC.out
        subst this
        simp
      have hde : dend l p = p + wh.length := by unfold dend; rw [HDC.out, hwh]
      have hcut1 : cutL l = cutL1 m wh r1 := by unfold cutL; rw [HM.out, HR0.out, hwh, hr1]
      have hlen : l.length = p + (wh.length + r1.length) := by
        have := congrArg List.length HDC.out
        rw [List.length_drop, ← hsplit, List.length_append] at this
        omega
      have hAw : AllD wh := by rw [← hwh]; intro c hc; exact List.all_eq_true.1 List.all_takeWhile c hc
      have HG := hid hget
      have HC1 := hid hcut1
      have HS := hid hsplit
      have HNR := hid (show NoD r1 by rw [← hr1]; exact dropWhile_noD _)
      clear hget hcut1 hsplit hwh hr1 HR0 HM HP
      go_wp2_with fail
      refine (rdigits_any l p _ (by omega) hpl).mono ?_
      rintro e w1 ⟨rfl, rfl⟩
      rw [hde]
      clear hde
      simp only [SaidW]
      have HF0 := hid (show Fr (fun _ => False) w ((w.alloc (.cells #[.bool false, .string ⟨#[]⟩, .int .i64 0] 60)).alloc (.cells #[.bool m, .string (ofL []), .int .i64 0] 60)) from ((Fr.refl _ w).alloc _).alloc _)
      cases wh with
      | nil =>
        have HN := hid (show cutL l = none from HC1.out.trans (if_pos (.inl rfl)))
        simp only [List.length_nil, Nat.add_zero]
        go_wp2
        have hW := (Below.heap_alloc (w.alloc (.cells #[.bool m, .string (ofL []), .int .i64 0] 60)) (.cells #[.bool m, .string (ofL []), .int .i64 0] 60) w.heap.size (by simp)).trans (heap_alloc_new w (.cells #[.bool m, .string (ofL []), .int .i64 0] 60))
        have e0 := three_cell0 hW
        have e1 := three_cell1 hW
        have e2 := three_cell2 hW
        refine bodyPost_ret (v := .tuple #[.agg #[.bool m, .string (ofL []), .int .i64 0], .bool false]) (by simp [results, Try.results32, go_sem, e0, e1, e2]) rfl ?_
        exact ⟨⟨fun _ _ _ _ _ h => (by rw [HN.out] at h; cases h), fun _ => ⟨_, _, _, rfl⟩⟩, ((Fr.refl _ w).alloc _).alloc _⟩
      | cons c t =>
        have hr0 := HS.out
        have hrl : 0 < r0.length := by rw [← hr0]; simp
        have hlen2 : l.length = p + (t.length + 1 + r1.length) := by rw [hlen]; simp
        have HLEN := hid hlen
        clear hlen
        have hpk : p < l.length := by omega
        have hgp : (ofL l)[p]'(by rw [hsz]; exact hpk) = c := by
          rw [ofL_get]
          have := HG.out 0 hrl
          simp only [Nat.add_zero] at this
          rw [this]
          subst hr0
          rfl
        clear hr0
        simp only [List.length_cons]
        go_upto_region 6 with fail
        go_cut [37] (fun b wc => b = .bool (decide (c = 48 ∧ t ≠ [])) ∧ wc = ((w.alloc (.cells #[.bool false, .string ⟨#[]⟩, .int .i64 0] 60)).alloc (.cells #[.bool m, .string (ofL []), .int .i64 0] 60)))
        case first =>
          by_cases hc : c = 48
          · have hx : ((c.toNat : Int) == 48) = true := by rw [hc]; rfl
            cases t with
            | nil =>
              have HB := hid (show decide (c = 48 ∧ ([] : List UInt8) ≠ []) = false by simp)
              simp only [List.length_nil, Nat.zero_add] at *
              have hpe : ((p : Int) + 1 == (p : Int)) = false := beq_eq_false_iff_ne.2 (by omega)
              clear hc
              go_wp2
              go_meet
              exact ⟨by rw [HB.out], rfl⟩
            | cons d t =>
              have HB := hid (show decide (c = 48 ∧ d :: t ≠ []) = true by simp [hc])
              simp only [List.length_cons] at *
              have hpe : ((p : Int) + ((t.length : Int) + 1 + 1) == (p : Int)) = false := beq_eq_false_iff_ne.2 (by omega)
              clear hc
              go_wp2
              go_meet
              refine ⟨?_, rfl⟩
              rw [HB.out]
              congr 1
              exact decide_eq_true (by omega)
          · have hx : ((c.toNat : Int) == 48) = false := beq_eq_false_iff_ne.2 (by have := toNat_ne hc; simp at this; omega)
            have HB := hid (show decide (c = 48 ∧ t ≠ []) = false by simp [hc])
            have hpe : ((p : Int) + ((t.length : Int) + 1) == (p : Int)) = false := beq_eq_false_iff_ne.2 (by omega)
            clear hc
            go_wp2
            go_meet
            exact ⟨by rw [HB.out], rfl⟩
        case rest =>
          obtain ⟨rfl, rfl⟩ := hcut
          by_cases hbad : c = 48 ∧ t ≠ []
          · have HN := hid (show cutL l = none from HC1.out.trans (if_pos (.inr ⟨by rw [hbad.1]; rfl, by
              have := hbad.2
              cases t with
              | nil => exact absurd rfl this
              | cons => simp⟩)))
            rw [decide_eq_true hbad]
            clear hbad
            go_wp2
            have hW := (Below.heap_alloc (w.alloc (.cells #[.bool m, .string (ofL []), .int .i64 0] 60)) (.cells #[.bool m, .string (ofL []), .int .i64 0] 60) w.heap.size (by simp)).trans (heap_alloc_new w (.cells #[.bool m, .string (ofL []), .int .i64 0] 60))
            have e0 := three_cell0 hW
            have e1 := three_cell1 hW
            have e2 := three_cell2 hW
            refine bodyPost_ret (v := .tuple #[.agg #[.bool m, .string (ofL []), .int .i64 0], .bool false]) (by simp [results, Try.results32, go_sem, e0, e1, e2]) rfl ?_
            exact ⟨⟨fun _ _ _ _ _ h => (by rw [HN.out] at h; cases h), fun _ => ⟨_, _, _, rfl⟩⟩, ((Fr.refl _ w).alloc _).alloc _⟩
          · have HC2 := hid (show cutL l = cutL2 m (c :: t) r1 from HC1.out.trans (if_neg (by
              rintro (h | ⟨h1, h2⟩)
              · cases h
              · apply hbad
                simp at h1
                refine ⟨h1, ?_⟩
                rintro rfl
                simp at h2)))
            rw [decide_eq_false hbad]
            have hex : (ofL l).extract p (p + (t.length + 1)) = ofL (c :: t) := by
              rw [ofL_extract, List.drop_take, HDC.out, ← HS.out]
              simp
            clear hbad HC1
            go_upto_region 9 with fail
            go_cut [53] (fun b wc => b = .bool (decide (r1.head? = some 46)) ∧ wc = ((w.alloc (.cells #[.bool false, .string ⟨#[]⟩, .int .i64 0] 60)).alloc (.cells #[.bool m, .string (ofL (c :: t)), .int .i64 0] 60)))
            case first =>
              cases r1 with
              | nil =>
                have hle : l.length = p + (t.length + 1) := by simpa using hlen2
                clear hlen2
                go_wp2
                go_meet
                exact ⟨rfl, rfl⟩
              | cons x r2 =>
                have hlen3 : l.length = p + (t.length + 1 + (r2.length + 1)) := by simpa using hlen2
                clear hlen2
                have hltl : p + (t.length + 1) < l.length := by omega
                have hge : (ofL l)[p + (t.length + 1)]'(by rw [hsz]; exact hltl) = x := by
                  rw [ofL_get]
                  have := HG.out (t.length + 1) (by rw [← HS.out]; simp)
                  rw [this]
                  simp [← HS.out]
                by_cases h46 : x = 46
                · have hx : ((x.toNat : Int) == 46) = true := by rw [h46]; rfl
                  have HB := hid (show decide ((x :: r2).head? = some 46) = true by simp [h46])
                  clear h46
                  go_wp2
                  go_meet
                  exact ⟨by rw [HB.out], rfl⟩
                · have hx : ((x.toNat : Int) == 46) = false := beq_eq_false_iff_ne.2 (by have := toNat_ne h46; simp at this; omega)
                  have HB := hid (show decide ((x :: r2).head? = some 46) = false by simp [h46])
                  clear h46
                  go_wp2
                  go_meet
                  exact ⟨by rw [HB.out], rfl⟩
            case rest =>
              obtain ⟨rfl, rfl⟩ := hcut
              go_upto_if 53 with fail
              go_cut [6] (fun en wc => ∃ (fr r3 : List UInt8) (n : Nat), en = .int .i64 (n : Int) ∧ Hid (cutL l = cutL3 m (c :: t) fr r3) ∧ Hid (l.drop n = r3) ∧ n + r3.length = l.length ∧ fr.length ≤ l.length ∧
                Hid (wc.heap[w.heap.size]? = some (.cells #[.bool false, .string ⟨#[]⟩, .int .i64 0] 60 (0, 0))) ∧ Hid (wc.heap[w.heap.size + 1]? = some (.cells #[.bool m, .string (ofL (c :: t ++ fr)), .int .i64 (-(fr.length : Int))] 60 (0, 0))) ∧ Hid (Fr (fun _ => False) w wc))
              case first =>
                by_cases h46 : r1.head? = some 46
                · rw [decide_eq_true h46]
                  obtain ⟨r2, rfl⟩ : ∃ r2, r1 = 46 :: r2 := by
                    cases r1 with
                    | nil => cases h46
                    | cons x r2 => simp at h46; subst h46; exact ⟨r2, rfl⟩
                  have hlen3 : l.length = p + (t.length + 1 + (r2.length + 1)) := by simpa using hlen2
                  obtain ⟨fr, hfr⟩ : ∃ fr, r2.takeWhile isD = fr := ⟨_, rfl⟩
                  obtain ⟨r3, hr3⟩ : ∃ r3, r2.dropWhile isD = r3 := ⟨_, rfl⟩
                  have hsp2 : fr ++ r3 = r2 := by rw [← hfr, ← hr3]; exact List.takeWhile_append_dropWhile
                  have hl4 : r2.length = fr.length + r3.length := by rw [← hsp2, List.length_append]
                  have hdr : l.drop (p + (t.length + 1) + 1) = r2 := by rw [← List.drop_drop, ← List.drop_drop, HDC.out, ← HS.out]; simp
                  have hde2 : dend l (p + (t.length + 1) + 1) = p + (t.length + 1) + 1 + fr.length := by unfold dend; rw [hdr, hfr]
                  have hc2 : cutL2 m (c :: t) (46 :: r2) = (if fr = [] then none else cutL3 m (c :: t) fr r3) := by rw [cutL2, cutP_yes]; simp only [if_true]; rw [hfr, hr3]
                  have HC3 := hid (HC2.out.trans hc2)
                  have hex2 : (ofL l).extract (p + (t.length + 1) + 1) (p + (t.length + 1) + 1 + fr.length) = ofL fr := by
                    rw [ofL_extract, List.drop_take, hdr, ← hsp2]
                    simp
                  have HD3 := hid (show l.drop (p + (t.length + 1) + 1 + fr.length) = r3 from by rw [← List.drop_drop, hdr, ← hsp2]; simp)
                  have hz1 : (ofL (c :: t)).size = t.length + 1 := by rw [ofL_size]; simp
                  have hz2 := ofL_size fr
                  have hap := ofL_append (c :: t) fr
                  have HDG := hid (rdigits_any l (p + (t.length + 1) + 1))
                  clear hc2 hsp2 hfr hr3 hdr h46 hlen2 HLEN
                  have hN1 : ((p : Int) + ((t.length : Int) + 1) + 1) = ((p + (t.length + 1) + 1 : Nat) : Int) := by omega
                  have HN1 := hid hN1
                  have HDE2 := hid hde2
                  clear hN1 hde2
                  go_wp2_with fail
                  rw [HN1.out]
                  refine (HDG.out _ (by omega) (by omega)).mono ?_
                  rintro e w1 ⟨rfl, rfl⟩
                  rw [HDE2.out]
                  obtain ⟨K, hK⟩ : ∃ K : Nat, p + (t.length + 1) + 1 = K := ⟨_, rfl⟩
                  rw [hK] at HN1 HD3 hex2 ⊢
                  by_cases hf0 : fr = []
                  · subst hf0
                    have HN := hid (show cutL l = none from HC3.out.trans (if_pos rfl))
                    simp only [List.length_nil, Nat.add_zero]
                    clear hex2 hap hz1 hz2 hex
                    go_wp2
                    have hW := (Below.heap_alloc (w.alloc (.cells #[.bool m, .string (ofL (c :: t)), .int .i64 0] 60)) (.cells #[.bool m, .string (ofL (c :: t)), .int .i64 0] 60) w.heap.size (by simp)).trans (heap_alloc_new w (.cells #[.bool m, .string (ofL (c :: t)), .int .i64 0] 60))
                    have e0 := three_cell0 hW
                    have e1 := three_cell1 hW
                    have e2 := three_cell2 hW
                    refine bodyPost_ret (v := .tuple #[.agg #[.bool m, .string (ofL (c :: t)), .int .i64 0], .bool false]) (by simp [results, Try.results32, go_sem, e0, e1, e2]) rfl ?_
                    exact ⟨⟨fun _ _ _ _ _ h => (by rw [HN.out] at h; cases h), fun _ => ⟨_, _, _, rfl⟩⟩, ((Fr.refl _ w).alloc _).alloc _⟩
                  · have hfp : 0 < fr.length := by cases fr with | nil => exact absurd rfl hf0 | cons => simp
                    have HC4 := hid (HC3.out.trans (if_neg hf0))
                    have hne : (((K + fr.length : Nat) : Int) == (K : Int)) = false := beq_eq_false_iff_ne.2 (by omega)
                    have hKl : K + fr.length + r3.length = l.length := by omega
                    have HKL := hid hKl
                    have hKb : K ≤ 5000000 := by omega
                    have hfb : fr.length ≤ 5000000 := by omega
                    clear hf0 HC3 hex hgp
                    go_wp2
                    go_region
                    all_goals
                      go_wp2
                      go_meet
                      refine ⟨fr, r3, K + fr.length, by go_num, HC4, HD3, HKL.out, by omega, hid ?_, hid ?_, hid ((((Fr.refl _ w).alloc _).alloc _).drew)⟩
                      · exact (Below.heap_alloc _ _ _ (by simp)).trans (heap_alloc_new w _)
                      · rw [show (-(fr.length : Int)) = (K : Int) - ((K : Int) + (fr.length : Int)) by omega]
                        have := heap_alloc_new (w.alloc (.cells #[.bool false, .string ⟨#[]⟩, .int .i64 0] 60)) (.cells #[.bool m, .string (ofL (c :: (t ++ fr))), .int .i64 ((K : Int) - ((K : Int) + (fr.length : Int)))] 60)
                        rw [World.size_alloc] at this
                        exact this
                · rw [decide_eq_false h46]
                  have HC3 := hid (show cutL l = cutL3 m (c :: t) [] r1 from by rw [HC2.out, cutL2, cutP_no h46]; rfl)
                  have HDn := hid (show l.drop (p + (t.length + 1)) = r1 from by rw [← List.drop_drop, HDC.out, ← HS.out]; simp)
                  clear h46
                  go_wp2
                  go_meet
                  refine ⟨[], r1, p + (t.length + 1), by go_num, HC3, HDn, by omega, by simp, hid ?_, hid ?_, hid (((Fr.refl _ w).alloc _).alloc _)⟩
                  · exact (Below.heap_alloc _ _ _ (by simp)).trans (heap_alloc_new w _)
                  · rw [List.append_nil]
                    have := heap_alloc_new (w.alloc (.cells #[.bool false, .string ⟨#[]⟩, .int .i64 0] 60)) (.cells #[.bool m, .string (ofL (c :: t)), .int .i64 0] 60)
                    rwa [World.size_alloc] at this
              case rest =>
                obtain ⟨fr, r3, n, rfl, hC3, hDn, hnl, hfl, hbR, hbT, hF⟩ := hcut
                go_step
                exact said_tail l (c :: t) fr r3 n m w wc _ _ _ _ _ _ _ _ _ _ _ _ _ _ _ _ _ _ _ _ _ _ _ _ _ _ _ _ _ _ _ _ _ _ _ _ _ _ _ _ _ _ _ _ _ _ _ _ _ _ _ _ _ _ _ _ _ _ _ _ _ _ _ _ _ _ _ _ _ _ _ _ _ _ _ _ _ _ _ _ _ _ _ _ _ _ _ _ _ _ _ _ _ _ _ _ _ _ _ _ _ _ _ _ _ _ _ _ _ _ _ _ _ _ _ _ _ _ _ _ _ _ _ _ _ _ _ _ _ _ _ _ _ _ _ _ _ _ _ _ _ _ _ _ _ _ _ _ _ _ _ _ hl hC3 hDn hnl hfl hbR hbT hF
end Go.Proofs.Ytmkkibaacclhnaa
