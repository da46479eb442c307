/-
  A step of the walk, the part named Buv. No theorem of the row.
-/
import Derived.Test.YtmkkibaacclhnaaGreatBnb
import Derived.Test.YtmkkibaacclhnaaGreatBmy
import Derived.Deep.CutBlock
import Derived.Test.YtmkkibaacclhnaaGreatKep
namespace Go.Proofs.YtmkkibaacclhnaaGreat
open Go.RowKit

set_option maxRecDepth 100000 in
set_option maxHeartbeats 8000000 in
theorem said_any (l : List UInt8) (w : World) (hl : l.length ≤ 4000000) :
    Calls Tryz.prog 102 #[.string (ofL l)] w fun e w' => SaidPost l e ∧ Fr (fun _ => False) w w' := by
  have hsz := ofL_size l
  go_enter Tryz.func102, Tryz.ntmps102
  go_upto_region 1 with fail
  go_cut [4] (fun tp wc => tp = .pointer (some ⟨w.heap.size + 1, 0, none⟩) ∧ wc = SaidW w (cutP 45 l).2 [] 0)
  case first =>
    by_cases hp : 0 < l.length
    · have hne : (ofL l).toList.isEmpty = false := by rw [ofL_toList]; cases l with | nil => simp at hp | cons => rfl
      have hg : (ofL l)[0]'(by omega) = l[0] := ofL_get l 0 _
      have hh : l.head? = some l[0] := by cases l with | nil => simp at hp | cons => rfl
      by_cases h45 : l[0] = 45
      · have hx : ((l[0].toNat : Int) == 45) = true := by rw [h45]; rfl
        have HR := hid (show (cutP 45 l).2 = true from by rw [cutP, if_pos (by rw [hh, h45])])
        clear h45 hh
        go_wp2
        go_meet
        exact ⟨rfl, by rw [HR.out]; rfl⟩
      · have hx : ((l[0].toNat : Int) == 45) = false := beq_eq_false_iff_ne.2 (by have := toNat_ne h45; simp at this; omega)
        have HR := hid (show (cutP 45 l).2 = false from by rw [cutP, if_neg (by rw [hh]; simpa using h45)])
        clear h45 hh
        go_wp2
        go_meet
        exact ⟨rfl, by rw [HR.out]; rfl⟩
    · have hl0 : l = [] := List.eq_nil_of_length_eq_zero (by omega)
      subst hl0
      have hne : (ofL []).toList.isEmpty = true := by rw [ofL_toList]; rfl
      go_wp2
      go_meet
      exact ⟨rfl, rfl⟩
  case rest =>
    obtain ⟨rfl, rfl⟩ := hcut
    have hdc := drop_cut l
    obtain ⟨m, hm⟩ : ∃ m, (cutP 45 l).2 = m := ⟨_, rfl⟩
    obtain ⟨r0, hr0⟩ : ∃ r0, (cutP 45 l).1 = r0 := ⟨_, rfl⟩
    obtain ⟨p, hp⟩ : ∃ p : Nat, (if m = true then 1 else 0) = p := ⟨_, rfl⟩
    rw [hm, hr0, hp] at hdc
    rw [hm]
    have hp1 : p ≤ 1 := by rw [← hp]; split <;> omega
    have hpl : p ≤ l.length := by
      rcases Nat.lt_or_ge l.length p with h | h
      · exfalso
        have hp' : p = 1 := by omega
        have hl0 : l = [] := List.eq_nil_of_length_eq_zero (by omega)
        rw [hl0] at hm
        have : m = false := by rw [← hm]; rfl
        rw [this] at hp
        simp at hp; omega
      · exact h
    have HP := hid hp
    have HM := hid hm
    have HR0 := hid hr0
    have HDC := hid hdc
    clear hm hr0 hp hdc
    simp only [SaidW]
    go_upto_if 19 with fail
    go_cut [5] (fun at' wc => at' = .int .i64 (p : Int) ∧ wc = SaidW w m [] 0)
    case first =>
      cases m
      · have hp0 : p = 0 := by have := HP.out; simpa using this.symm
        subst hp0
        go_wp2
        go_meet
        exact ⟨rfl, rfl⟩
      · have hp0 : p = 1 := by have := HP.out; simpa using this.symm
        subst hp0
        go_wp2
        go_meet
        exact ⟨rfl, rfl⟩
    case rest =>
      obtain ⟨rfl, rfl⟩ := hcut
      -- the whole part
      obtain ⟨wh, hwh⟩ : ∃ wh, r0.takeWhile isD = wh := ⟨_, rfl⟩
      obtain ⟨r1, hr1⟩ : ∃ r1, r0.dropWhile isD = r1 := ⟨_, rfl⟩
      have hsplit : wh ++ r1 = r0 := by rw [← hwh, ← hr1]; exact List.takeWhile_append_dropWhile
      have hlr : l.length - p = r0.length := by have := congrArg List.length HDC.out; rwa [List.length_drop] at this
      have hget : ∀ j (hj : j < r0.length), l[p + j]'(Nat.add_lt_of_lt_sub' (hlr ▸ hj)) = r0[j] := by
        intro j hj
        have := HDC.out
        subst this
        simp
      have hde : dend l p = p + wh.length := by unfold dend; rw [HDC.out, hwh]
      have hcut1 : cutL l = cutL1 m wh r1 := by unfold cutL; rw [HM.out, HR0.out, hwh, hr1]
      have hlen : l.length = p + (wh.length + r1.length) := by
        have := congrArg List.length HDC.out
        rw [List.length_drop, ← hsplit, List.length_append] at this
        omega
      have hAw : AllD wh := by rw [← hwh]; intro c hc; exact List.all_eq_true.1 List.all_takeWhile c hc
      have HG := hid hget
      have HC1 := hid hcut1
      have HS := hid hsplit
      have HNR := hid (show NoD r1 by rw [← hr1]; exact dropWhile_noD _)
      clear hget hcut1 hsplit hwh hr1 HR0 HM HP
      go_wp2_with fail
      refine (rdigits_any l p _ (by omega) hpl).mono ?_
      rintro e w1 ⟨rfl, rfl⟩
      rw [hde]
      clear hde
      simp only [SaidW]
      have HF0 := hid (show Fr (fun _ => False) w ((w.alloc (.cells #[.bool false, .string ⟨#[]⟩, .int .i64 0] 160)).alloc (.cells #[.bool m, .string (ofL []), .int .i64 0] 160)) from ((Fr.refl _ w).alloc _).alloc _)
      cases wh with
      | nil =>
        have HN := hid (show cutL l = none from HC1.out.trans (if_pos (.inl rfl)))
        simp only [List.length_nil, Nat.add_zero]
        go_wp2
        have hW := (Below.heap_alloc (w.alloc (.cells #[.bool m, .string (ofL []), .int .i64 0] 160)) (.cells #[.bool m, .string (ofL []), .int .i64 0] 160) w.heap.size (by simp)).trans (heap_alloc_new w (.cells #[.bool m, .string (ofL []), .int .i64 0] 160))
        have e0 := three_cell0 hW
        have e1 := three_cell1 hW
        have e2 := three_cell2 hW
        refine bodyPost_ret (v := .tuple #[.agg #[.bool m, .string (ofL []), .int .i64 0], .bool false]) (by simp [results, Tryz.results102, go_sem, e0, e1, e2]) rfl ?_
        exact ⟨⟨fun _ _ _ _ _ h => (by rw [HN.out] at h; cases h), fun _ => ⟨_, _, _, rfl⟩⟩, ((Fr.refl _ w).alloc _).alloc _⟩
      | cons c t =>
        have hr0 := HS.out
        have hrl : 0 < r0.length := by rw [← hr0]; simp
        have hlen2 : l.length = p + (t.length + 1 + r1.length) := by rw [hlen]; simp
        have HLEN := hid hlen
        clear hlen
        have hpk : p < l.length := by omega
        have hgp : (ofL l)[p]'(by rw [hsz]; exact hpk) = c := by
          rw [ofL_get]
          have := HG.out 0 hrl
          simp only [Nat.add_zero] at this
          rw [this]
          subst hr0
          rfl
        clear hr0
        simp only [List.length_cons]
        go_upto_region 6 with fail
        go_cut [37] (fun b wc => b = .bool (decide (c = 48 ∧ t ≠ [])) ∧ wc = ((w.alloc (.cells #[.bool false, .string ⟨#[]⟩, .int .i64 0] 160)).alloc (.cells #[.bool m, .string (ofL []), .int .i64 0] 160)))
        case first =>
          by_cases hc : c = 48
          · have hx : ((c.toNat : Int) == 48) = true := by rw [hc]; rfl
            cases t with
            | nil =>
              have HB := hid (show decide (c = 48 ∧ ([] : List UInt8) ≠ []) = false by simp)
              simp only [List.length_nil, Nat.zero_add] at *
              have hpe : ((p : Int) + 1 == (p : Int)) = false := beq_eq_false_iff_ne.2 (by omega)
              clear hc
              go_wp2
              go_meet
              exact ⟨by rw [HB.out], rfl⟩
            | cons d t =>
              have HB := hid (show decide (c = 48 ∧ d :: t ≠ []) = true by simp [hc])
              simp only [List.length_cons] at *
              have hpe : ((p : Int) + ((t.length : Int) + 1 + 1) == (p : Int)) = false := beq_eq_false_iff_ne.2 (by omega)
              clear hc
              go_wp2
              go_meet
              refine ⟨?_, rfl⟩
              rw [HB.out]
              congr 1
              exact decide_eq_true (by omega)
          · have hx : ((c.toNat : Int) == 48) = false := beq_eq_false_iff_ne.2 (by have := toNat_ne hc; simp at this; omega)
            have HB := hid (show decide (c = 48 ∧ t ≠ []) = false by simp [hc])
            have hpe : ((p : Int) + ((t.length : Int) + 1) == (p : Int)) = false := beq_eq_false_iff_ne.2 (by omega)
            clear hc
            go_wp2
            go_meet
            exact ⟨by rw [HB.out], rfl⟩
        case rest =>
          obtain ⟨rfl, rfl⟩ := hcut
          by_cases hbad : c = 48 ∧ t ≠ []
          · have HN := hid (show cutL l = none from HC1.out.trans (if_pos (.inr ⟨by rw [hbad.1]; rfl, by
              have := hbad.2
              cases t with
              | nil => exact absurd rfl this
              | cons => simp⟩)))
            rw [decide_eq_true hbad]
            clear hbad
            go_wp2
            have hW := (Below.heap_alloc (w.alloc (.cells #[.bool m, .string (ofL []), .int .i64 0] 160)) (.cells #[.bool m, .string (ofL []), .int .i64 0] 160) w.heap.size (by simp)).trans (heap_alloc_new w (.cells #[.bool m, .string (ofL []), .int .i64 0] 160))
            have e0 := three_cell0 hW
            have e1 := three_cell1 hW
            have e2 := three_cell2 hW
            refine bodyPost_ret (v := .tuple #[.agg #[.bool m, .string (ofL []), .int .i64 0], .bool false]) (by simp [results, Tryz.results102, go_sem, e0, e1, e2]) rfl ?_
            exact ⟨⟨fun _ _ _ _ _ h => (by rw [HN.out] at h; cases h), fun _ => ⟨_, _, _, rfl⟩⟩, ((Fr.refl _ w).alloc _).alloc _⟩
          · have HC2 := hid (show cutL l = cutL2 m (c :: t) r1 from HC1.out.trans (if_neg (by
              rintro (h | ⟨h1, h2⟩)
              · cases h
              · apply hbad
                simp at h1
                refine ⟨h1, ?_⟩
                rintro rfl
                simp at h2)))
            rw [decide_eq_false hbad]
            have hex : (ofL l).extract p (p + (t.length + 1)) = ofL (c :: t) := by
              rw [ofL_extract, List.drop_take, HDC.out, ← HS.out]
              simp
            clear hbad HC1
            go_upto_region 9 with fail
            go_cut [53] (fun b wc => b = .bool (decide (r1.head? = some 46)) ∧ wc = ((w.alloc (.cells #[.bool false, .string ⟨#[]⟩, .int .i64 0] 160)).alloc (.cells #[.bool m, .string (ofL (c :: t)), .int .i64 0] 160)))
            case first =>
              cases r1 with
              | nil =>
                have hle : l.length = p + (t.length + 1) := by simpa using hlen2
                clear hlen2
                go_wp2
                go_meet
                exact ⟨rfl, rfl⟩
              | cons x r2 =>
                have hlen3 : l.length = p + (t.length + 1 + (r2.length + 1)) := by simpa using hlen2
                clear hlen2
                have hltl : p + (t.length + 1) < l.length := by omega
                have hge : (ofL l)[p + (t.length + 1)]'(by rw [hsz]; exact hltl) = x := by
                  rw [ofL_get]
                  have := HG.out (t.length + 1) (by rw [← HS.out]; simp)
                  rw [this]
                  simp [← HS.out]
                by_cases h46 : x = 46
                · have hx : ((x.toNat : Int) == 46) = true := by rw [h46]; rfl
                  have HB := hid (show decide ((x :: r2).head? = some 46) = true by simp [h46])
                  clear h46
                  go_wp2
                  go_meet
                  exact ⟨by rw [HB.out], rfl⟩
                · have hx : ((x.toNat : Int) == 46) = false := beq_eq_false_iff_ne.2 (by have := toNat_ne h46; simp at this; omega)
                  have HB := hid (show decide ((x :: r2).head? = some 46) = false by simp [h46])
                  clear h46
                  go_wp2
                  go_meet
                  exact ⟨by rw [HB.out], rfl⟩
            case rest =>
              obtain ⟨rfl, rfl⟩ := hcut
              go_upto_if 53 with fail
              go_cut [6] (fun en wc => ∃ (fr r3 : List UInt8) (n : Nat), en = .int .i64 (n : Int) ∧ Hid (cutL l = cutL3 m (c :: t) fr r3) ∧ Hid (l.drop n = r3) ∧ n + r3.length = l.length ∧ fr.length ≤ l.length ∧
                Hid (wc.heap[w.heap.size]? = some (.cells #[.bool false, .string ⟨#[]⟩, .int .i64 0] 160 (0, 0))) ∧ Hid (wc.heap[w.heap.size + 1]? = some (.cells #[.bool m, .string (ofL (c :: t ++ fr)), .int .i64 (-(fr.length : Int))] 160 (0, 0))) ∧ Hid (Fr (fun _ => False) w wc))
              case first =>
                by_cases h46 : r1.head? = some 46
                · rw [decide_eq_true h46]
                  obtain ⟨r2, rfl⟩ : ∃ r2, r1 = 46 :: r2 := by
                    cases r1 with
                    | nil => cases h46
                    | cons x r2 => simp at h46; subst h46; exact ⟨r2, rfl⟩
                  have hlen3 : l.length = p + (t.length + 1 + (r2.length + 1)) := by simpa using hlen2
                  obtain ⟨fr, hfr⟩ : ∃ fr, r2.takeWhile isD = fr := ⟨_, rfl⟩
                  obtain ⟨r3, hr3⟩ : ∃ r3, r2.dropWhile isD = r3 := ⟨_, rfl⟩
                  have hsp2 : fr ++ r3 = r2 := by rw [← hfr, ← hr3]; exact List.takeWhile_append_dropWhile
                  have hl4 : r2.length = fr.length + r3.length := by rw [← hsp2, List.length_append]
                  have hdr : l.drop (p + (t.length + 1) + 1) = r2 := by rw [← List.drop_drop, ← List.drop_drop, HDC.out, ← HS.out]; simp
                  have hde2 : dend l (p + (t.length + 1) + 1) = p + (t.length + 1) + 1 + fr.length := by unfold dend; rw [hdr, hfr]
                  have hc2 : cutL2 m (c :: t) (46 :: r2) = (if fr = [] then none else cutL3 m (c :: t) fr r3) := by rw [cutL2, cutP_yes]; simp only [if_true]; rw [hfr, hr3]
                  have HC3 := hid (HC2.out.trans hc2)
                  have hex2 : (ofL l).extract (p + (t.length + 1) + 1) (p + (t.length + 1) + 1 + fr.length) = ofL fr := by
                    rw [ofL_extract, List.drop_take, hdr, ← hsp2]
                    simp
                  have HD3 := hid (show l.drop (p + (t.length + 1) + 1 + fr.length) = r3 from by rw [← List.drop_drop, hdr, ← hsp2]; simp)
                  have hz1 : (ofL (c :: t)).size = t.length + 1 := by rw [ofL_size]; simp
                  have hz2 := ofL_size fr
                  have hap := ofL_append (c :: t) fr
                  have HDG := hid (rdigits_any l (p + (t.length + 1) + 1))
                  clear hc2 hsp2 hfr hr3 hdr h46 hlen2 HLEN
                  have hN1 : ((p : Int) + ((t.length : Int) + 1) + 1) = ((p + (t.length + 1) + 1 : Nat) : Int) := by omega
                  have HN1 := hid hN1
                  have HDE2 := hid hde2
                  clear hN1 hde2
                  go_wp2_with fail
                  rw [HN1.out]
                  refine (HDG.out _ (by omega) (by omega)).mono ?_
                  rintro e w1 ⟨rfl, rfl⟩
                  rw [HDE2.out]
                  obtain ⟨K, hK⟩ : ∃ K : Nat, p + (t.length + 1) + 1 = K := ⟨_, rfl⟩
                  rw [hK] at HN1 HD3 hex2 ⊢
                  by_cases hf0 : fr = []
                  · subst hf0
                    have HN := hid (show cutL l = none from HC3.out.trans (if_pos rfl))
                    simp only [List.length_nil, Nat.add_zero]
                    clear hex2 hap hz1 hz2 hex
                    go_wp2
                    have hW := (Below.heap_alloc (w.alloc (.cells #[.bool m, .string (ofL (c :: t)), .int .i64 0] 160)) (.cells #[.bool m, .string (ofL (c :: t)), .int .i64 0] 160) w.heap.size (by simp)).trans (heap_alloc_new w (.cells #[.bool m, .string (ofL (c :: t)), .int .i64 0] 160))
                    have e0 := three_cell0 hW
                    have e1 := three_cell1 hW
                    have e2 := three_cell2 hW
                    refine bodyPost_ret (v := .tuple #[.agg #[.bool m, .string (ofL (c :: t)), .int .i64 0], .bool false]) (by simp [results, Tryz.results102, go_sem, e0, e1, e2]) rfl ?_
                    exact ⟨⟨fun _ _ _ _ _ h => (by rw [HN.out] at h; cases h), fun _ => ⟨_, _, _, rfl⟩⟩, ((Fr.refl _ w).alloc _).alloc _⟩
                  · have hfp : 0 < fr.length := by cases fr with | nil => exact absurd rfl hf0 | cons => simp
                    have HC4 := hid (HC3.out.trans (if_neg hf0))
                    have hne : (((K + fr.length : Nat) : Int) == (K : Int)) = false := beq_eq_false_iff_ne.2 (by omega)
                    have hKl : K + fr.length + r3.length = l.length := by omega
                    have HKL := hid hKl
                    have hKb : K ≤ 5000000 := by omega
                    have hfb : fr.length ≤ 5000000 := by omega
                    clear hf0 HC3 hex hgp
                    go_wp2
                    go_region
                    all_goals
                      go_wp2
                      go_meet
                      refine ⟨fr, r3, K + fr.length, by go_num, HC4, HD3, HKL.out, by omega, hid ?_, hid ?_, hid ((((Fr.refl _ w).alloc _).alloc _).drew)⟩
                      · exact (Below.heap_alloc _ _ _ (by simp)).trans (heap_alloc_new w _)
                      · rw [show (-(fr.length : Int)) = (K : Int) - ((K : Int) + (fr.length : Int)) by omega]
                        have := heap_alloc_new (w.alloc (.cells #[.bool false, .string ⟨#[]⟩, .int .i64 0] 160)) (.cells #[.bool m, .string (ofL (c :: (t ++ fr))), .int .i64 ((K : Int) - ((K : Int) + (fr.length : Int)))] 160)
                        rw [World.size_alloc] at this
                        exact this
                · rw [decide_eq_false h46]
                  have HC3 := hid (show cutL l = cutL3 m (c :: t) [] r1 from by rw [HC2.out, cutL2, cutP_no h46]; rfl)
                  have HDn := hid (show l.drop (p + (t.length + 1)) = r1 from by rw [← List.drop_drop, HDC.out, ← HS.out]; simp)
                  clear h46
                  go_wp2
                  go_meet
                  refine ⟨[], r1, p + (t.length + 1), by go_num, HC3, HDn, by omega, by simp, hid ?_, hid ?_, hid (((Fr.refl _ w).alloc _).alloc _)⟩
                  · exact (Below.heap_alloc _ _ _ (by simp)).trans (heap_alloc_new w _)
                  · rw [List.append_nil]
                    have := heap_alloc_new (w.alloc (.cells #[.bool false, .string ⟨#[]⟩, .int .i64 0] 160)) (.cells #[.bool m, .string (ofL (c :: t)), .int .i64 0] 160)
                    rwa [World.size_alloc] at this
              case rest =>
                obtain ⟨fr, r3, n, rfl, hC3, hDn, hnl, hfl, hbR, hbT, hF⟩ := hcut
                go_step
                exact said_tail l (c :: t) fr r3 n m w wc _ _ _ _ _ _ _ _ _ _ _ _ _ _ _ _ _ _ _ _ _ _ _ _ _ _ _ _ _ _ _ _ _ _ _ _ _ _ _ _ _ _ _ _ _ _ _ _ _ _ _ _ _ _ _ _ _ _ _ _ _ _ _ _ _ _ _ _ _ _ _ _ _ _ _ _ _ _ _ _ _ _ _ _ _ _ _ _ _ _ _ _ _ _ _ _ _ _ _ _ _ _ _ _ _ _ _ _ _ _ _ _ _ _ _ _ _ _ _ _ _ _ _ _ _ _ _ _ _ _ _ _ _ _ _ _ _ _ _ _ _ _ _ _ _ _ _ _ _ _ _ _ hl hC3 hDn hnl hfl hbR hbT hF
end Go.Proofs.YtmkkibaacclhnaaGreat

namespace Go.Proofs.YtmkkibaacclhnaaGreat
open Go.RowKit

/-- all that the search knows of its number -/
structure RefS (m D : Nat) (pw x : Int) (l : List UInt8) : Prop where
  s : Short m D pw
  m0 : m ≠ 0
  pw1 : -5000 ≤ pw
  x1 : -342 ≤ x
  x2 : x ≤ 682
  lo : TenLe m x
  hi : ¬ TenLe m (x + 1)
  d : DInv m l 17 (x - 16)
def cN (l : List UInt8) (i : Nat) : Nat := num (dv (l.take i))
theorem RefS.h1 {m D : Nat} {pw x : Int} {l : List UInt8} (h : RefS m D pw x l) : TK 6000 x ≤ p10 6000 * V m := by
  have := (cle_TK 6000 m 1 x (by have := h.x1; omega)).1 ((ten_CLe m x).1 h.lo)
  rwa [Nat.one_mul] at this
theorem RefS.h2 {m D : Nat} {pw x : Int} {l : List UInt8} (h : RefS m D pw x l) : p10 6000 * V m < 10 * TK 6000 x := by
  have hk := h.hi
  rw [ten_CLe, cle_TK 6000 m 1 (x + 1) (by have := h.x1; omega), Nat.one_mul, TK_succ 6000 x (by have := h.x1; omega)] at hk
  omega
theorem RefS.hc {m D : Nat} {pw x : Int} {l : List UInt8} (h : RefS m D pw x l) (j : Nat) (h1 : 1 ≤ j) (h2 : j ≤ 17) :
    cN l j * TK 6000 (x + 1 - j) ≤ p10 6000 * V m ∧ p10 6000 * V m < cN l j * TK 6000 (x + 1 - j) + TK 6000 (x + 1 - j) :=
  h.d.take 6000 (by have := h.x1; omega) j h1 h2
theorem RefS.head {m D : Nat} {pw x : Int} {l : List UInt8} (h : RefS m D pw x l) : l.head? ≠ some 48 := by
  intro hh
  have hl := h.d.2.1
  have h1 := h.h1
  have h2 := (h.hc 1 (by omega) (by omega)).2
  rw [show x + 1 - ((1 : Nat) : Int) = x by omega] at h2
  have hc : cN l 1 = 0 := by
    unfold cN
    cases l with
    | nil => rfl
    | cons c r =>
      have : c = 48 := by simpa using hh
      subst this
      rfl
  rw [hc, Nat.zero_mul, Nat.zero_add] at h2
  omega
theorem RefS.dgs {m D : Nat} {pw x : Int} {l : List UInt8} (h : RefS m D pw x l) (i : Nat) (h1 : 1 ≤ i) (h2 : i ≤ 17) : l.take i = dgs (cN l i) := by
  have hl := h.d.2.1
  refine dgs_of (h.d.1.take i) ?_ ?_
  · intro e
    have := congrArg List.length e
    rw [List.length_take, hl, List.length_nil] at this
    omega
  · have := h.head
    cases l with
    | nil => simp at hl
    | cons c r =>
      cases i with
      | zero => omega
      | succ i => simpa using this
end Go.Proofs.YtmkkibaacclhnaaGreat

namespace Go.Proofs.YtmkkibaacclhnaaGreat
open Go.RowKit

/-- the cells of a token, and of a fraction, in a block -/
def ThreeC (w : World) (b : Nat) (x y z : Value) : Prop := w.heap[b]? = some (.cells #[x, y, z] 160 (0, 0))
def TwoC (w : World) (b : Nat) (x y : Value) : Prop := w.heap[b]? = some (.cells #[x, y] 188 (0, 0))
theorem ThreeC.fr {w w' : World} {b : Nat} {x y z : Value} (h : ThreeC w b x y z) (hF : Fr (fun _ => False) w w') : ThreeC w' b x y z := hF.heap h id
theorem TwoC.fr {w w' : World} {b : Nat} {x y : Value} (h : TwoC w b x y) (hF : Fr (fun _ => False) w w') : TwoC w' b x y := hF.heap h id
theorem ThreeC.new (w : World) (x y z : Value) : ThreeC (w.alloc (.cells #[x, y, z] 160)) w.heap.size x y z := heap_alloc_new w _
theorem TwoC.new (w : World) (x y : Value) : TwoC (w.alloc (.cells #[x, y] 188)) w.heap.size x y := heap_alloc_new w _
theorem ThreeC.c {w : World} {b : Nat} {x y z : Value} (h : ThreeC w b x y z) : w.cell? ⟨b, 0, none⟩ = some x ∧ w.cell? ⟨b, 1, none⟩ = some y ∧ w.cell? ⟨b, 2, none⟩ = some z := ⟨three_cell0 h, three_cell1 h, three_cell2 h⟩
theorem TwoC.c {w : World} {b : Nat} {x y : Value} (h : TwoC w b x y) : w.cell? ⟨b, 0, none⟩ = some x ∧ w.cell? ⟨b, 1, none⟩ = some y := ⟨two_cell0 h, two_cell1 h⟩
end Go.Proofs.YtmkkibaacclhnaaGreat

namespace Go.Proofs.YtmkkibaacclhnaaGreat
open Go.RowKit

theorem tenth_rnd : RndAt 1 (-1) 4591870180066957722 := by
  show Rnd (1 * pP (-1)) (p10 1) 4591870180066957722
  unfold Rnd
  decide +kernel
theorem tenth_a : mid 4591870180066957722 < 2 * p2 1074 := by decide +kernel
theorem tenth_b : mid 4591870180066957722 * 10 < 4 * p2 1074 := by decide +kernel
theorem tenth_c : 2 * p2 1074 < mid 4591870180066957721 * 100 := by decide +kernel
theorem tenth_pred : 4591870180066957722 - 1 = 4591870180066957721 := by omega
theorem tenth_short {D : Nat} {pw : Int} (h : Short 4591870180066957722 D pw) : D = 1 ∧ pw = -1 := by
  have hr := h.rnd (by omega)
  have hpos := hr.pos (by omega)
  have e2 : D * pP pw = D * p10 pw.toNat * p2 1074 := by rw [pP, Nat.mul_assoc]
  have hp := p2_pos 1074
  have hup : pw ≤ -1 := by
    rcases Int.lt_or_le (-1) pw with h1 | h1
    · exfalso
      obtain ⟨_, b⟩ := hr
      rw [e2, show (-pw).toNat = 0 by omega, show p10 0 = 1 from rfl, Nat.mul_one] at b
      have h2 : 1 * p2 1074 ≤ D * p10 pw.toNat * p2 1074 := Nat.mul_le_mul_right _ (Nat.mul_pos hpos (p10_pos _))
      have := tenth_a
      omega
    · exact h1
  have hlo : -1 ≤ pw := by
    rcases Int.lt_or_le pw (-1) with h1 | h1
    · exfalso
      obtain ⟨dg, R, L, H, U, hI, hpk, hd⟩ := h
      rcases hd with rfl | hd
      · have hD1 : D = 1 := by rcases pick_true hpk with rfl | rfl <;> omega
        obtain ⟨a, _⟩ := hr
        have hk : mid (4591870180066957722 - 1) * p10 (-pw).toNat ≤ 2 * (D * pP pw) := by
          rcases a with a | a | ⟨a, _⟩
          · exact absurd a (by decide)
          · exact Nat.le_of_lt a
          · exact Nat.le_of_eq a
        rw [tenth_pred] at hk
        have hz : D * pP pw = p2 1074 := by
          rw [e2, hD1, show pw.toNat = 0 by omega, show p10 0 = 1 from rfl, Nat.one_mul]
        rw [hz] at hk
        have h3 := p10_le 2 (-pw).toNat (by omega)
        have h4 : p10 2 = 100 := rfl
        rw [h4] at h3
        have h5 := Nat.mul_le_mul_left (mid 4591870180066957721) h3
        exact absurd tenth_c (Nat.not_lt.2 (Nat.le_trans h5 hk))
      · refine hd.none (by omega) (1 * p10 (-2 - pw).toNat) ?_
        have := tenth_rnd.same (SameV.shift 1 (-2 - pw).toNat (-1))
        rwa [show (-1 : Int) - ((-2 - pw).toNat : Int) = pw + 1 by omega] at this
    · exact h1
  obtain rfl : pw = -1 := by omega
  refine ⟨?_, rfl⟩
  obtain ⟨_, b⟩ := hr
  rw [e2, show (-1 : Int).toNat = 0 from rfl, show p10 0 = 1 from rfl, Nat.mul_one, show (-(-1 : Int)).toNat = 1 from rfl, show p10 1 = 10 from rfl] at b
  have := tenth_b
  rcases Nat.lt_or_ge D 2 with h1 | h1
  · omega
  · exfalso
    have h2 : 2 * p2 1074 ≤ D * p2 1074 := Nat.mul_le_mul_right _ h1
    omega
theorem tenth_tok : Tok [48, 46, 49] [48] [49] [] [] false :=
  ⟨rfl, by intro c hc; simp at hc; subst hc; decide, by intro c hc; simp at hc; subst hc; decide, allD_nil, .inl ⟨rfl, rfl⟩, fun _ => rfl, by simp, by simp⟩
theorem shown_p1 (w : World) : Calls Tryz.prog 8 #[.string ⟨#[48, 46, 49]⟩] w fun e w' => e = .returned (.tuple #[.int .u64 4591870180066957722, .int .i64 0]) ∧ Fr (fun _ => False) w w' := by
  refine parse_val (m := 4591870180066957722) tenth_tok (by decide) (by decide) (by omega) (fun h => by omega) (fun _ => ?_) w
  rw [powI_nil]
  exact tenth_rnd
theorem shown_p2 (w : World) : Calls Tryz.prog 8 #[.string ⟨#[49, 46]⟩] w fun e w' => e = .returned (.tuple #[.int .u64 0, .int .i64 3]) ∧ Fr (fun _ => False) w w' := by
  have := parse_run [49, 46] w (by decide)
  refine Calls.mono this ?_
  rintro e w' ⟨⟨_, h2⟩, hF⟩
  refine ⟨h2 ?_, hF⟩
  intro t ht
  have hr : run t0 [49, 46] = some ⟨4, false, [1], 1, 0, false⟩ := rfl
  rw [hr] at ht
  cases ht
  unfold Ends
  simp
theorem shown_p3 (w : World) : Calls Tryz.prog 9 #[.int .u64 4591870180066957722] w fun e w' => e = .returned (.tuple #[.string ⟨#[48, 46, 49]⟩, .int .i64 0]) ∧ Fr (fun _ => False) w w' := by
  refine (print_num 4591870180066957722 4591870180066957722 w (u64_andNot_sign 4591870180066957722 (by omega)) (by omega) (by omega)).mono ?_
  rintro e w' ⟨D, pw, hs, _, _, _, he, hF⟩
  obtain ⟨rfl, rfl⟩ := tenth_short hs
  have h1 : dgs 1 = [49] := by rw [dgs_lt (by omega)]; rfl
  rw [h1] at he
  exact ⟨he, hF⟩
set_option maxRecDepth 100000 in
set_option maxHeartbeats 2000000 in
theorem shown_any (w : World) : Calls Tryz.prog 4 #[] w fun e w' => e = .returned (.bool true) ∧ Fr (fun _ => False) w w' := by
  go_enter Tryz.func4, Tryz.ntmps4
  go_wp2_with fail
  refine (shown_p1 _).mono ?_
  rintro e w1 ⟨rfl, hF1⟩
  go_wp2_with fail
  refine (shown_p2 _).mono ?_
  rintro e w2 ⟨rfl, hF2⟩
  go_wp2_with fail
  refine (shown_p3 _).mono ?_
  rintro e w3 ⟨rfl, hF3⟩
  go_wp2_with (go_at_call 10; refine (num_any _ _).mono ?_; rintro e w' ⟨rfl, rfl⟩)
  go_ret
  exact ⟨rfl, (hF1.trans hF2).trans hF3⟩
end Go.Proofs.YtmkkibaacclhnaaGreat
