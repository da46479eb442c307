/-
  A step of the walk of the numbers, the part named CutC. No theorem of the row.
-/
import Derived.Test.YtldihimiblndcaaCutB
namespace Go.Proofs.Ytldihimiblndcaa
open Go.RowKit

set_option maxRecDepth 100000 in
set_option maxHeartbeats 8000000 in
theorem cut_any (l : List UInt8) (w : World) (hl : l.length ≤ 9000000000000000000) :
    Calls Try.prog 23 #[.string (ofL l)] w fun e w' => e = .returned (cutR l) ∧ Fr (fun _ => False) w w' := by
  have hla := cutP_len 45 l
  have HL : Hid (cutL l = cutL l) := rfl
  go_enter Try.func23, Try.ntmps23
  go_wp2_with fail
  refine (cutPrefix_any l 45 _ hl).mono ?_
  rintro e w' ⟨rfl, rfl⟩
  have h0 : CutAt w ((w.alloc (.cells #[.bool false, .string ⟨#[]⟩, .string ⟨#[]⟩, .bool false, .string ⟨#[]⟩] 40)).alloc (.cells #[.bool false, .string ⟨#[]⟩, .string ⟨#[]⟩, .bool false, .string ⟨#[]⟩] 40)) (.bool false) (.string ⟨#[]⟩) (.string ⟨#[]⟩) (.bool false) (.string ⟨#[]⟩) := by
    refine ⟨?_, ?_, ((Fr.refl _ w).alloc _).alloc _⟩
    · show _ = _
      rw [Below.heap_alloc _ _ _ (by simp)]; exact heap_alloc_new w _
    · have := heap_alloc_new (w.alloc (.cells #[.bool false, .string ⟨#[]⟩, .string ⟨#[]⟩, .bool false, .string ⟨#[]⟩] 40)) (.cells #[.bool false, .string ⟨#[]⟩, .string ⟨#[]⟩, .bool false, .string ⟨#[]⟩] 40)
      rw [World.size_alloc] at this
      exact this
  generalize (w.alloc (.cells #[.bool false, .string ⟨#[]⟩, .string ⟨#[]⟩, .bool false, .string ⟨#[]⟩] 40)).alloc (.cells #[.bool false, .string ⟨#[]⟩, .string ⟨#[]⟩, .bool false, .string ⟨#[]⟩] 40) = w1 at *
  have H0 := hid h0
  clear h0
  have hz := H0.out.res.cells
  have hz0 := hz.1
  have hz1 := hz.2.1
  have hz2 := hz.2.2.1
  have hz3 := hz.2.2.2.1
  have hz4 := hz.2.2.2.2
  have hy := H0.out.parts.cells
  have hy0 := hy.1
  have hy1 := hy.2.1
  have hy2 := hy.2.2.1
  have hy3 := hy.2.2.2.1
  have hy4 := hy.2.2.2.2
  have hzf0 := H0.out.res.free 0
  have hzf1 := H0.out.res.free 1
  have hzf2 := H0.out.res.free 2
  have hzf3 := H0.out.res.free 3
  have hzf4 := H0.out.res.free 4
  have hyf0 := H0.out.parts.free 0
  have hyf1 := H0.out.parts.free 1
  have hyf2 := H0.out.parts.free 2
  have hyf3 := H0.out.parts.free 3
  have hyf4 := H0.out.parts.free 4
  clear hz hy
  replace HL : Hid (cutL l = cutL l) := rfl
  go_wp2_with fail
  clear hz0 hz1 hz2 hz3 hz4 hy0 hy1 hy2 hy3 hy4 hzf0 hzf1 hzf2 hzf3 hzf4 hyf0 hyf1 hyf2 hyf3 hyf4
  refine (cutDigits_any (cutP 45 l).1 _ (by omega)).mono ?_
  rintro e w' ⟨rfl, m1, rfl⟩
  have H1 := hid ((H0.out.set0 (.bool (cutP 45 l).2)).drewN m1)
  clear H0
  generalize (w1.setCell ⟨w.heap.size + 1, 0, none⟩ (.bool (cutP 45 l).2)).drewN m1 = w2 at *
  have hlb := dropWhile_len (cutP 45 l).1
  have hd1 : Hid (cutL l = if (cutP 45 l).1.takeWhile isD = [] ∨ (((cutP 45 l).1.takeWhile isD).head? = some 48 ∧ 1 < ((cutP 45 l).1.takeWhile isD).length) then none else
    if (cutP 46 ((cutP 45 l).1.dropWhile isD)).2 = true ∧ (cutP 46 ((cutP 45 l).1.dropWhile isD)).1.takeWhile isD = [] then none else
    if (cutE (if (cutP 46 ((cutP 45 l).1.dropWhile isD)).2 then (cutP 46 ((cutP 45 l).1.dropWhile isD)).1.dropWhile isD else (cutP 45 l).1.dropWhile isD)).2 = true ∧ (cutS (cutE (if (cutP 46 ((cutP 45 l).1.dropWhile isD)).2 then (cutP 46 ((cutP 45 l).1.dropWhile isD)).1.dropWhile isD else (cutP 45 l).1.dropWhile isD)).1).1.takeWhile isD = [] then none else
    if (if (cutE (if (cutP 46 ((cutP 45 l).1.dropWhile isD)).2 then (cutP 46 ((cutP 45 l).1.dropWhile isD)).1.dropWhile isD else (cutP 45 l).1.dropWhile isD)).2 then (cutS (cutE (if (cutP 46 ((cutP 45 l).1.dropWhile isD)).2 then (cutP 46 ((cutP 45 l).1.dropWhile isD)).1.dropWhile isD else (cutP 45 l).1.dropWhile isD)).1).1.dropWhile isD else (if (cutP 46 ((cutP 45 l).1.dropWhile isD)).2 then (cutP 46 ((cutP 45 l).1.dropWhile isD)).1.dropWhile isD else (cutP 45 l).1.dropWhile isD)) ≠ [] then none else
    some ((cutP 45 l).2, (cutP 45 l).1.takeWhile isD, (if (cutP 46 ((cutP 45 l).1.dropWhile isD)).2 then (cutP 46 ((cutP 45 l).1.dropWhile isD)).1.takeWhile isD else []), (if (cutE (if (cutP 46 ((cutP 45 l).1.dropWhile isD)).2 then (cutP 46 ((cutP 45 l).1.dropWhile isD)).1.dropWhile isD else (cutP 45 l).1.dropWhile isD)).2 then (cutS (cutE (if (cutP 46 ((cutP 45 l).1.dropWhile isD)).2 then (cutP 46 ((cutP 45 l).1.dropWhile isD)).1.dropWhile isD else (cutP 45 l).1.dropWhile isD)).1).2 else false),
      (if (cutE (if (cutP 46 ((cutP 45 l).1.dropWhile isD)).2 then (cutP 46 ((cutP 45 l).1.dropWhile isD)).1.dropWhile isD else (cutP 45 l).1.dropWhile isD)).2 then (cutS (cutE (if (cutP 46 ((cutP 45 l).1.dropWhile isD)).2 then (cutP 46 ((cutP 45 l).1.dropWhile isD)).1.dropWhile isD else (cutP 45 l).1.dropWhile isD)).1).1.takeWhile isD else []))) := rfl
  clear HL
  generalize (cutP 45 l).2 = neg at *
  generalize (cutP 45 l).1.takeWhile isD = wh at *
  generalize (cutP 45 l).1.dropWhile isD = r at *
  have hsz := ofL_size wh
  have htl := ofL_toList wh
  have hz := H1.out.res.cells
  have hz0 := hz.1
  have hz1 := hz.2.1
  have hz2 := hz.2.2.1
  have hz3 := hz.2.2.2.1
  have hz4 := hz.2.2.2.2
  have hy := H1.out.parts.cells
  have hy0 := hy.1
  have hy1 := hy.2.1
  have hy2 := hy.2.2.1
  have hy3 := hy.2.2.2.1
  have hy4 := hy.2.2.2.2
  have hzf0 := H1.out.res.free 0
  have hzf1 := H1.out.res.free 1
  have hzf2 := H1.out.res.free 2
  have hzf3 := H1.out.res.free 3
  have hzf4 := H1.out.res.free 4
  have hyf0 := H1.out.parts.free 0
  have hyf1 := H1.out.parts.free 1
  have hyf2 := H1.out.parts.free 2
  have hyf3 := H1.out.parts.free 3
  have hyf4 := H1.out.parts.free 4
  clear hz hy
  by_cases hw0 : wh = []
  · subst hw0
    have HR : Hid (cutR l = .tuple #[.agg #[.bool false, .string ⟨#[]⟩, .string ⟨#[]⟩, .bool false, .string ⟨#[]⟩], .bool false]) := by
      have := hd1.out
      rw [if_pos (.inl rfl)] at this
      rw [Hid, cutR, this]
    have H2 := hid (H1.out.set1 (.string (ofL [])))
    clear hd1 H1
    go_wp2
    have hans := (H2.out).answer (.bool false) (.string ⟨#[]⟩) (.string ⟨#[]⟩) (.bool false) (.string ⟨#[]⟩)
    have hf := hans.1.cells
    refine bodyPost_ret (v := .tuple #[.agg #[.bool false, .string ⟨#[]⟩, .string ⟨#[]⟩, .bool false, .string ⟨#[]⟩], .bool false]) (by simp [results, Try.results23, go_sem, hf.1, hf.2.1, hf.2.2.1, hf.2.2.2.1, hf.2.2.2.2]) rfl ?_
    exact ⟨by rw [HR.out], hans.2⟩
  · by_cases hw1 : wh.head? = some 48 ∧ 1 < wh.length
    · have HR : Hid (cutR l = .tuple #[.agg #[.bool false, .string ⟨#[]⟩, .string ⟨#[]⟩, .bool false, .string ⟨#[]⟩], .bool false]) := by
        have := hd1.out
        rw [if_pos (.inr hw1)] at this
        rw [Hid, cutR, this]
      have H2 := hid (H1.out.set1 (.string (ofL wh)))
      have hpos : 0 < wh.length := by omega
      have hgt : 1 < wh.length := hw1.2
      have hemp : wh.isEmpty = false := by cases wh <;> simp at hpos ⊢
      have hg : (ofL wh)[0]'(by rw [hsz]; exact hpos) = 48 := by rw [ofL_get]; cases wh <;> simp at hpos hw1 ⊢; exact hw1.1
      clear hd1 H1 hw1 hw0
      go_wp2
      have hans := (H2.out).answer (.bool false) (.string ⟨#[]⟩) (.string ⟨#[]⟩) (.bool false) (.string ⟨#[]⟩)
      have hf := hans.1.cells
      refine bodyPost_ret (v := .tuple #[.agg #[.bool false, .string ⟨#[]⟩, .string ⟨#[]⟩, .bool false, .string ⟨#[]⟩], .bool false]) (by simp [results, Try.results23, go_sem, hf.1, hf.2.1, hf.2.2.1, hf.2.2.2.1, hf.2.2.2.2]) rfl ?_
      exact ⟨by rw [HR.out], hans.2⟩
    · have hd2 := hd1.out
      rw [if_neg (by rintro (h | h); exact hw0 h; exact hw1 h)] at hd2
      have HD2 := hid hd2
      have H2 := hid (H1.out.set1 (.string (ofL wh)))
      have hpos : 0 < wh.length := by cases wh with | nil => exact absurd rfl hw0 | cons x t => simp
      have hemp : wh.isEmpty = false := by cases wh <;> simp at hpos ⊢
      have hg : (ofL wh)[0]'(by rw [hsz]; exact hpos) = wh[0] := ofL_get wh 0 _
      have hlr := cutP_len 46 r
      by_cases hx : wh[0].toNat = 48
      · have hle : wh.length ≤ 1 := by
          rcases Nat.lt_or_ge 1 wh.length with h | h
          · exfalso; apply hw1; refine ⟨?_, h⟩; cases wh with | nil => simp at hpos | cons x t => simp at hx ⊢; exact UInt8.toNat_inj.1 (by simpa using hx)
          · exact h
        have hxb : ((wh[0].toNat : Int) == 48) = true := beq_iff_eq.2 (by omega)
        have HX := hid hx
        clear hd1 hd2 H1 hw0 hw1 hx
        go_wp2_with fail
        refine (cutPrefix_any r 46 _ (by omega)).mono ?_
        rintro e w' ⟨rfl, rfl⟩
        generalize w2.setCell ⟨w.heap.size + 1, 1, none⟩ (.string (ofL wh)) = w3 at *
        cases hb : (cutP 46 r).2
        · have hd3 := HD2.out
          simp only [hb, Bool.false_eq_true, false_and, if_false] at hd3
          have HD3 := hid hd3
          clear hd3 HD2
          clear hz0 hz1 hz2 hz3 hz4 hy0 hy1 hy2 hy3 hy4 hzf0 hzf1 hzf2 hzf3 hzf4 hyf0 hyf1 hyf2 hyf3 hyf4
          have hz := H2.out.res.cells
          have hz0 := hz.1
          have hz1 := hz.2.1
          have hz2 := hz.2.2.1
          have hz3 := hz.2.2.2.1
          have hz4 := hz.2.2.2.2
          have hy := H2.out.parts.cells
          have hy0 := hy.1
          have hy1 := hy.2.1
          have hy2 := hy.2.2.1
          have hy3 := hy.2.2.2.1
          have hy4 := hy.2.2.2.2
          have hzf0 := H2.out.res.free 0
          have hzf1 := H2.out.res.free 1
          have hzf2 := H2.out.res.free 2
          have hzf3 := H2.out.res.free 3
          have hzf4 := H2.out.res.free 4
          have hyf0 := H2.out.parts.free 0
          have hyf1 := H2.out.parts.free 1
          have hyf2 := H2.out.parts.free 2
          have hyf3 := H2.out.parts.free 3
          have hyf4 := H2.out.parts.free 4
          clear hz hy
          go_wp2_with fail
          clear hz0 hz1 hz2 hz3 hz4 hy0 hy1 hy2 hy3 hy4 hzf0 hzf1 hzf2 hzf3 hzf4 hyf0 hyf1 hyf2 hyf3 hyf4
          refine (cutMark_any r _ (by omega)).mono ?_
          rintro e w' ⟨rfl, hww⟩
          replace hww := hww.symm
          subst hww
          have hle2 := cutE_len r
          cases hc : (cutE r).2
          · have hd5 := HD3.out
            simp only [hc, Bool.false_eq_true, false_and, if_false] at hd5
            have HD5 := hid hd5
            clear hd5 HD3
            have htl3 := ofL_toList r
            have hz := H2.out.res.cells
            have hz0 := hz.1
            have hz1 := hz.2.1
            have hz2 := hz.2.2.1
            have hz3 := hz.2.2.2.1
            have hz4 := hz.2.2.2.2
            have hy := H2.out.parts.cells
            have hy0 := hy.1
            have hy1 := hy.2.1
            have hy2 := hy.2.2.1
            have hy3 := hy.2.2.2.1
            have hy4 := hy.2.2.2.2
            have hzf0 := H2.out.res.free 0
            have hzf1 := H2.out.res.free 1
            have hzf2 := H2.out.res.free 2
            have hzf3 := H2.out.res.free 3
            have hzf4 := H2.out.res.free 4
            have hyf0 := H2.out.parts.free 0
            have hyf1 := H2.out.parts.free 1
            have hyf2 := H2.out.parts.free 2
            have hyf3 := H2.out.parts.free 3
            have hyf4 := H2.out.parts.free 4
            clear hz hy
            by_cases hr3 : r = []
            · have hd6 := HD5.out
              rw [if_neg (by rw [hr3]; simp)] at hd6
              have HR : Hid (cutR l = .tuple #[.agg #[.bool neg, .string (ofL wh), .string ⟨#[]⟩, .bool false, .string ⟨#[]⟩], .bool true]) := by
                rw [Hid, cutR, hd6] <;> rfl
              have hem3 : r.isEmpty = true := by rw [hr3]; rfl
              have HR3 := hid hr3
              clear hd6 HD5 hr3
              go_wp2
              have hans := (H2.out).answer (.bool neg) (.string (ofL wh)) (.string ⟨#[]⟩) (.bool false) (.string ⟨#[]⟩)
              have hf := hans.1.cells
              refine bodyPost_ret (v := .tuple #[.agg #[.bool neg, .string (ofL wh), .string ⟨#[]⟩, .bool false, .string ⟨#[]⟩], .bool true]) (by simp [results, Try.results23, go_sem, hf.1, hf.2.1, hf.2.2.1, hf.2.2.2.1, hf.2.2.2.2]) rfl ?_
              exact ⟨by rw [HR.out], hans.2⟩
            · have hd6 := HD5.out
              rw [if_pos hr3] at hd6
              have HR : Hid (cutR l = .tuple #[.agg #[.bool false, .string ⟨#[]⟩, .string ⟨#[]⟩, .bool false, .string ⟨#[]⟩], .bool false]) := by
                rw [Hid, cutR, hd6] <;> rfl
              have hem3 : r.isEmpty = false := by rw [List.isEmpty_eq_false_iff]; exact hr3
              clear hd6 HD5 hr3
              go_wp2
              have hans := (H2.out).answer (.bool false) (.string ⟨#[]⟩) (.string ⟨#[]⟩) (.bool false) (.string ⟨#[]⟩)
              have hf := hans.1.cells
              refine bodyPost_ret (v := .tuple #[.agg #[.bool false, .string ⟨#[]⟩, .string ⟨#[]⟩, .bool false, .string ⟨#[]⟩], .bool false]) (by simp [results, Try.results23, go_sem, hf.1, hf.2.1, hf.2.2.1, hf.2.2.2.1, hf.2.2.2.2]) rfl ?_
              exact ⟨by rw [HR.out], hans.2⟩
          · have hlS := cutS_len (cutE r).1
            have hlD := dropWhile_len (cutS (cutE r).1).1
            have hz := H2.out.res.cells
            have hz0 := hz.1
            have hz1 := hz.2.1
            have hz2 := hz.2.2.1
            have hz3 := hz.2.2.2.1
            have hz4 := hz.2.2.2.2
            have hy := H2.out.parts.cells
            have hy0 := hy.1
            have hy1 := hy.2.1
            have hy2 := hy.2.2.1
            have hy3 := hy.2.2.2.1
            have hy4 := hy.2.2.2.2
            have hzf0 := H2.out.res.free 0
            have hzf1 := H2.out.res.free 1
            have hzf2 := H2.out.res.free 2
            have hzf3 := H2.out.res.free 3
            have hzf4 := H2.out.res.free 4
            have hyf0 := H2.out.parts.free 0
            have hyf1 := H2.out.parts.free 1
            have hyf2 := H2.out.parts.free 2
            have hyf3 := H2.out.parts.free 3
            have hyf4 := H2.out.parts.free 4
            clear hz hy
            go_wp2_with fail
            clear hz0 hz1 hz2 hz3 hz4 hy0 hy1 hy2 hy3 hy4 hzf0 hzf1 hzf2 hzf3 hzf4 hyf0 hyf1 hyf2 hyf3 hyf4
            refine (cutSign_any (cutE r).1 _ (by omega)).mono ?_
            rintro e w' ⟨rfl, hww⟩
            replace hww := hww.symm
            subst hww
            have hz := H2.out.res.cells
            have hz0 := hz.1
            have hz1 := hz.2.1
            have hz2 := hz.2.2.1
            have hz3 := hz.2.2.2.1
            have hz4 := hz.2.2.2.2
            have hy := H2.out.parts.cells
            have hy0 := hy.1
            have hy1 := hy.2.1
            have hy2 := hy.2.2.1
            have hy3 := hy.2.2.2.1
            have hy4 := hy.2.2.2.2
            have hzf0 := H2.out.res.free 0
            have hzf1 := H2.out.res.free 1
            have hzf2 := H2.out.res.free 2
            have hzf3 := H2.out.res.free 3
            have hzf4 := H2.out.res.free 4
            have hyf0 := H2.out.parts.free 0
            have hyf1 := H2.out.parts.free 1
            have hyf2 := H2.out.parts.free 2
            have hyf3 := H2.out.parts.free 3
            have hyf4 := H2.out.parts.free 4
            clear hz hy
            go_wp2_with fail
            clear hz0 hz1 hz2 hz3 hz4 hy0 hy1 hy2 hy3 hy4 hzf0 hzf1 hzf2 hzf3 hzf4 hyf0 hyf1 hyf2 hyf3 hyf4
            refine (cutDigits_any (cutS (cutE r).1).1 _ (by omega)).mono ?_
            rintro e w' ⟨rfl, m5, rfl⟩
            have H5 := hid ((H2.out.set3 (.bool (cutS (cutE r).1).2)).drewN m5)
            obtain ⟨w5, hw5⟩ : ∃ w5, World.drewN (World.setCell w3 ⟨w.heap.size + 1, 3, none⟩ (.bool (cutS (cutE r).1).2)) m5 = w5 := ⟨_, rfl⟩
            rw [hw5] at H5 ⊢
            clear hw5
            have hd5 := HD3.out
            simp only [hc, true_and, if_true] at hd5
            have HD5 := hid hd5
            clear hd5 HD3 H2
            generalize (cutS (cutE r).1).1.takeWhile isD = ex at *
            generalize (cutS (cutE r).1).1.dropWhile isD = r3 at *
            generalize (cutS (cutE r).1).2 = en at *
            have htl5 := ofL_toList ex
            have htl6 := ofL_toList r3
            have H6 := hid (H5.out.set4 (.string (ofL ex)))
            have hz := H5.out.res.cells
            have hz0 := hz.1
            have hz1 := hz.2.1
            have hz2 := hz.2.2.1
            have hz3 := hz.2.2.2.1
            have hz4 := hz.2.2.2.2
            have hy := H5.out.parts.cells
            have hy0 := hy.1
            have hy1 := hy.2.1
            have hy2 := hy.2.2.1
            have hy3 := hy.2.2.2.1
            have hy4 := hy.2.2.2.2
            have hzf0 := H5.out.res.free 0
            have hzf1 := H5.out.res.free 1
            have hzf2 := H5.out.res.free 2
            have hzf3 := H5.out.res.free 3
            have hzf4 := H5.out.res.free 4
            have hyf0 := H5.out.parts.free 0
            have hyf1 := H5.out.parts.free 1
            have hyf2 := H5.out.parts.free 2
            have hyf3 := H5.out.parts.free 3
            have hyf4 := H5.out.parts.free 4
            clear hz hy
            clear H5
            by_cases hex : ex = []
            · have hd6 := HD5.out
              rw [if_pos hex] at hd6
              have HR : Hid (cutR l = .tuple #[.agg #[.bool false, .string ⟨#[]⟩, .string ⟨#[]⟩, .bool false, .string ⟨#[]⟩], .bool false]) := by
                rw [Hid, cutR, hd6] <;> rfl
              have hem5 : ex.isEmpty = true := by rw [hex]; rfl
              have HEX := hid hex
              clear hd6 HD5 hex
              go_wp2
              have hans := (H6.out).answer (.bool false) (.string ⟨#[]⟩) (.string ⟨#[]⟩) (.bool false) (.string ⟨#[]⟩)
              have hf := hans.1.cells
              refine bodyPost_ret (v := .tuple #[.agg #[.bool false, .string ⟨#[]⟩, .string ⟨#[]⟩, .bool false, .string ⟨#[]⟩], .bool false]) (by simp [results, Try.results23, go_sem, hf.1, hf.2.1, hf.2.2.1, hf.2.2.2.1, hf.2.2.2.2]) rfl ?_
              exact ⟨by rw [HR.out], hans.2⟩
            · have hd6 := HD5.out
              rw [if_neg hex] at hd6
              have hem5 : ex.isEmpty = false := by rw [List.isEmpty_eq_false_iff]; exact hex
              by_cases hr3 : r3 = []
              · rw [if_neg (by rw [hr3]; simp)] at hd6
                have HR : Hid (cutR l = .tuple #[.agg #[.bool neg, .string (ofL wh), .string ⟨#[]⟩, .bool en, .string (ofL ex)], .bool true]) := by
                  rw [Hid, cutR, hd6] <;> rfl
                have hem6 : r3.isEmpty = true := by rw [hr3]; rfl
                have HR3 := hid hr3
                clear hd6 HD5 hr3 hex
                go_wp2
                have hans := (H6.out).answer (.bool neg) (.string (ofL wh)) (.string ⟨#[]⟩) (.bool en) (.string (ofL ex))
                have hf := hans.1.cells
                refine bodyPost_ret (v := .tuple #[.agg #[.bool neg, .string (ofL wh), .string ⟨#[]⟩, .bool en, .string (ofL ex)], .bool true]) (by simp [results, Try.results23, go_sem, hf.1, hf.2.1, hf.2.2.1, hf.2.2.2.1, hf.2.2.2.2]) rfl ?_
                exact ⟨by rw [HR.out], hans.2⟩
              · rw [if_pos hr3] at hd6
                have HR : Hid (cutR l = .tuple #[.agg #[.bool false, .string ⟨#[]⟩, .string ⟨#[]⟩, .bool false, .string ⟨#[]⟩], .bool false]) := by
                  rw [Hid, cutR, hd6] <;> rfl
                have hem6 : r3.isEmpty = false := by rw [List.isEmpty_eq_false_iff]; exact hr3
                clear hd6 HD5 hr3 hex
                go_wp2
                have hans := (H6.out).answer (.bool false) (.string ⟨#[]⟩) (.string ⟨#[]⟩) (.bool false) (.string ⟨#[]⟩)
                have hf := hans.1.cells
                refine bodyPost_ret (v := .tuple #[.agg #[.bool false, .string ⟨#[]⟩, .string ⟨#[]⟩, .bool false, .string ⟨#[]⟩], .bool false]) (by simp [results, Try.results23, go_sem, hf.1, hf.2.1, hf.2.2.1, hf.2.2.2.1, hf.2.2.2.2]) rfl ?_
                exact ⟨by rw [HR.out], hans.2⟩
        · clear hz0 hz1 hz2 hz3 hz4 hy0 hy1 hy2 hy3 hy4 hzf0 hzf1 hzf2 hzf3 hzf4 hyf0 hyf1 hyf2 hyf3 hyf4
          have hz := H2.out.res.cells
          have hz0 := hz.1
          have hz1 := hz.2.1
          have hz2 := hz.2.2.1
          have hz3 := hz.2.2.2.1
          have hz4 := hz.2.2.2.2
          have hy := H2.out.parts.cells
          have hy0 := hy.1
          have hy1 := hy.2.1
          have hy2 := hy.2.2.1
          have hy3 := hy.2.2.2.1
          have hy4 := hy.2.2.2.2
          have hzf0 := H2.out.res.free 0
          have hzf1 := H2.out.res.free 1
          have hzf2 := H2.out.res.free 2
          have hzf3 := H2.out.res.free 3
          have hzf4 := H2.out.res.free 4
          have hyf0 := H2.out.parts.free 0
          have hyf1 := H2.out.parts.free 1
          have hyf2 := H2.out.parts.free 2
          have hyf3 := H2.out.parts.free 3
          have hyf4 := H2.out.parts.free 4
          clear hz hy
          go_wp2_with fail
          clear hz0 hz1 hz2 hz3 hz4 hy0 hy1 hy2 hy3 hy4 hzf0 hzf1 hzf2 hzf3 hzf4 hyf0 hyf1 hyf2 hyf3 hyf4
          refine (cutDigits_any (cutP 46 r).1 _ (by omega)).mono ?_
          rintro e w' ⟨rfl, m3, rfl⟩
          have H3 := hid (H2.out.drewN m3)
          generalize World.drewN w3 m3 = w4 at *
          have hd3 := HD2.out
          simp only [hb, true_and, if_true] at hd3
          have HD3 := hid hd3
          have hlf := dropWhile_len (cutP 46 r).1
          clear hd3 HD2 H2
          generalize (cutP 46 r).1.takeWhile isD = fr at *
          generalize (cutP 46 r).1.dropWhile isD = r2 at *
          have htl4 := ofL_toList fr
          have H4 := hid (H3.out.set2 (.string (ofL fr)))
          have hz := H3.out.res.cells
          have hz0 := hz.1
          have hz1 := hz.2.1
          have hz2 := hz.2.2.1
          have hz3 := hz.2.2.2.1
          have hz4 := hz.2.2.2.2
          have hy := H3.out.parts.cells
          have hy0 := hy.1
          have hy1 := hy.2.1
          have hy2 := hy.2.2.1
          have hy3 := hy.2.2.2.1
          have hy4 := hy.2.2.2.2
          have hzf0 := H3.out.res.free 0
          have hzf1 := H3.out.res.free 1
          have hzf2 := H3.out.res.free 2
          have hzf3 := H3.out.res.free 3
          have hzf4 := H3.out.res.free 4
          have hyf0 := H3.out.parts.free 0
          have hyf1 := H3.out.parts.free 1
          have hyf2 := H3.out.parts.free 2
          have hyf3 := H3.out.parts.free 3
          have hyf4 := H3.out.parts.free 4
          clear hz hy
          clear H3
          by_cases hfr : fr = []
          · have hd4 := HD3.out
            rw [if_pos hfr] at hd4
            have HR : Hid (cutR l = .tuple #[.agg #[.bool false, .string ⟨#[]⟩, .string ⟨#[]⟩, .bool false, .string ⟨#[]⟩], .bool false]) := by
              rw [Hid, cutR, hd4] <;> rfl
            have hem4 : fr.isEmpty = true := by rw [hfr]; rfl
            have HFR := hid hfr
            clear hd4 HD3 hfr
            go_wp2
            have hans := (H4.out).answer (.bool false) (.string ⟨#[]⟩) (.string ⟨#[]⟩) (.bool false) (.string ⟨#[]⟩)
            have hf := hans.1.cells
            refine bodyPost_ret (v := .tuple #[.agg #[.bool false, .string ⟨#[]⟩, .string ⟨#[]⟩, .bool false, .string ⟨#[]⟩], .bool false]) (by simp [results, Try.results23, go_sem, hf.1, hf.2.1, hf.2.2.1, hf.2.2.2.1, hf.2.2.2.2]) rfl ?_
            exact ⟨by rw [HR.out], hans.2⟩
          · have hd4 := HD3.out
            rw [if_neg hfr] at hd4
            have HD4 := hid hd4
            have hem4 : fr.isEmpty = false := by rw [List.isEmpty_eq_false_iff]; exact hfr
            clear hd4 HD3 hfr
            go_wp2_with fail
            clear hz0 hz1 hz2 hz3 hz4 hy0 hy1 hy2 hy3 hy4 hzf0 hzf1 hzf2 hzf3 hzf4 hyf0 hyf1 hyf2 hyf3 hyf4
            generalize w4.setCell ⟨w.heap.size + 1, 2, none⟩ (.string (ofL fr)) = w6 at *
            refine (cutMark_any r2 _ (by omega)).mono ?_
            rintro e w' ⟨rfl, hww⟩
            replace hww := hww.symm
            subst hww
            have hle2 := cutE_len r2
            cases hc : (cutE r2).2
            · have hd5 := HD4.out
              simp only [hc, Bool.false_eq_true, false_and, if_false] at hd5
              have HD5 := hid hd5
              clear hd5 HD4
              have htl3 := ofL_toList r2
              have hz := H4.out.res.cells
              have hz0 := hz.1
              have hz1 := hz.2.1
              have hz2 := hz.2.2.1
              have hz3 := hz.2.2.2.1
              have hz4 := hz.2.2.2.2
              have hy := H4.out.parts.cells
              have hy0 := hy.1
              have hy1 := hy.2.1
              have hy2 := hy.2.2.1
              have hy3 := hy.2.2.2.1
              have hy4 := hy.2.2.2.2
              have hzf0 := H4.out.res.free 0
              have hzf1 := H4.out.res.free 1
              have hzf2 := H4.out.res.free 2
              have hzf3 := H4.out.res.free 3
              have hzf4 := H4.out.res.free 4
              have hyf0 := H4.out.parts.free 0
              have hyf1 := H4.out.parts.free 1
              have hyf2 := H4.out.parts.free 2
              have hyf3 := H4.out.parts.free 3
              have hyf4 := H4.out.parts.free 4
              clear hz hy
              by_cases hr3 : r2 = []
              · have hd6 := HD5.out
                rw [if_neg (by rw [hr3]; simp)] at hd6
                have HR : Hid (cutR l = .tuple #[.agg #[.bool neg, .string (ofL wh), .string (ofL fr), .bool false, .string ⟨#[]⟩], .bool true]) := by
                  rw [Hid, cutR, hd6] <;> rfl
                have hem3 : r2.isEmpty = true := by rw [hr3]; rfl
                have HR3 := hid hr3
                clear hd6 HD5 hr3
                go_wp2
                have hans := (H4.out).answer (.bool neg) (.string (ofL wh)) (.string (ofL fr)) (.bool false) (.string ⟨#[]⟩)
                have hf := hans.1.cells
                refine bodyPost_ret (v := .tuple #[.agg #[.bool neg, .string (ofL wh), .string (ofL fr), .bool false, .string ⟨#[]⟩], .bool true]) (by simp [results, Try.results23, go_sem, hf.1, hf.2.1, hf.2.2.1, hf.2.2.2.1, hf.2.2.2.2]) rfl ?_
                exact ⟨by rw [HR.out], hans.2⟩
              · have hd6 := HD5.out
                rw [if_pos hr3] at hd6
                have HR : Hid (cutR l = .tuple #[.agg #[.bool false, .string ⟨#[]⟩, .string ⟨#[]⟩, .bool false, .string ⟨#[]⟩], .bool false]) := by
                  rw [Hid, cutR, hd6] <;> rfl
                have hem3 : r2.isEmpty = false := by rw [List.isEmpty_eq_false_iff]; exact hr3
                clear hd6 HD5 hr3
                go_wp2
                have hans := (H4.out).answer (.bool false) (.string ⟨#[]⟩) (.string ⟨#[]⟩) (.bool false) (.string ⟨#[]⟩)
                have hf := hans.1.cells
                refine bodyPost_ret (v := .tuple #[.agg #[.bool false, .string ⟨#[]⟩, .string ⟨#[]⟩, .bool false, .string ⟨#[]⟩], .bool false]) (by simp [results, Try.results23, go_sem, hf.1, hf.2.1, hf.2.2.1, hf.2.2.2.1, hf.2.2.2.2]) rfl ?_
                exact ⟨by rw [HR.out], hans.2⟩
            · have hlS := cutS_len (cutE r2).1
              have hlD := dropWhile_len (cutS (cutE r2).1).1
              have hz := H4.out.res.cells
              have hz0 := hz.1
              have hz1 := hz.2.1
              have hz2 := hz.2.2.1
              have hz3 := hz.2.2.2.1
              have hz4 := hz.2.2.2.2
              have hy := H4.out.parts.cells
              have hy0 := hy.1
              have hy1 := hy.2.1
              have hy2 := hy.2.2.1
              have hy3 := hy.2.2.2.1
              have hy4 := hy.2.2.2.2
              have hzf0 := H4.out.res.free 0
              have hzf1 := H4.out.res.free 1
              have hzf2 := H4.out.res.free 2
              have hzf3 := H4.out.res.free 3
              have hzf4 := H4.out.res.free 4
              have hyf0 := H4.out.parts.free 0
              have hyf1 := H4.out.parts.free 1
              have hyf2 := H4.out.parts.free 2
              have hyf3 := H4.out.parts.free 3
              have hyf4 := H4.out.parts.free 4
              clear hz hy
              go_wp2_with fail
              clear hz0 hz1 hz2 hz3 hz4 hy0 hy1 hy2 hy3 hy4 hzf0 hzf1 hzf2 hzf3 hzf4 hyf0 hyf1 hyf2 hyf3 hyf4
              refine (cutSign_any (cutE r2).1 _ (by omega)).mono ?_
              rintro e w' ⟨rfl, hww⟩
              replace hww := hww.symm
              subst hww
              have hz := H4.out.res.cells
              have hz0 := hz.1
              have hz1 := hz.2.1
              have hz2 := hz.2.2.1
              have hz3 := hz.2.2.2.1
              have hz4 := hz.2.2.2.2
              have hy := H4.out.parts.cells
              have hy0 := hy.1
              have hy1 := hy.2.1
              have hy2 := hy.2.2.1
              have hy3 := hy.2.2.2.1
              have hy4 := hy.2.2.2.2
              have hzf0 := H4.out.res.free 0
              have hzf1 := H4.out.res.free 1
              have hzf2 := H4.out.res.free 2
              have hzf3 := H4.out.res.free 3
              have hzf4 := H4.out.res.free 4
              have hyf0 := H4.out.parts.free 0
              have hyf1 := H4.out.parts.free 1
              have hyf2 := H4.out.parts.free 2
              have hyf3 := H4.out.parts.free 3
              have hyf4 := H4.out.parts.free 4
              clear hz hy
              go_wp2_with fail
              clear hz0 hz1 hz2 hz3 hz4 hy0 hy1 hy2 hy3 hy4 hzf0 hzf1 hzf2 hzf3 hzf4 hyf0 hyf1 hyf2 hyf3 hyf4
              refine (cutDigits_any (cutS (cutE r2).1).1 _ (by omega)).mono ?_
              rintro e w' ⟨rfl, m5, rfl⟩
              have H5 := hid ((H4.out.set3 (.bool (cutS (cutE r2).1).2)).drewN m5)
              obtain ⟨w5, hw5⟩ : ∃ w5, World.drewN (World.setCell w6 ⟨w.heap.size + 1, 3, none⟩ (.bool (cutS (cutE r2).1).2)) m5 = w5 := ⟨_, rfl⟩
              rw [hw5] at H5 ⊢
              clear hw5
              have hd5 := HD4.out
              simp only [hc, true_and, if_true] at hd5
              have HD5 := hid hd5
              clear hd5 HD4 H4
              generalize (cutS (cutE r2).1).1.takeWhile isD = ex at *
              generalize (cutS (cutE r2).1).1.dropWhile isD = r3 at *
              generalize (cutS (cutE r2).1).2 = en at *
              have htl5 := ofL_toList ex
              have htl6 := ofL_toList r3
              have H6 := hid (H5.out.set4 (.string (ofL ex)))
              have hz := H5.out.res.cells
              have hz0 := hz.1
              have hz1 := hz.2.1
              have hz2 := hz.2.2.1
              have hz3 := hz.2.2.2.1
              have hz4 := hz.2.2.2.2
              have hy := H5.out.parts.cells
              have hy0 := hy.1
              have hy1 := hy.2.1
              have hy2 := hy.2.2.1
              have hy3 := hy.2.2.2.1
              have hy4 := hy.2.2.2.2
              have hzf0 := H5.out.res.free 0
              have hzf1 := H5.out.res.free 1
              have hzf2 := H5.out.res.free 2
              have hzf3 := H5.out.res.free 3
              have hzf4 := H5.out.res.free 4
              have hyf0 := H5.out.parts.free 0
              have hyf1 := H5.out.parts.free 1
              have hyf2 := H5.out.parts.free 2
              have hyf3 := H5.out.parts.free 3
              have hyf4 := H5.out.parts.free 4
              clear hz hy
              clear H5
              by_cases hex : ex = []
              · have hd6 := HD5.out
                rw [if_pos hex] at hd6
                have HR : Hid (cutR l = .tuple #[.agg #[.bool false, .string ⟨#[]⟩, .string ⟨#[]⟩, .bool false, .string ⟨#[]⟩], .bool false]) := by
                  rw [Hid, cutR, hd6] <;> rfl
                have hem5 : ex.isEmpty = true := by rw [hex]; rfl
                have HEX := hid hex
                clear hd6 HD5 hex
                go_wp2
                have hans := (H6.out).answer (.bool false) (.string ⟨#[]⟩) (.string ⟨#[]⟩) (.bool false) (.string ⟨#[]⟩)
                have hf := hans.1.cells
                refine bodyPost_ret (v := .tuple #[.agg #[.bool false, .string ⟨#[]⟩, .string ⟨#[]⟩, .bool false, .string ⟨#[]⟩], .bool false]) (by simp [results, Try.results23, go_sem, hf.1, hf.2.1, hf.2.2.1, hf.2.2.2.1, hf.2.2.2.2]) rfl ?_
                exact ⟨by rw [HR.out], hans.2⟩
              · have hd6 := HD5.out
                rw [if_neg hex] at hd6
                have hem5 : ex.isEmpty = false := by rw [List.isEmpty_eq_false_iff]; exact hex
                by_cases hr3 : r3 = []
                · rw [if_neg (by rw [hr3]; simp)] at hd6
                  have HR : Hid (cutR l = .tuple #[.agg #[.bool neg, .string (ofL wh), .string (ofL fr), .bool en, .string (ofL ex)], .bool true]) := by
                    rw [Hid, cutR, hd6] <;> rfl
                  have hem6 : r3.isEmpty = true := by rw [hr3]; rfl
                  have HR3 := hid hr3
                  clear hd6 HD5 hr3 hex
                  go_wp2
                  have hans := (H6.out).answer (.bool neg) (.string (ofL wh)) (.string (ofL fr)) (.bool en) (.string (ofL ex))
                  have hf := hans.1.cells
                  refine bodyPost_ret (v := .tuple #[.agg #[.bool neg, .string (ofL wh), .string (ofL fr), .bool en, .string (ofL ex)], .bool true]) (by simp [results, Try.results23, go_sem, hf.1, hf.2.1, hf.2.2.1, hf.2.2.2.1, hf.2.2.2.2]) rfl ?_
                  exact ⟨by rw [HR.out], hans.2⟩
                · rw [if_pos hr3] at hd6
                  have HR : Hid (cutR l = .tuple #[.agg #[.bool false, .string ⟨#[]⟩, .string ⟨#[]⟩, .bool false, .string ⟨#[]⟩], .bool false]) := by
                    rw [Hid, cutR, hd6] <;> rfl
                  have hem6 : r3.isEmpty = false := by rw [List.isEmpty_eq_false_iff]; exact hr3
                  clear hd6 HD5 hr3 hex
                  go_wp2
                  have hans := (H6.out).answer (.bool false) (.string ⟨#[]⟩) (.string ⟨#[]⟩) (.bool false) (.string ⟨#[]⟩)
                  have hf := hans.1.cells
                  refine bodyPost_ret (v := .tuple #[.agg #[.bool false, .string ⟨#[]⟩, .string ⟨#[]⟩, .bool false, .string ⟨#[]⟩], .bool false]) (by simp [results, Try.results23, go_sem, hf.1, hf.2.1, hf.2.2.1, hf.2.2.2.1, hf.2.2.2.2]) rfl ?_
                  exact ⟨by rw [HR.out], hans.2⟩
      · have hxb : ((wh[0].toNat : Int) == 48) = false := beq_eq_false_iff_ne.2 (by omega)
        clear hd1 hd2 H1 hw0 hw1 hx
        go_wp2_with fail
        refine (cutPrefix_any r 46 _ (by omega)).mono ?_
        rintro e w' ⟨rfl, rfl⟩
        generalize w2.setCell ⟨w.heap.size + 1, 1, none⟩ (.string (ofL wh)) = w3 at *
        cases hb : (cutP 46 r).2
        · have hd3 := HD2.out
          simp only [hb, Bool.false_eq_true, false_and, if_false] at hd3
          have HD3 := hid hd3
          clear hd3 HD2
          clear hz0 hz1 hz2 hz3 hz4 hy0 hy1 hy2 hy3 hy4 hzf0 hzf1 hzf2 hzf3 hzf4 hyf0 hyf1 hyf2 hyf3 hyf4
          have hz := H2.out.res.cells
          have hz0 := hz.1
          have hz1 := hz.2.1
          have hz2 := hz.2.2.1
          have hz3 := hz.2.2.2.1
          have hz4 := hz.2.2.2.2
          have hy := H2.out.parts.cells
          have hy0 := hy.1
          have hy1 := hy.2.1
          have hy2 := hy.2.2.1
          have hy3 := hy.2.2.2.1
          have hy4 := hy.2.2.2.2
          have hzf0 := H2.out.res.free 0
          have hzf1 := H2.out.res.free 1
          have hzf2 := H2.out.res.free 2
          have hzf3 := H2.out.res.free 3
          have hzf4 := H2.out.res.free 4
          have hyf0 := H2.out.parts.free 0
          have hyf1 := H2.out.parts.free 1
          have hyf2 := H2.out.parts.free 2
          have hyf3 := H2.out.parts.free 3
          have hyf4 := H2.out.parts.free 4
          clear hz hy
          go_wp2_with fail
          clear hz0 hz1 hz2 hz3 hz4 hy0 hy1 hy2 hy3 hy4 hzf0 hzf1 hzf2 hzf3 hzf4 hyf0 hyf1 hyf2 hyf3 hyf4
          refine (cutMark_any r _ (by omega)).mono ?_
          rintro e w' ⟨rfl, hww⟩
          replace hww := hww.symm
          subst hww
          have hle2 := cutE_len r
          cases hc : (cutE r).2
          · have hd5 := HD3.out
            simp only [hc, Bool.false_eq_true, false_and, if_false] at hd5
            have HD5 := hid hd5
            clear hd5 HD3
            have htl3 := ofL_toList r
            have hz := H2.out.res.cells
            have hz0 := hz.1
            have hz1 := hz.2.1
            have hz2 := hz.2.2.1
            have hz3 := hz.2.2.2.1
            have hz4 := hz.2.2.2.2
            have hy := H2.out.parts.cells
            have hy0 := hy.1
            have hy1 := hy.2.1
            have hy2 := hy.2.2.1
            have hy3 := hy.2.2.2.1
            have hy4 := hy.2.2.2.2
            have hzf0 := H2.out.res.free 0
            have hzf1 := H2.out.res.free 1
            have hzf2 := H2.out.res.free 2
            have hzf3 := H2.out.res.free 3
            have hzf4 := H2.out.res.free 4
            have hyf0 := H2.out.parts.free 0
            have hyf1 := H2.out.parts.free 1
            have hyf2 := H2.out.parts.free 2
            have hyf3 := H2.out.parts.free 3
            have hyf4 := H2.out.parts.free 4
            clear hz hy
            by_cases hr3 : r = []
            · have hd6 := HD5.out
              rw [if_neg (by rw [hr3]; simp)] at hd6
              have HR : Hid (cutR l = .tuple #[.agg #[.bool neg, .string (ofL wh), .string ⟨#[]⟩, .bool false, .string ⟨#[]⟩], .bool true]) := by
                rw [Hid, cutR, hd6] <;> rfl
              have hem3 : r.isEmpty = true := by rw [hr3]; rfl
              have HR3 := hid hr3
              clear hd6 HD5 hr3
              go_wp2
              have hans := (H2.out).answer (.bool neg) (.string (ofL wh)) (.string ⟨#[]⟩) (.bool false) (.string ⟨#[]⟩)
              have hf := hans.1.cells
              refine bodyPost_ret (v := .tuple #[.agg #[.bool neg, .string (ofL wh), .string ⟨#[]⟩, .bool false, .string ⟨#[]⟩], .bool true]) (by simp [results, Try.results23, go_sem, hf.1, hf.2.1, hf.2.2.1, hf.2.2.2.1, hf.2.2.2.2]) rfl ?_
              exact ⟨by rw [HR.out], hans.2⟩
            · have hd6 := HD5.out
              rw [if_pos hr3] at hd6
              have HR : Hid (cutR l = .tuple #[.agg #[.bool false, .string ⟨#[]⟩, .string ⟨#[]⟩, .bool false, .string ⟨#[]⟩], .bool false]) := by
                rw [Hid, cutR, hd6] <;> rfl
              have hem3 : r.isEmpty = false := by rw [List.isEmpty_eq_false_iff]; exact hr3
              clear hd6 HD5 hr3
              go_wp2
              have hans := (H2.out).answer (.bool false) (.string ⟨#[]⟩) (.string ⟨#[]⟩) (.bool false) (.string ⟨#[]⟩)
              have hf := hans.1.cells
              refine bodyPost_ret (v := .tuple #[.agg #[.bool false, .string ⟨#[]⟩, .string ⟨#[]⟩, .bool false, .string ⟨#[]⟩], .bool false]) (by simp [results, Try.results23, go_sem, hf.1, hf.2.1, hf.2.2.1, hf.2.2.2.1, hf.2.2.2.2]) rfl ?_
              exact ⟨by rw [HR.out], hans.2⟩
          · have hlS := cutS_len (cutE r).1
            have hlD := dropWhile_len (cutS (cutE r).1).1
            have hz := H2.out.res.cells
            have hz0 := hz.1
            have hz1 := hz.2.1
            have hz2 := hz.2.2.1
            have hz3 := hz.2.2.2.1
            have hz4 := hz.2.2.2.2
            have hy := H2.out.parts.cells
            have hy0 := hy.1
            have hy1 := hy.2.1
            have hy2 := hy.2.2.1
            have hy3 := hy.2.2.2.1
            have hy4 := hy.2.2.2.2
            have hzf0 := H2.out.res.free 0
            have hzf1 := H2.out.res.free 1
            have hzf2 := H2.out.res.free 2
            have hzf3 := H2.out.res.free 3
            have hzf4 := H2.out.res.free 4
            have hyf0 := H2.out.parts.free 0
            have hyf1 := H2.out.parts.free 1
            have hyf2 := H2.out.parts.free 2
            have hyf3 := H2.out.parts.free 3
            have hyf4 := H2.out.parts.free 4
            clear hz hy
            go_wp2_with fail
            clear hz0 hz1 hz2 hz3 hz4 hy0 hy1 hy2 hy3 hy4 hzf0 hzf1 hzf2 hzf3 hzf4 hyf0 hyf1 hyf2 hyf3 hyf4
            refine (cutSign_any (cutE r).1 _ (by omega)).mono ?_
            rintro e w' ⟨rfl, hww⟩
            replace hww := hww.symm
            subst hww
            have hz := H2.out.res.cells
            have hz0 := hz.1
            have hz1 := hz.2.1
            have hz2 := hz.2.2.1
            have hz3 := hz.2.2.2.1
            have hz4 := hz.2.2.2.2
            have hy := H2.out.parts.cells
            have hy0 := hy.1
            have hy1 := hy.2.1
            have hy2 := hy.2.2.1
            have hy3 := hy.2.2.2.1
            have hy4 := hy.2.2.2.2
            have hzf0 := H2.out.res.free 0
            have hzf1 := H2.out.res.free 1
            have hzf2 := H2.out.res.free 2
            have hzf3 := H2.out.res.free 3
            have hzf4 := H2.out.res.free 4
            have hyf0 := H2.out.parts.free 0
            have hyf1 := H2.out.parts.free 1
            have hyf2 := H2.out.parts.free 2
            have hyf3 := H2.out.parts.free 3
            have hyf4 := H2.out.parts.free 4
            clear hz hy
            go_wp2_with fail
            clear hz0 hz1 hz2 hz3 hz4 hy0 hy1 hy2 hy3 hy4 hzf0 hzf1 hzf2 hzf3 hzf4 hyf0 hyf1 hyf2 hyf3 hyf4
            refine (cutDigits_any (cutS (cutE r).1).1 _ (by omega)).mono ?_
            rintro e w' ⟨rfl, m5, rfl⟩
            have H5 := hid ((H2.out.set3 (.bool (cutS (cutE r).1).2)).drewN m5)
            obtain ⟨w5, hw5⟩ : ∃ w5, World.drewN (World.setCell w3 ⟨w.heap.size + 1, 3, none⟩ (.bool (cutS (cutE r).1).2)) m5 = w5 := ⟨_, rfl⟩
            rw [hw5] at H5 ⊢
            clear hw5
            have hd5 := HD3.out
            simp only [hc, true_and, if_true] at hd5
            have HD5 := hid hd5
            clear hd5 HD3 H2
            generalize (cutS (cutE r).1).1.takeWhile isD = ex at *
            generalize (cutS (cutE r).1).1.dropWhile isD = r3 at *
            generalize (cutS (cutE r).1).2 = en at *
            have htl5 := ofL_toList ex
            have htl6 := ofL_toList r3
            have H6 := hid (H5.out.set4 (.string (ofL ex)))
            have hz := H5.out.res.cells
            have hz0 := hz.1
            have hz1 := hz.2.1
            have hz2 := hz.2.2.1
            have hz3 := hz.2.2.2.1
            have hz4 := hz.2.2.2.2
            have hy := H5.out.parts.cells
            have hy0 := hy.1
            have hy1 := hy.2.1
            have hy2 := hy.2.2.1
            have hy3 := hy.2.2.2.1
            have hy4 := hy.2.2.2.2
            have hzf0 := H5.out.res.free 0
            have hzf1 := H5.out.res.free 1
            have hzf2 := H5.out.res.free 2
            have hzf3 := H5.out.res.free 3
            have hzf4 := H5.out.res.free 4
            have hyf0 := H5.out.parts.free 0
            have hyf1 := H5.out.parts.free 1
            have hyf2 := H5.out.parts.free 2
            have hyf3 := H5.out.parts.free 3
            have hyf4 := H5.out.parts.free 4
            clear hz hy
            clear H5
            by_cases hex : ex = []
            · have hd6 := HD5.out
              rw [if_pos hex] at hd6
              have HR : Hid (cutR l = .tuple #[.agg #[.bool false, .string ⟨#[]⟩, .string ⟨#[]⟩, .bool false, .string ⟨#[]⟩], .bool false]) := by
                rw [Hid, cutR, hd6] <;> rfl
              have hem5 : ex.isEmpty = true := by rw [hex]; rfl
              have HEX := hid hex
              clear hd6 HD5 hex
              go_wp2
              have hans := (H6.out).answer (.bool false) (.string ⟨#[]⟩) (.string ⟨#[]⟩) (.bool false) (.string ⟨#[]⟩)
              have hf := hans.1.cells
              refine bodyPost_ret (v := .tuple #[.agg #[.bool false, .string ⟨#[]⟩, .string ⟨#[]⟩, .bool false, .string ⟨#[]⟩], .bool false]) (by simp [results, Try.results23, go_sem, hf.1, hf.2.1, hf.2.2.1, hf.2.2.2.1, hf.2.2.2.2]) rfl ?_
              exact ⟨by rw [HR.out], hans.2⟩
            · have hd6 := HD5.out
              rw [if_neg hex] at hd6
              have hem5 : ex.isEmpty = false := by rw [List.isEmpty_eq_false_iff]; exact hex
              by_cases hr3 : r3 = []
              · rw [if_neg (by rw [hr3]; simp)] at hd6
                have HR : Hid (cutR l = .tuple #[.agg #[.bool neg, .string (ofL wh), .string ⟨#[]⟩, .bool en, .string (ofL ex)], .bool true]) := by
                  rw [Hid, cutR, hd6] <;> rfl
                have hem6 : r3.isEmpty = true := by rw [hr3]; rfl
                have HR3 := hid hr3
                clear hd6 HD5 hr3 hex
                go_wp2
                have hans := (H6.out).answer (.bool neg) (.string (ofL wh)) (.string ⟨#[]⟩) (.bool en) (.string (ofL ex))
                have hf := hans.1.cells
                refine bodyPost_ret (v := .tuple #[.agg #[.bool neg, .string (ofL wh), .string ⟨#[]⟩, .bool en, .string (ofL ex)], .bool true]) (by simp [results, Try.results23, go_sem, hf.1, hf.2.1, hf.2.2.1, hf.2.2.2.1, hf.2.2.2.2]) rfl ?_
                exact ⟨by rw [HR.out], hans.2⟩
              · rw [if_pos hr3] at hd6
                have HR : Hid (cutR l = .tuple #[.agg #[.bool false, .string ⟨#[]⟩, .string ⟨#[]⟩, .bool false, .string ⟨#[]⟩], .bool false]) := by
                  rw [Hid, cutR, hd6] <;> rfl
                have hem6 : r3.isEmpty = false := by rw [List.isEmpty_eq_false_iff]; exact hr3
                clear hd6 HD5 hr3 hex
                go_wp2
                have hans := (H6.out).answer (.bool false) (.string ⟨#[]⟩) (.string ⟨#[]⟩) (.bool false) (.string ⟨#[]⟩)
                have hf := hans.1.cells
                refine bodyPost_ret (v := .tuple #[.agg #[.bool false, .string ⟨#[]⟩, .string ⟨#[]⟩, .bool false, .string ⟨#[]⟩], .bool false]) (by simp [results, Try.results23, go_sem, hf.1, hf.2.1, hf.2.2.1, hf.2.2.2.1, hf.2.2.2.2]) rfl ?_
                exact ⟨by rw [HR.out], hans.2⟩
        · clear hz0 hz1 hz2 hz3 hz4 hy0 hy1 hy2 hy3 hy4 hzf0 hzf1 hzf2 hzf3 hzf4 hyf0 hyf1 hyf2 hyf3 hyf4
          have hz := H2.out.res.cells
          have hz0 := hz.1
          have hz1 := hz.2.1
          have hz2 := hz.2.2.1
          have hz3 := hz.2.2.2.1
          have hz4 := hz.2.2.2.2
          have hy := H2.out.parts.cells
          have hy0 := hy.1
          have hy1 := hy.2.1
          have hy2 := hy.2.2.1
          have hy3 := hy.2.2.2.1
          have hy4 := hy.2.2.2.2
          have hzf0 := H2.out.res.free 0
          have hzf1 := H2.out.res.free 1
          have hzf2 := H2.out.res.free 2
          have hzf3 := H2.out.res.free 3
          have hzf4 := H2.out.res.free 4
          have hyf0 := H2.out.parts.free 0
          have hyf1 := H2.out.parts.free 1
          have hyf2 := H2.out.parts.free 2
          have hyf3 := H2.out.parts.free 3
          have hyf4 := H2.out.parts.free 4
          clear hz hy
          go_wp2_with fail
          clear hz0 hz1 hz2 hz3 hz4 hy0 hy1 hy2 hy3 hy4 hzf0 hzf1 hzf2 hzf3 hzf4 hyf0 hyf1 hyf2 hyf3 hyf4
          refine (cutDigits_any (cutP 46 r).1 _ (by omega)).mono ?_
          rintro e w' ⟨rfl, m3, rfl⟩
          have H3 := hid (H2.out.drewN m3)
          generalize World.drewN w3 m3 = w4 at *
          have hd3 := HD2.out
          simp only [hb, true_and, if_true] at hd3
          have HD3 := hid hd3
          have hlf := dropWhile_len (cutP 46 r).1
          clear hd3 HD2 H2
          generalize (cutP 46 r).1.takeWhile isD = fr at *
          generalize (cutP 46 r).1.dropWhile isD = r2 at *
          have htl4 := ofL_toList fr
          have H4 := hid (H3.out.set2 (.string (ofL fr)))
          have hz := H3.out.res.cells
          have hz0 := hz.1
          have hz1 := hz.2.1
          have hz2 := hz.2.2.1
          have hz3 := hz.2.2.2.1
          have hz4 := hz.2.2.2.2
          have hy := H3.out.parts.cells
          have hy0 := hy.1
          have hy1 := hy.2.1
          have hy2 := hy.2.2.1
          have hy3 := hy.2.2.2.1
          have hy4 := hy.2.2.2.2
          have hzf0 := H3.out.res.free 0
          have hzf1 := H3.out.res.free 1
          have hzf2 := H3.out.res.free 2
          have hzf3 := H3.out.res.free 3
          have hzf4 := H3.out.res.free 4
          have hyf0 := H3.out.parts.free 0
          have hyf1 := H3.out.parts.free 1
          have hyf2 := H3.out.parts.free 2
          have hyf3 := H3.out.parts.free 3
          have hyf4 := H3.out.parts.free 4
          clear hz hy
          clear H3
          by_cases hfr : fr = []
          · have hd4 := HD3.out
            rw [if_pos hfr] at hd4
            have HR : Hid (cutR l = .tuple #[.agg #[.bool false, .string ⟨#[]⟩, .string ⟨#[]⟩, .bool false, .string ⟨#[]⟩], .bool false]) := by
              rw [Hid, cutR, hd4] <;> rfl
            have hem4 : fr.isEmpty = true := by rw [hfr]; rfl
            have HFR := hid hfr
            clear hd4 HD3 hfr
            go_wp2
            have hans := (H4.out).answer (.bool false) (.string ⟨#[]⟩) (.string ⟨#[]⟩) (.bool false) (.string ⟨#[]⟩)
            have hf := hans.1.cells
            refine bodyPost_ret (v := .tuple #[.agg #[.bool false, .string ⟨#[]⟩, .string ⟨#[]⟩, .bool false, .string ⟨#[]⟩], .bool false]) (by simp [results, Try.results23, go_sem, hf.1, hf.2.1, hf.2.2.1, hf.2.2.2.1, hf.2.2.2.2]) rfl ?_
            exact ⟨by rw [HR.out], hans.2⟩
          · have hd4 := HD3.out
            rw [if_neg hfr] at hd4
            have HD4 := hid hd4
            have hem4 : fr.isEmpty = false := by rw [List.isEmpty_eq_false_iff]; exact hfr
            clear hd4 HD3 hfr
            go_wp2_with fail
            clear hz0 hz1 hz2 hz3 hz4 hy0 hy1 hy2 hy3 hy4 hzf0 hzf1 hzf2 hzf3 hzf4 hyf0 hyf1 hyf2 hyf3 hyf4
            generalize w4.setCell ⟨w.heap.size + 1, 2, none⟩ (.string (ofL fr)) = w6 at *
            refine (cutMark_any r2 _ (by omega)).mono ?_
            rintro e w' ⟨rfl, hww⟩
            replace hww := hww.symm
            subst hww
            have hle2 := cutE_len r2
            cases hc : (cutE r2).2
            · have hd5 := HD4.out
              simp only [hc, Bool.false_eq_true, false_and, if_false] at hd5
              have HD5 := hid hd5
              clear hd5 HD4
              have htl3 := ofL_toList r2
              have hz := H4.out.res.cells
              have hz0 := hz.1
              have hz1 := hz.2.1
              have hz2 := hz.2.2.1
              have hz3 := hz.2.2.2.1
              have hz4 := hz.2.2.2.2
              have hy := H4.out.parts.cells
              have hy0 := hy.1
              have hy1 := hy.2.1
              have hy2 := hy.2.2.1
              have hy3 := hy.2.2.2.1
              have hy4 := hy.2.2.2.2
              have hzf0 := H4.out.res.free 0
              have hzf1 := H4.out.res.free 1
              have hzf2 := H4.out.res.free 2
              have hzf3 := H4.out.res.free 3
              have hzf4 := H4.out.res.free 4
              have hyf0 := H4.out.parts.free 0
              have hyf1 := H4.out.parts.free 1
              have hyf2 := H4.out.parts.free 2
              have hyf3 := H4.out.parts.free 3
              have hyf4 := H4.out.parts.free 4
              clear hz hy
              by_cases hr3 : r2 = []
              · have hd6 := HD5.out
                rw [if_neg (by rw [hr3]; simp)] at hd6
                have HR : Hid (cutR l = .tuple #[.agg #[.bool neg, .string (ofL wh), .string (ofL fr), .bool false, .string ⟨#[]⟩], .bool true]) := by
                  rw [Hid, cutR, hd6] <;> rfl
                have hem3 : r2.isEmpty = true := by rw [hr3]; rfl
                have HR3 := hid hr3
                clear hd6 HD5 hr3
                go_wp2
                have hans := (H4.out).answer (.bool neg) (.string (ofL wh)) (.string (ofL fr)) (.bool false) (.string ⟨#[]⟩)
                have hf := hans.1.cells
                refine bodyPost_ret (v := .tuple #[.agg #[.bool neg, .string (ofL wh), .string (ofL fr), .bool false, .string ⟨#[]⟩], .bool true]) (by simp [results, Try.results23, go_sem, hf.1, hf.2.1, hf.2.2.1, hf.2.2.2.1, hf.2.2.2.2]) rfl ?_
                exact ⟨by rw [HR.out], hans.2⟩
              · have hd6 := HD5.out
                rw [if_pos hr3] at hd6
                have HR : Hid (cutR l = .tuple #[.agg #[.bool false, .string ⟨#[]⟩, .string ⟨#[]⟩, .bool false, .string ⟨#[]⟩], .bool false]) := by
                  rw [Hid, cutR, hd6] <;> rfl
                have hem3 : r2.isEmpty = false := by rw [List.isEmpty_eq_false_iff]; exact hr3
                clear hd6 HD5 hr3
                go_wp2
                have hans := (H4.out).answer (.bool false) (.string ⟨#[]⟩) (.string ⟨#[]⟩) (.bool false) (.string ⟨#[]⟩)
                have hf := hans.1.cells
                refine bodyPost_ret (v := .tuple #[.agg #[.bool false, .string ⟨#[]⟩, .string ⟨#[]⟩, .bool false, .string ⟨#[]⟩], .bool false]) (by simp [results, Try.results23, go_sem, hf.1, hf.2.1, hf.2.2.1, hf.2.2.2.1, hf.2.2.2.2]) rfl ?_
                exact ⟨by rw [HR.out], hans.2⟩
            · have hlS := cutS_len (cutE r2).1
              have hlD := dropWhile_len (cutS (cutE r2).1).1
              have hz := H4.out.res.cells
              have hz0 := hz.1
              have hz1 := hz.2.1
              have hz2 := hz.2.2.1
              have hz3 := hz.2.2.2.1
              have hz4 := hz.2.2.2.2
              have hy := H4.out.parts.cells
              have hy0 := hy.1
              have hy1 := hy.2.1
              have hy2 := hy.2.2.1
              have hy3 := hy.2.2.2.1
              have hy4 := hy.2.2.2.2
              have hzf0 := H4.out.res.free 0
              have hzf1 := H4.out.res.free 1
              have hzf2 := H4.out.res.free 2
              have hzf3 := H4.out.res.free 3
              have hzf4 := H4.out.res.free 4
              have hyf0 := H4.out.parts.free 0
              have hyf1 := H4.out.parts.free 1
              have hyf2 := H4.out.parts.free 2
              have hyf3 := H4.out.parts.free 3
              have hyf4 := H4.out.parts.free 4
              clear hz hy
              go_wp2_with fail
              clear hz0 hz1 hz2 hz3 hz4 hy0 hy1 hy2 hy3 hy4 hzf0 hzf1 hzf2 hzf3 hzf4 hyf0 hyf1 hyf2 hyf3 hyf4
              refine (cutSign_any (cutE r2).1 _ (by omega)).mono ?_
              rintro e w' ⟨rfl, hww⟩
              replace hww := hww.symm
              subst hww
              have hz := H4.out.res.cells
              have hz0 := hz.1
              have hz1 := hz.2.1
              have hz2 := hz.2.2.1
              have hz3 := hz.2.2.2.1
              have hz4 := hz.2.2.2.2
              have hy := H4.out.parts.cells
              have hy0 := hy.1
              have hy1 := hy.2.1
              have hy2 := hy.2.2.1
              have hy3 := hy.2.2.2.1
              have hy4 := hy.2.2.2.2
              have hzf0 := H4.out.res.free 0
              have hzf1 := H4.out.res.free 1
              have hzf2 := H4.out.res.free 2
              have hzf3 := H4.out.res.free 3
              have hzf4 := H4.out.res.free 4
              have hyf0 := H4.out.parts.free 0
              have hyf1 := H4.out.parts.free 1
              have hyf2 := H4.out.parts.free 2
              have hyf3 := H4.out.parts.free 3
              have hyf4 := H4.out.parts.free 4
              clear hz hy
              go_wp2_with fail
              clear hz0 hz1 hz2 hz3 hz4 hy0 hy1 hy2 hy3 hy4 hzf0 hzf1 hzf2 hzf3 hzf4 hyf0 hyf1 hyf2 hyf3 hyf4
              refine (cutDigits_any (cutS (cutE r2).1).1 _ (by omega)).mono ?_
              rintro e w' ⟨rfl, m5, rfl⟩
              have H5 := hid ((H4.out.set3 (.bool (cutS (cutE r2).1).2)).drewN m5)
              obtain ⟨w5, hw5⟩ : ∃ w5, World.drewN (World.setCell w6 ⟨w.heap.size + 1, 3, none⟩ (.bool (cutS (cutE r2).1).2)) m5 = w5 := ⟨_, rfl⟩
              rw [hw5] at H5 ⊢
              clear hw5
              have hd5 := HD4.out
              simp only [hc, true_and, if_true] at hd5
              have HD5 := hid hd5
              clear hd5 HD4 H4
              generalize (cutS (cutE r2).1).1.takeWhile isD = ex at *
              generalize (cutS (cutE r2).1).1.dropWhile isD = r3 at *
              generalize (cutS (cutE r2).1).2 = en at *
              have htl5 := ofL_toList ex
              have htl6 := ofL_toList r3
              have H6 := hid (H5.out.set4 (.string (ofL ex)))
              have hz := H5.out.res.cells
              have hz0 := hz.1
              have hz1 := hz.2.1
              have hz2 := hz.2.2.1
              have hz3 := hz.2.2.2.1
              have hz4 := hz.2.2.2.2
              have hy := H5.out.parts.cells
              have hy0 := hy.1
              have hy1 := hy.2.1
              have hy2 := hy.2.2.1
              have hy3 := hy.2.2.2.1
              have hy4 := hy.2.2.2.2
              have hzf0 := H5.out.res.free 0
              have hzf1 := H5.out.res.free 1
              have hzf2 := H5.out.res.free 2
              have hzf3 := H5.out.res.free 3
              have hzf4 := H5.out.res.free 4
              have hyf0 := H5.out.parts.free 0
              have hyf1 := H5.out.parts.free 1
              have hyf2 := H5.out.parts.free 2
              have hyf3 := H5.out.parts.free 3
              have hyf4 := H5.out.parts.free 4
              clear hz hy
              clear H5
              by_cases hex : ex = []
              · have hd6 := HD5.out
                rw [if_pos hex] at hd6
                have HR : Hid (cutR l = .tuple #[.agg #[.bool false, .string ⟨#[]⟩, .string ⟨#[]⟩, .bool false, .string ⟨#[]⟩], .bool false]) := by
                  rw [Hid, cutR, hd6] <;> rfl
                have hem5 : ex.isEmpty = true := by rw [hex]; rfl
                have HEX := hid hex
                clear hd6 HD5 hex
                go_wp2
                have hans := (H6.out).answer (.bool false) (.string ⟨#[]⟩) (.string ⟨#[]⟩) (.bool false) (.string ⟨#[]⟩)
                have hf := hans.1.cells
                refine bodyPost_ret (v := .tuple #[.agg #[.bool false, .string ⟨#[]⟩, .string ⟨#[]⟩, .bool false, .string ⟨#[]⟩], .bool false]) (by simp [results, Try.results23, go_sem, hf.1, hf.2.1, hf.2.2.1, hf.2.2.2.1, hf.2.2.2.2]) rfl ?_
                exact ⟨by rw [HR.out], hans.2⟩
              · have hd6 := HD5.out
                rw [if_neg hex] at hd6
                have hem5 : ex.isEmpty = false := by rw [List.isEmpty_eq_false_iff]; exact hex
                by_cases hr3 : r3 = []
                · rw [if_neg (by rw [hr3]; simp)] at hd6
                  have HR : Hid (cutR l = .tuple #[.agg #[.bool neg, .string (ofL wh), .string (ofL fr), .bool en, .string (ofL ex)], .bool true]) := by
                    rw [Hid, cutR, hd6] <;> rfl
                  have hem6 : r3.isEmpty = true := by rw [hr3]; rfl
                  have HR3 := hid hr3
                  clear hd6 HD5 hr3 hex
                  go_wp2
                  have hans := (H6.out).answer (.bool neg) (.string (ofL wh)) (.string (ofL fr)) (.bool en) (.string (ofL ex))
                  have hf := hans.1.cells
                  refine bodyPost_ret (v := .tuple #[.agg #[.bool neg, .string (ofL wh), .string (ofL fr), .bool en, .string (ofL ex)], .bool true]) (by simp [results, Try.results23, go_sem, hf.1, hf.2.1, hf.2.2.1, hf.2.2.2.1, hf.2.2.2.2]) rfl ?_
                  exact ⟨by rw [HR.out], hans.2⟩
                · rw [if_pos hr3] at hd6
                  have HR : Hid (cutR l = .tuple #[.agg #[.bool false, .string ⟨#[]⟩, .string ⟨#[]⟩, .bool false, .string ⟨#[]⟩], .bool false]) := by
                    rw [Hid, cutR, hd6] <;> rfl
                  have hem6 : r3.isEmpty = false := by rw [List.isEmpty_eq_false_iff]; exact hr3
                  clear hd6 HD5 hr3 hex
                  go_wp2
                  have hans := (H6.out).answer (.bool false) (.string ⟨#[]⟩) (.string ⟨#[]⟩) (.bool false) (.string ⟨#[]⟩)
                  have hf := hans.1.cells
                  refine bodyPost_ret (v := .tuple #[.agg #[.bool false, .string ⟨#[]⟩, .string ⟨#[]⟩, .bool false, .string ⟨#[]⟩], .bool false]) (by simp [results, Try.results23, go_sem, hf.1, hf.2.1, hf.2.2.1, hf.2.2.2.1, hf.2.2.2.2]) rfl ?_
                  exact ⟨by rw [HR.out], hans.2⟩
end Go.Proofs.Ytldihimiblndcaa
