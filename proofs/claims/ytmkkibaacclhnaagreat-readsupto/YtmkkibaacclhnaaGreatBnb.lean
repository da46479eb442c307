/-
  A step of the walk, the part named Bnb. No theorem of the row.
-/
import Derived.Test.YtmkkibaacclhnaaGreatXcd
import Derived.Test.YtmkkibaacclhnaaGreatBmy
import Derived.Deep.DeepCutAuto
import Derived.Deep.CutBlock
namespace Go.Proofs.YtmkkibaacclhnaaGreat
open Go.RowKit

/-- what a text says, if it is a token -/
def saidV (neg : Bool) (wh fr : List UInt8) (en : Bool) (ex : List UInt8) : Value :=
  .agg #[.bool neg, .string (ofL (wh ++ fr)), .int .i64 ((if en then -((min (num (dv ex)) 1099511627776 : Nat) : Int) else ((min (num (dv ex)) 1099511627776 : Nat) : Int)) - (fr.length : Int))]
def SaidPost (l : List UInt8) (e : Ending) : Prop :=
  (∀ neg wh fr en ex, cutL l = some (neg, wh, fr, en, ex) → e = .returned (.tuple #[saidV neg wh fr en ex, .bool true])) ∧ (cutL l = none → ∃ (m : Bool) (D : List UInt8) (X : Int), e = .returned (.tuple #[.agg #[.bool m, .string (ofL D), .int .i64 X], .bool false]))
theorem drop_cut (l : List UInt8) : l.drop (if (cutP 45 l).2 = true then 1 else 0) = (cutP 45 l).1 := by
  unfold cutP
  split
  · rw [if_pos rfl, List.drop_one]
  · rfl
theorem dropWhile_noD (l : List UInt8) : NoD (l.dropWhile isD) := by
  induction l with
  | nil => intro c h; cases h
  | cons x l ih =>
    intro c h
    cases hd : isD x
    · rw [List.dropWhile_cons, if_neg (by rw [hd]; simp)] at h
      simp at h; subst h; exact hd
    · rw [List.dropWhile_cons, if_pos hd] at h
      exact ih c h
theorem cutS_en (r : List UInt8) : decide (r.head? = some 45) = (cutS r).2 := by
  unfold cutS
  by_cases h43 : r.head? = some 43
  · obtain ⟨r', rfl⟩ : ∃ r', r = 43 :: r' := by
      cases r with
      | nil => cases h43
      | cons x r => simp at h43; subst h43; exact ⟨r, rfl⟩
    rw [cutP_yes]; rfl
  · rw [cutP_no h43]
    by_cases h45 : r.head? = some 45
    · obtain ⟨r', rfl⟩ : ∃ r', r = 45 :: r' := by
        cases r with
        | nil => cases h45
        | cons x r => simp at h45; subst h45; exact ⟨r, rfl⟩
      rw [cutP_yes]; rfl
    · rw [cutP_no h45, decide_eq_false h45]; rfl
theorem cutS_drop {r : List UInt8} (h : r.head? = some 45 ∨ r.head? = some 43) : r.drop 1 = (cutS r).1 := by
  cases r with
  | nil => simp at h
  | cons x r =>
    simp at h
    rcases h with rfl | rfl
    · rw [cutS, cutP_no (by simp), cutP_yes]; rfl
    · rw [cutS, cutP_yes]; rfl
theorem cutS_same {r : List UInt8} (h : ¬ (r.head? = some 45 ∨ r.head? = some 43)) : (cutS r).1 = r := by
  rw [cutS, cutP_no (fun h1 => h (.inr h1)), cutP_no (fun h1 => h (.inl h1))]; rfl
/-- the boxes of 'said' -/
def SaidW (w : World) (m : Bool) (D : List UInt8) (X : Int) : World := (w.alloc (.cells #[.bool false, .string ⟨#[]⟩, .int .i64 0] 160)).alloc (.cells #[.bool m, .string (ofL D), .int .i64 X] 160)
/-- what is left of a function's text behind its first statements -/
def dropC : Nat → Code → Code
  | 0, c => c
  | n + 1, .seq _ b => dropC n b
  | _ + 1, c => c
/-- 'said' from the exponent on -/
noncomputable def saidT : Code := dropC 8 (Tryz.f102.body.getD .skip)
/-- the branch of an 'if' -/
def thenOf : Code → Code
  | .seq (.seq _ (.cond _ a _)) _ => a
  | c => c
/-- the exponent's digits, and what is left behind them -/
noncomputable def saidX : Code := dropC 5 (thenOf saidT)
noncomputable def saidE : Code := dropC 9 (Tryz.f102.body.getD .skip)
set_option maxRecDepth 1000000 in
set_option maxHeartbeats 8000000 in
theorem said_exp (l wh fr ex r6 : List UInt8) (k : Nat) (m en : Bool) (w wc : World) (K : Act → World → Prop) (u1 u3 u8 u9 u10 u11 u12 u13 u14 u15 u16 u17 u18 u19 u20 u21 u22 u23 u24 u25 u26 u27 u28 u29 u30 u31 u32 u33 u34 u35 u36 u37 u38 u39 u40 u41 u42 u43 u44 u45 u46 u47 u48 u49 u50 u51 u52 u53 u54 u55 u56 u57 u58 u59 u60 u61 u62 u63 u64 u65 u66 u67 u68 u69 u70 u71 u72 u73 u74 u75 u76 u77 u78 u79 u80 u81 u82 u83 u84 u85 u86 u87 u88 u89 u90 u91 u92 u93 u94 u95 u96 u97 u98 u99 u100 u101 u102 u103 u104 u105 u106 u107 u108 u109 u110 u111 u112 u113 u114 u115 u116 u117 u118 u119 u120 u121 u122 u123 u124 u125 u126 u127 u128 u129 u130 u131 u132 u133 u134 u135 u136 u137 u138 u139 u140 u141 u142 u143 u144 u145 u146 u147 u148 u149 u150 u151 u152 u153 u154 u155 : Value)
    (hK : ∀ a w', Code.wp Tryz.prog saidE (bodyPost Tryz.prog Tryz.f102 (fun e w' => SaidPost l e ∧ Fr (fun _ => False) w w')) a w' → K a w')
    (hl : l.length ≤ 4000000) (hfl : fr.length ≤ l.length) (hxp : 0 < ex.length) (hl6 : k + (ex.length + r6.length) = l.length) (hAe : AllD ex)
    (HGE : Hid (∀ j (hj : j < ex.length), ∃ h : k + j < l.length, (ofL l)[k + j]'(by rw [ofL_size]; exact h) = ex[j])) (HC5 : Hid (cutL l = cutL4 m wh fr en ex r6))
    (hbR : Hid (wc.heap[w.heap.size]? = some (.cells #[.bool false, .string ⟨#[]⟩, .int .i64 0] 160 (0, 0)))) (hbT : Hid (wc.heap[w.heap.size + 1]? = some (.cells #[.bool m, .string (ofL (wh ++ fr)), .int .i64 (-(fr.length : Int))] 160 (0, 0)))) (hF : Hid (Fr (fun _ => False) w wc)) :
    Code.wp Tryz.prog saidX (Exit.then K (bodyPost Tryz.prog Tryz.f102 (fun e w' => SaidPost l e ∧ Fr (fun _ => False) w w'))) ⟨List.toArray ((Value.string (ofL l)) :: u1 :: (Value.pointer (some ⟨w.heap.size, 0, none⟩)) :: u3 :: (Value.pointer (some ⟨w.heap.size + 1, 0, none⟩)) :: (Value.int .i64 ((k : Nat) : Int)) :: (Value.int .i64 ((k : Int) + (ex.length : Int))) :: (Value.bool en) :: u8 :: u9 :: u10 :: u11 :: u12 :: u13 :: u14 :: u15 :: u16 :: u17 :: u18 :: u19 :: u20 :: u21 :: u22 :: u23 :: u24 :: u25 :: u26 :: u27 :: u28 :: u29 :: u30 :: u31 :: u32 :: u33 :: u34 :: u35 :: u36 :: u37 :: u38 :: u39 :: u40 :: u41 :: u42 :: u43 :: u44 :: u45 :: u46 :: u47 :: u48 :: u49 :: u50 :: u51 :: u52 :: u53 :: u54 :: u55 :: u56 :: u57 :: u58 :: u59 :: u60 :: u61 :: u62 :: u63 :: u64 :: u65 :: u66 :: u67 :: u68 :: u69 :: u70 :: u71 :: u72 :: u73 :: u74 :: u75 :: u76 :: u77 :: u78 :: u79 :: u80 :: u81 :: u82 :: u83 :: u84 :: u85 :: u86 :: u87 :: u88 :: u89 :: u90 :: u91 :: u92 :: u93 :: u94 :: u95 :: u96 :: u97 :: u98 :: u99 :: u100 :: u101 :: u102 :: u103 :: u104 :: u105 :: u106 :: u107 :: u108 :: u109 :: u110 :: u111 :: u112 :: u113 :: u114 :: u115 :: u116 :: u117 :: u118 :: u119 :: u120 :: u121 :: u122 :: u123 :: u124 :: u125 :: u126 :: u127 :: u128 :: u129 :: u130 :: u131 :: u132 :: u133 :: u134 :: u135 :: u136 :: u137 :: u138 :: u139 :: u140 :: u141 :: u142 :: u143 :: u144 :: u145 :: u146 :: u147 :: u148 :: u149 :: u150 :: u151 :: u152 :: u153 :: u154 :: u155 :: []), []⟩ wc := by
  have hsz := ofL_size l
  obtain ⟨D, hD⟩ : ∃ D, wh ++ fr = D := ⟨_, rfl⟩
  rw [hD] at hbT
  have HAe := hid hAe
  clear hAe
  conv => arg 2; whnf
  conv at hK => enter [a, w', 1, 2]; whnf
  go_upto_block 0 with fail
  go_cut [8] (fun q wr => q = .int .i64 ((min (num (dv ex)) 1099511627776 : Nat) : Int) ∧ wr = wc)
  case first =>
    clear hK
    go_wp2
    go_loopw [8, 9] (fun q i wr => ∃ j : Nat, j ≤ ex.length ∧ i = .int .i64 ((k + j : Nat) : Int) ∧ q = .int .i64 ((min (num (dv (ex.take j))) 1099511627776 : Nat) : Int) ∧ wr = wc) (fun _ i _ => l.length - (intOf i).toNat)
    case atStart => exact ⟨0, by omega, by go_num, by simp [dv, num], rfl⟩
    case round =>
      obtain ⟨j, hj, rfl, rfl, rfl⟩ := hrel
      have hqb : min (num (dv (ex.take j))) 1099511627776 ≤ 1099511627776 := Nat.min_le_right _ _
      by_cases hjl : j < ex.length
      · obtain ⟨hkj, hgj⟩ := HGE.out j hjl
        obtain ⟨ha, hb⟩ := (isD_iff _).1 (HAe.out _ (List.getElem_mem hjl))
        have hst := hid (show min (min (num (dv (ex.take j))) 1099511627776 * 10 + (ex[j].toNat - 48)) 1099511627776 = min (num (dv (ex.take (j + 1)))) 1099511627776 from by
          rw [num_le_step, List.take_succ_eq_append_getElem hjl, dv_append]; rfl)
        generalize min (num (dv (ex.take j))) 1099511627776 = q at *
        generalize hcc : ex[j] = y at *
        clear hcc
        go_wp2
        go_roundw
        case rel => exact ⟨j + 1, by omega, by go_num, by rw [← hst.out]; go_num, trivial⟩
        case measure => simp [intOf]; omega
      · obtain rfl : j = ex.length := by omega
        rw [List.take_length] at hqb ⊢
        go_wp2
        go_meet
        exact ⟨rfl, rfl⟩
  case rest =>
    obtain ⟨rfl, rfl⟩ := hcut
    have hqb : min (num (dv ex)) 1099511627776 ≤ 1099511627776 := Nat.min_le_right _ _
    obtain ⟨q, hq⟩ : ∃ q, min (num (dv ex)) 1099511627776 = q := ⟨_, rfl⟩
    rw [hq] at hqb ⊢
    have HQ := hid hq
    have g0 := three_cell0 hbT.out
    have g1 := three_cell1 hbT.out
    have g2 := three_cell2 hbT.out
    have gf2 := three_free (j := 2) hbT.out
    have d0 := three_cell0 hbR.out
    have d1 := three_cell1 hbR.out
    have d2 := three_cell2 hbR.out
    have df0 := three_free (j := 0) hbR.out
    have df1 := three_free (j := 1) hbR.out
    have df2 := three_free (j := 2) hbR.out
    clear hq HGE HAe
    cases en
    · by_cases h6 : r6 = []
      ·
        have HN := hid (show cutL l = some (m, wh, fr, false, ex) from HC5.out.trans (by rw [cutL4, if_pos h6]))
        have hend : ((k : Int) + (ex.length : Int) == (l.length : Int)) = true := beq_iff_eq.2 (by rw [h6] at hl6; simp at hl6; omega)
        clear h6
        go_wp2
        have hRz := (Below.heap_setCell wc ⟨w.heap.size + 1, 2, none⟩ (.int .i64 (-(fr.length : Int) + (q : Int))) w.heap.size (by simp)).trans hbR.out
        have hfin := three_set2 (u := .int .i64 (-(fr.length : Int) + (q : Int))) (three_set1 (u := .string (ofL D)) (three_set0 (u := .bool m) hRz))
        have e0 := three_cell0 hfin
        have e1 := three_cell1 hfin
        have e2 := three_cell2 hfin
        refine bodyPost_ret (v := .tuple #[.agg #[.bool m, .string (ofL D), .int .i64 (-(fr.length : Int) + (q : Int))], .bool true]) (by simp [results, Tryz.results102, go_sem, e0, e1, e2]) rfl ?_
        refine ⟨?_, (((hF.out.setCell (.inr (by simp)) _).setCell (.inr (by simp)) _).setCell (.inr (by simp)) _).setCell (.inr (by simp)) _⟩
        refine ⟨fun _ _ _ _ _ h => ?_, fun h => (by rw [HN.out] at h; cases h)⟩
        rw [HN.out] at h
        simp only [Option.some.injEq, Prod.mk.injEq] at h
        obtain ⟨rfl, rfl, rfl, rfl, rfl⟩ := h
        rw [saidV, hD, HQ.out]
        congr 6
        simp
        omega
      ·
        have HN := hid (show cutL l = none from HC5.out.trans (by rw [cutL4, if_neg h6]))
        have h6p : 0 < r6.length := by cases r6 with | nil => exact absurd rfl h6 | cons => simp
        have hend : ((k : Int) + (ex.length : Int) == (l.length : Int)) = false := beq_eq_false_iff_ne.2 (by omega)
        clear h6
        go_wp2
        have hRz := (Below.heap_setCell wc ⟨w.heap.size + 1, 2, none⟩ (.int .i64 (-(fr.length : Int) + (q : Int))) w.heap.size (by simp)).trans hbR.out
        have hfin := three_set2 (u := .int .i64 (-(fr.length : Int) + (q : Int))) (three_set1 (u := .string (ofL D)) (three_set0 (u := .bool m) hRz))
        have e0 := three_cell0 hfin
        have e1 := three_cell1 hfin
        have e2 := three_cell2 hfin
        refine bodyPost_ret (v := .tuple #[.agg #[.bool m, .string (ofL D), .int .i64 (-(fr.length : Int) + (q : Int))], .bool false]) (by simp [results, Tryz.results102, go_sem, e0, e1, e2]) rfl ?_
        refine ⟨?_, (((hF.out.setCell (.inr (by simp)) _).setCell (.inr (by simp)) _).setCell (.inr (by simp)) _).setCell (.inr (by simp)) _⟩
        exact ⟨fun _ _ _ _ _ h => (by rw [HN.out] at h; cases h), fun _ => ⟨_, _, _, rfl⟩⟩
    · by_cases h6 : r6 = []
      ·
        have HN := hid (show cutL l = some (m, wh, fr, true, ex) from HC5.out.trans (by rw [cutL4, if_pos h6]))
        have hend : ((k : Int) + (ex.length : Int) == (l.length : Int)) = true := beq_iff_eq.2 (by rw [h6] at hl6; simp at hl6; omega)
        clear h6
        go_wp2
        have hRz := (Below.heap_setCell wc ⟨w.heap.size + 1, 2, none⟩ (.int .i64 (-(fr.length : Int) + -(q : Int))) w.heap.size (by simp)).trans hbR.out
        have hfin := three_set2 (u := .int .i64 (-(fr.length : Int) + -(q : Int))) (three_set1 (u := .string (ofL D)) (three_set0 (u := .bool m) hRz))
        have e0 := three_cell0 hfin
        have e1 := three_cell1 hfin
        have e2 := three_cell2 hfin
        refine bodyPost_ret (v := .tuple #[.agg #[.bool m, .string (ofL D), .int .i64 (-(fr.length : Int) + -(q : Int))], .bool true]) (by simp [results, Tryz.results102, go_sem, e0, e1, e2]) rfl ?_
        refine ⟨?_, (((hF.out.setCell (.inr (by simp)) _).setCell (.inr (by simp)) _).setCell (.inr (by simp)) _).setCell (.inr (by simp)) _⟩
        refine ⟨fun _ _ _ _ _ h => ?_, fun h => (by rw [HN.out] at h; cases h)⟩
        rw [HN.out] at h
        simp only [Option.some.injEq, Prod.mk.injEq] at h
        obtain ⟨rfl, rfl, rfl, rfl, rfl⟩ := h
        rw [saidV, hD, HQ.out]
        congr 6
        simp
        omega
      ·
        have HN := hid (show cutL l = none from HC5.out.trans (by rw [cutL4, if_neg h6]))
        have h6p : 0 < r6.length := by cases r6 with | nil => exact absurd rfl h6 | cons => simp
        have hend : ((k : Int) + (ex.length : Int) == (l.length : Int)) = false := beq_eq_false_iff_ne.2 (by omega)
        clear h6
        go_wp2
        have hRz := (Below.heap_setCell wc ⟨w.heap.size + 1, 2, none⟩ (.int .i64 (-(fr.length : Int) + -(q : Int))) w.heap.size (by simp)).trans hbR.out
        have hfin := three_set2 (u := .int .i64 (-(fr.length : Int) + -(q : Int))) (three_set1 (u := .string (ofL D)) (three_set0 (u := .bool m) hRz))
        have e0 := three_cell0 hfin
        have e1 := three_cell1 hfin
        have e2 := three_cell2 hfin
        refine bodyPost_ret (v := .tuple #[.agg #[.bool m, .string (ofL D), .int .i64 (-(fr.length : Int) + -(q : Int))], .bool false]) (by simp [results, Tryz.results102, go_sem, e0, e1, e2]) rfl ?_
        refine ⟨?_, (((hF.out.setCell (.inr (by simp)) _).setCell (.inr (by simp)) _).setCell (.inr (by simp)) _).setCell (.inr (by simp)) _⟩
        exact ⟨fun _ _ _ _ _ h => (by rw [HN.out] at h; cases h), fun _ => ⟨_, _, _, rfl⟩⟩
end Go.Proofs.YtmkkibaacclhnaaGreat

namespace Go.Proofs.YtmkkibaacclhnaaGreat
open Go.RowKit

set_option maxRecDepth 1000000 in
set_option maxHeartbeats 8000000 in
theorem said_tail (l wh fr r3 : List UInt8) (n : Nat) (m : Bool) (w wc : World) (u1 u3 u5 u7 u8 u9 u10 u11 u12 u13 u14 u15 u16 u17 u18 u19 u20 u21 u22 u23 u24 u25 u26 u27 u28 u29 u30 u31 u32 u33 u34 u35 u36 u37 u38 u39 u40 u41 u42 u43 u44 u45 u46 u47 u48 u49 u50 u51 u52 u53 u54 u55 u56 u57 u58 u59 u60 u61 u62 u63 u64 u65 u66 u67 u68 u69 u70 u71 u72 u73 u74 u75 u76 u77 u78 u79 u80 u81 u82 u83 u84 u85 u86 u87 u88 u89 u90 u91 u92 u93 u94 u95 u96 u97 u98 u99 u100 u101 u102 u103 u104 u105 u106 u107 u108 u109 u110 u111 u112 u113 u114 u115 u116 u117 u118 u119 u120 u121 u122 u123 u124 u125 u126 u127 u128 u129 u130 u131 u132 u133 u134 u135 u136 u137 u138 u139 u140 u141 u142 u143 u144 u145 u146 u147 u148 u149 u150 u151 u152 u153 u154 u155 : Value) (hl : l.length ≤ 4000000) (hC3 : Hid (cutL l = cutL3 m wh fr r3)) (hDn : Hid (l.drop n = r3)) (hnl : n + r3.length = l.length) (hfl : fr.length ≤ l.length)
    (hbR : Hid (wc.heap[w.heap.size]? = some (.cells #[.bool false, .string ⟨#[]⟩, .int .i64 0] 160 (0, 0)))) (hbT : Hid (wc.heap[w.heap.size + 1]? = some (.cells #[.bool m, .string (ofL (wh ++ fr)), .int .i64 (-(fr.length : Int))] 160 (0, 0)))) (hF : Hid (Fr (fun _ => False) w wc)) :
    Code.wp Tryz.prog saidT (bodyPost Tryz.prog Tryz.f102 (fun e w' => SaidPost l e ∧ Fr (fun _ => False) w w')) ⟨List.toArray ((Value.string (ofL l)) :: u1 :: (Value.pointer (some ⟨w.heap.size, 0, none⟩)) :: u3 :: (Value.pointer (some ⟨w.heap.size + 1, 0, none⟩)) :: u5 :: (Value.int .i64 (n : Int)) :: u7 :: u8 :: u9 :: u10 :: u11 :: u12 :: u13 :: u14 :: u15 :: u16 :: u17 :: u18 :: u19 :: u20 :: u21 :: u22 :: u23 :: u24 :: u25 :: u26 :: u27 :: u28 :: u29 :: u30 :: u31 :: u32 :: u33 :: u34 :: u35 :: u36 :: u37 :: u38 :: u39 :: u40 :: u41 :: u42 :: u43 :: u44 :: u45 :: u46 :: u47 :: u48 :: u49 :: u50 :: u51 :: u52 :: u53 :: u54 :: u55 :: u56 :: u57 :: u58 :: u59 :: u60 :: u61 :: u62 :: u63 :: u64 :: u65 :: u66 :: u67 :: u68 :: u69 :: u70 :: u71 :: u72 :: u73 :: u74 :: u75 :: u76 :: u77 :: u78 :: u79 :: u80 :: u81 :: u82 :: u83 :: u84 :: u85 :: u86 :: u87 :: u88 :: u89 :: u90 :: u91 :: u92 :: u93 :: u94 :: u95 :: u96 :: u97 :: u98 :: u99 :: u100 :: u101 :: u102 :: u103 :: u104 :: u105 :: u106 :: u107 :: u108 :: u109 :: u110 :: u111 :: u112 :: u113 :: u114 :: u115 :: u116 :: u117 :: u118 :: u119 :: u120 :: u121 :: u122 :: u123 :: u124 :: u125 :: u126 :: u127 :: u128 :: u129 :: u130 :: u131 :: u132 :: u133 :: u134 :: u135 :: u136 :: u137 :: u138 :: u139 :: u140 :: u141 :: u142 :: u143 :: u144 :: u145 :: u146 :: u147 :: u148 :: u149 :: u150 :: u151 :: u152 :: u153 :: u154 :: u155 :: []), []⟩ wc := by
  have hsz := ofL_size l
  conv => arg 2; whnf
  obtain ⟨D, hD⟩ : ∃ D, wh ++ fr = D := ⟨_, rfl⟩
  rw [hD] at hbT
  have g0 := three_cell0 hbT.out
  have g1 := three_cell1 hbT.out
  have g2 := three_cell2 hbT.out
  have gf2 := three_free (j := 2) hbT.out
  have d0 := three_cell0 hbR.out
  have d1 := three_cell1 hbR.out
  have d2 := three_cell2 hbR.out
  have df0 := three_free (j := 0) hbR.out
  have df1 := three_free (j := 1) hbR.out
  have df2 := three_free (j := 2) hbR.out
  have hgn : ∀ (x : UInt8) (r : List UInt8) (k : Nat), l.drop k = x :: r → ∃ h : k < l.length, (ofL l)[k]'(by rw [hsz]; exact h) = x := by
    intro x r k hk
    have hkl : k < l.length := by
      rcases Nat.lt_or_ge k l.length with h | h
      · exact h
      · rw [List.drop_of_length_le h] at hk; cases hk
    refine ⟨hkl, ?_⟩
    rw [ofL_get]
    rw [List.drop_eq_getElem_cons hkl] at hk
    exact (List.cons.inj hk).1
  have HGN := hid hgn
  clear hgn
  cases r3 with
  | nil =>
    have hnn : l.length = n := by simpa using hnl.symm
    clear hnl
    have HN := hid (show cutL l = some (m, wh, fr, false, []) from hC3.out)
    subst hnn
    go_wp2
    have hfin := three_set2 (u := .int .i64 (-(fr.length : Int))) (three_set1 (u := .string (ofL D)) (three_set0 (u := .bool m) hbR.out))
    have e0 := three_cell0 hfin
    have e1 := three_cell1 hfin
    have e2 := three_cell2 hfin
    refine bodyPost_ret (v := .tuple #[.agg #[.bool m, .string (ofL D), .int .i64 (-(fr.length : Int))], .bool true]) (by simp [results, Tryz.results102, go_sem, e0, e1, e2]) rfl ?_
    refine ⟨?_, ((hF.out.setCell (.inr (by simp)) _).setCell (.inr (by simp)) _).setCell (.inr (by simp)) _⟩
    refine ⟨fun _ _ _ _ _ h => ?_, fun h => (by rw [HN.out] at h; cases h)⟩
    rw [HN.out] at h
    simp only [Option.some.injEq, Prod.mk.injEq] at h
    obtain ⟨rfl, rfl, rfl, rfl, rfl⟩ := h
    rw [saidV, hD]
    simp [dv, num]
  | cons x r4 =>
    obtain ⟨hnl', hgx⟩ := HGN.out x r4 n hDn.out
    have hnn : ((n : Int) == (l.length : Int)) = false := beq_eq_false_iff_ne.2 (by omega)
    have hr4 : n + 1 + r4.length = l.length := by rw [← hnl]; simp; omega
    go_upto_region 16 with fail
    go_cut [90] (fun b wc' => b = .bool (decide (x = 101 ∨ x = 69)) ∧ wc' = wc)
    case first =>
      by_cases h1 : x = 101
      · have hx : ((x.toNat : Int) == 101) = true := by rw [h1]; rfl
        have HB := hid (show decide (x = 101 ∨ x = 69) = true by simp [h1])
        clear h1
        go_wp2
        go_meet
        exact ⟨by rw [HB.out], rfl⟩
      · have hx : ((x.toNat : Int) == 101) = false := beq_eq_false_iff_ne.2 (by have := toNat_ne h1; simp at this; omega)
        by_cases h2 : x = 69
        · have hx2 : ((x.toNat : Int) == 69) = true := by rw [h2]; rfl
          have HB := hid (show decide (x = 101 ∨ x = 69) = true by simp [h2])
          clear h1 h2
          go_wp2
          go_meet
          exact ⟨by rw [HB.out], rfl⟩
        · have hx2 : ((x.toNat : Int) == 69) = false := beq_eq_false_iff_ne.2 (by have := toNat_ne h2; simp at this; omega)
          have HB := hid (show decide (x = 101 ∨ x = 69) = false by simp [h1, h2])
          clear h1 h2
          go_wp2
          go_meet
          exact ⟨by rw [HB.out], rfl⟩
    case rest =>
      obtain ⟨rfl, rfl⟩ := hcut
      by_cases hE : x = 101 ∨ x = 69
      · rw [decide_eq_true hE]
        have hcE : cutE (x :: r4) = (r4, true) := by
          unfold cutE
          rcases hE with rfl | rfl
          · rw [cutP_yes]; rfl
          · rw [cutP_no (by simp), cutP_yes]; rfl
        have HC4 := hid (show cutL l = (if (cutS r4).1.takeWhile isD = [] then none else cutL4 m wh fr (cutS r4).2 ((cutS r4).1.takeWhile isD) ((cutS r4).1.dropWhile isD)) from by rw [hC3.out, cutL3, hcE]; rfl)
        have HD4 := hid (show l.drop (n + 1) = r4 from by rw [← List.drop_drop, hDn.out]; rfl)
        clear hcE hE hC3 hDn hgx hnn
        have hn1 : n + 1 ≤ l.length := by omega
        go_upto_region 18 with fail
        go_cut [7] (fun b wc' => b = .bool (decide (r4.head? = some 45)) ∧ wc' = wc)
        case first =>
          cases r4 with
          | nil =>
            have hle : l.length = n + 1 := by simpa using hr4.symm
            clear hr4
            go_wp2
            go_meet
            exact ⟨rfl, rfl⟩
          | cons y r5 =>
            obtain ⟨hly, hgy⟩ := HGN.out y r5 (n + 1) HD4.out
            by_cases h45 : y = 45
            · have hx : ((y.toNat : Int) == 45) = true := by rw [h45]; rfl
              have HB := hid (show decide ((y :: r5).head? = some 45) = true by simp [h45])
              clear h45
              go_wp2
              go_meet
              exact ⟨by rw [HB.out], rfl⟩
            · have hx : ((y.toNat : Int) == 45) = false := beq_eq_false_iff_ne.2 (by have := toNat_ne h45; simp at this; omega)
              have HB := hid (show decide ((y :: r5).head? = some 45) = false by simp [h45])
              clear h45
              go_wp2
              go_meet
              exact ⟨by rw [HB.out], rfl⟩
        case rest =>
          obtain ⟨rfl, rfl⟩ := hcut
          obtain ⟨en, hen0⟩ : ∃ en, decide (r4.head? = some 45) = en := ⟨_, rfl⟩
          rw [hen0]
          have HEN := hid (hen0.symm.trans (cutS_en r4))
          clear hen0
          go_upto_region 19 with fail
          go_cut [118] (fun b wc' => b = .bool (decide (r4.head? = some 45 ∨ r4.head? = some 43)) ∧ wc' = wc)
          case first =>
            cases r4 with
            | nil =>
              have hle : l.length = n + 1 := by simpa using hr4.symm
              clear hr4
              go_wp2
              go_meet
              exact ⟨rfl, rfl⟩
            | cons y r5 =>
              obtain ⟨hly, hgy⟩ := HGN.out y r5 (n + 1) HD4.out
              by_cases h45 : y = 45
              · have hx : ((y.toNat : Int) == 45) = true := by rw [h45]; rfl
                have HB := hid (show decide ((y :: r5).head? = some 45 ∨ (y :: r5).head? = some 43) = true by simp [h45])
                clear h45
                go_wp2
                go_meet
                exact ⟨by rw [HB.out], rfl⟩
              · have hx : ((y.toNat : Int) == 45) = false := beq_eq_false_iff_ne.2 (by have := toNat_ne h45; simp at this; omega)
                by_cases h43 : y = 43
                · have hx2 : ((y.toNat : Int) == 43) = true := by rw [h43]; rfl
                  have HB := hid (show decide ((y :: r5).head? = some 45 ∨ (y :: r5).head? = some 43) = true by simp [h43])
                  clear h45 h43
                  go_wp2
                  go_meet
                  exact ⟨by rw [HB.out], rfl⟩
                · have hx2 : ((y.toNat : Int) == 43) = false := beq_eq_false_iff_ne.2 (by have := toNat_ne h43; simp at this; omega)
                  have HB := hid (show decide ((y :: r5).head? = some 45 ∨ (y :: r5).head? = some 43) = false by simp [h45, h43])
                  clear h45 h43
                  go_wp2
                  go_meet
                  exact ⟨by rw [HB.out], rfl⟩
          case rest =>
            obtain ⟨rfl, rfl⟩ := hcut
            go_upto_if 118 with fail
            go_cut [5] (fun at' wc' => ∃ k : Nat, at' = .int .i64 (k : Int) ∧ k ≤ l.length ∧ Hid (l.drop k = (cutS r4).1) ∧ wc' = wc)
            case first =>
              by_cases hs : r4.head? = some 45 ∨ r4.head? = some 43
              · rw [decide_eq_true hs]
                have HS5 := hid (show l.drop (n + 2) = (cutS r4).1 from by rw [show n + 2 = n + 1 + 1 from rfl, ← List.drop_drop, HD4.out]; exact cutS_drop hs)
                have hr5 : 1 ≤ r4.length := by
                  cases r4 with
                  | nil => simp at hs
                  | cons => simp
                clear hs
                go_wp2
                go_meet
                exact ⟨n + 2, by go_num, by omega, HS5, rfl⟩
              · rw [decide_eq_false hs]
                have HS5 := hid (show l.drop (n + 1) = (cutS r4).1 from by rw [HD4.out]; exact (cutS_same hs).symm)
                clear hs
                go_wp2
                go_meet
                exact ⟨n + 1, by go_num, by omega, HS5, rfl⟩
            case rest =>
              obtain ⟨k, rfl, hkl, hd5, rfl⟩ := hcut
              obtain ⟨ex, hexx⟩ : ∃ ex, (cutS r4).1.takeWhile isD = ex := ⟨_, rfl⟩
              obtain ⟨r6, hr6⟩ : ∃ r6, (cutS r4).1.dropWhile isD = r6 := ⟨_, rfl⟩
              have hsp5 : ex ++ r6 = (cutS r4).1 := by rw [← hexx, ← hr6]; exact List.takeWhile_append_dropWhile
              have hAe : AllD ex := by rw [← hexx]; intro c hc; exact List.all_eq_true.1 List.all_takeWhile c hc
              have hde5 : dend l k = k + ex.length := by unfold dend; rw [hd5.out, hexx]
              have hl6 : k + (ex.length + r6.length) = l.length := by
                have := congrArg List.length hd5.out
                rw [List.length_drop, ← hsp5, List.length_append] at this
                omega
              rw [hexx, hr6] at HC4
              rw [← HEN.out] at HC4
              have HDE5 := hid hde5
              have HGE := hid (show ∀ j (hj : j < ex.length), ∃ h : k + j < l.length, (ofL l)[k + j]'(by rw [hsz]; exact h) = ex[j] from by
                intro j hj
                have hkj : k + j < l.length := by omega
                refine ⟨hkj, ?_⟩
                rw [ofL_get]
                have hdd : l.drop k = ex ++ r6 := by rw [hd5.out, hsp5]
                have h3 : (l.drop k)[j]'(by rw [List.length_drop]; omega) = l[k + j] := by simp
                rw [← h3]
                simp only [hdd]
                rw [List.getElem_append_left hj])
              clear hsp5 hexx hr6 HEN hd5 hde5 HD4 hr4 hnl' hn1
              have HDG := hid (rdigits_any l k)
              go_wp2_with fail
              refine (HDG.out _ (by omega) hkl).mono ?_
              rintro e w1 ⟨rfl, rfl⟩
              rw [HDE5.out]
              by_cases hx0 : ex = []
              · subst hx0
                have HN := hid (show cutL l = none from HC4.out.trans (if_pos rfl))
                simp only [List.length_nil, Nat.add_zero]
                go_wp2
                have hfin := three_set2 (u := .int .i64 (-(fr.length : Int))) (three_set1 (u := .string (ofL D)) (three_set0 (u := .bool m) hbR.out))
                have e0 := three_cell0 hfin
                have e1 := three_cell1 hfin
                have e2 := three_cell2 hfin
                refine bodyPost_ret (v := .tuple #[.agg #[.bool m, .string (ofL D), .int .i64 (-(fr.length : Int))], .bool false]) (by simp [results, Tryz.results102, go_sem, e0, e1, e2]) rfl ?_
                refine ⟨?_, ((hF.out.setCell (.inr (by simp)) _).setCell (.inr (by simp)) _).setCell (.inr (by simp)) _⟩
                exact ⟨fun _ _ _ _ _ h => (by rw [HN.out] at h; cases h), fun _ => ⟨_, _, _, rfl⟩⟩
              · have hxp : 0 < ex.length := by cases ex with | nil => exact absurd rfl hx0 | cons => simp
                have HC5 := hid (HC4.out.trans (if_neg hx0))
                have hne : (((k + ex.length : Nat) : Int) == (k : Int)) = false := beq_eq_false_iff_ne.2 (by omega)
                clear hx0 HC4
                rw [← hD] at hbT
                go_upto_if 126 with fail
                go_step
                go_step
                go_step
                go_step
                exact said_exp l wh fr ex r6 k m en w _ _ _ _ _ _ _ _ _ _ _ _ _ _ _ _ _ _ _ _ _ _ _ _ _ _ _ _ _ _ _ _ _ _ _ _ _ _ _ _ _ _ _ _ _ _ _ _ _ _ _ _ _ _ _ _ _ _ _ _ _ _ _ _ _ _ _ _ _ _ _ _ _ _ _ _ _ _ _ _ _ _ _ _ _ _ _ _ _ _ _ _ _ _ _ _ _ _ _ _ _ _ _ _ _ _ _ _ _ _ _ _ _ _ _ _ _ _ _ _ _ _ _ _ _ _ _ _ _ _ _ _ _ _ _ _ _ _ _ _ _ _ _ _ _ _ _ _ _ _ _ _ (by assumption) hl hfl hxp hl6 hAe HGE HC5 hbR hbT hF
      · rw [decide_eq_false hE]
        have HN := hid (show cutL l = none from by
          rw [hC3.out, cutL3, cutE, cutP_no (by simp; intro h; exact hE (.inl h)), cutP_no (by simp; intro h; exact hE (.inr h))]
          rfl)
        clear hE
        go_wp2
        have hfin := three_set2 (u := .int .i64 (-(fr.length : Int))) (three_set1 (u := .string (ofL D)) (three_set0 (u := .bool m) hbR.out))
        have e0 := three_cell0 hfin
        have e1 := three_cell1 hfin
        have e2 := three_cell2 hfin
        refine bodyPost_ret (v := .tuple #[.agg #[.bool m, .string (ofL D), .int .i64 (-(fr.length : Int))], .bool false]) (by simp [results, Tryz.results102, go_sem, e0, e1, e2]) rfl ?_
        refine ⟨?_, ((hF.out.setCell (.inr (by simp)) _).setCell (.inr (by simp)) _).setCell (.inr (by simp)) _⟩
        exact ⟨fun _ _ _ _ _ h => (by rw [HN.out] at h; cases h), fun _ => ⟨_, _, _, rfl⟩⟩
end Go.Proofs.YtmkkibaacclhnaaGreat
