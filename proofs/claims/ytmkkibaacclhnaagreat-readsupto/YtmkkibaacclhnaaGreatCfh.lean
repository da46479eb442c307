/-
  A step of the walk, the part named Cfh. No theorem of the row.
-/
import Derived.Test.YtmkkibaacclhnaaGreatCde
import Derived.Test.YtmkkibaacclhnaaGreatBuv
namespace Go.Proofs.YtmkkibaacclhnaaGreat
open Go.RowKit

theorem drop0_eq (l : List UInt8) : ∃ z, l = List.replicate z 48 ++ drop0 l ∧ (drop0 l).head? ≠ some 48 := by
  induction l with
  | nil => exact ⟨0, rfl, by simp [drop0]⟩
  | cons c l ih =>
    by_cases h : c = 48
    · obtain ⟨z, e, hh⟩ := ih
      have e2 : drop0 (c :: l) = drop0 l := by unfold drop0; rw [List.dropWhile_cons, if_pos (by simp [h])]
      rw [e2]
      exact ⟨z + 1, by rw [List.replicate_succ, List.cons_append, ← e, h], hh⟩
    · have e2 : drop0 (c :: l) = c :: l := by unfold drop0; rw [List.dropWhile_cons, if_neg (by simp [h])]
      rw [e2]
      exact ⟨0, rfl, by simpa using h⟩
theorem strip_eq (l : List UInt8) : ∃ k, l = strip l ++ List.replicate k 48 := by
  refine snoc_indC (P := fun l => ∃ k, l = strip l ++ List.replicate k 48) ⟨0, rfl⟩ ?_ l
  intro a c ⟨k, e⟩
  by_cases h : c = 48
  · subst h
    rw [strip_zero]
    refine ⟨k + 1, ?_⟩
    rw [List.replicate_succ', ← List.append_assoc, ← e]
  · rw [strip_no _ _ h]
    exact ⟨0, by simp⟩
theorem lean_same {l : List UInt8} (hA : AllD l) (X : Int) : SameV (num (dv l)) X (num (dv (strip (drop0 l)))) (X + ((drop0 l).length : Int) - ((strip (drop0 l)).length : Int)) ∧ AllD (strip (drop0 l)) ∧ (strip (drop0 l)).head? ≠ some 48 := by
  obtain ⟨z, e1, h1⟩ := drop0_eq l
  obtain ⟨k, e2⟩ := strip_eq (drop0 l)
  have n1 : num (dv l) = num (dv (drop0 l)) := by
    conv => lhs; rw [e1, dv_append, num_append, dv_zeros, num_zeros]
    omega
  have n2 : num (dv (drop0 l)) = num (dv (strip (drop0 l))) * p10 k := by
    conv => lhs; rw [e2, dv_append, num_append, dv_zeros, num_zeros, List.length_replicate]
    omega
  have n3 : (drop0 l).length = (strip (drop0 l)).length + k := by
    conv => lhs; rw [e2, List.length_append, List.length_replicate]
  have hA1 : AllD (drop0 l) := fun c hc => hA c (by rw [e1]; exact List.mem_append_right _ hc)
  refine ⟨?_, fun c hc => hA1 c (by rw [e2]; exact List.mem_append_left _ hc), ?_⟩
  · rw [n1, n2, n3, show X + ((strip (drop0 l)).length + k : Nat) - ((strip (drop0 l)).length : Int) = X + k by omega]
    have := SameV.shift (num (dv (strip (drop0 l)))) k (X + k)
    rw [show X + (k : Int) - k = X by omega] at this
    exact this.symm
  · intro hh
    cases hs : strip (drop0 l) with
    | nil => rw [hs] at hh; cases hh
    | cons c r =>
      rw [hs] at hh e2
      rw [e2] at h1
      exact h1 (by simpa using hh)
/-- half way above a number -/
theorem half_cmp (A B m : Nat) : bcmp (A * 2 ^ (-(((manE m).2 : Int) - 1074 - 1)).toNat) (B * (2 * (manE m).1 + 1) * 2 ^ (((manE m).2 : Int) - 1074 - 1).toNat) = bcmp (2 * (A * p2 1074)) (mid m * B) := by
  have hV := manE_V m
  have hH := gapH_eq m
  have h1 := mid_high m
  rw [bcmp_two A (B * (2 * (manE m).1 + 1)) (manE m).2 1075 _ (by omega)]
  have hab : B * (2 * (manE m).1 + 1) * p2 (manE m).2 = mid m * B := by
    rw [h1, hV, hH, Nat.mul_comm B, Nat.mul_right_comm, Nat.add_mul, Nat.one_mul, Nat.mul_assoc 2]
  rw [hab, p2_1075, Nat.mul_left_comm A 2]
/-- what halving finds -/
theorem half_near {N r A B : Nat} {X : Int} (hA : A = N * p10 X.toNat) (hB : B = p10 (-X).toNat) (hr : r < 9218868437227405312) (h1 : V r * B ≤ A * p2 1074) (h2 : r + 1 = 9218868437227405312 ∨ A * p2 1074 < V (r + 1) * B) :
    (¬ (mid r * B < 2 * (A * p2 1074) ∨ (mid r * B = 2 * (A * p2 1074) ∧ r % 2 = 1)) → IsNear N X r) ∧
    ((mid r * B < 2 * (A * p2 1074) ∨ (mid r * B = 2 * (A * p2 1074) ∧ r % 2 = 1)) → IsNear N X (r + 1)) := by
  have e : N * pP X = A * p2 1074 := by rw [hA]; unfold pP; rw [Nat.mul_assoc]
  have hBp : 0 < B := by rw [hB]; exact p10_pos _
  unfold IsNear RndAt Rnd
  rw [e, ← hB]
  generalize A * p2 1074 = x at *
  constructor
  · intro h
    refine .inl ⟨hr, ?_, ?_⟩
    · by_cases h0 : r = 0
      · exact .inl h0
      · right; left
        have a := V_lt (show r - 1 < r by omega)
        have b : mid (r - 1) < 2 * V r := by unfold mid; rw [show r - 1 + 1 = r by omega]; omega
        have c : mid (r - 1) * B < 2 * V r * B := Nat.mul_lt_mul_of_pos_right b hBp
        rw [Nat.mul_assoc] at c
        omega
    · rcases Nat.lt_trichotomy (2 * x) (mid r * B) with c | c | c
      · exact .inl c
      · right
        refine ⟨c, ?_⟩
        rcases Nat.mod_two_eq_zero_or_one r with d | d
        · exact d
        · exact absurd (Or.inr ⟨c.symm, d⟩) h
      · exact absurd (Or.inl c) h
  · intro h
    rcases Nat.lt_or_ge (r + 1) 9218868437227405312 with ht | ht
    · refine .inl ⟨ht, .inr ?_, .inl ?_⟩
      · rw [Nat.add_sub_cancel]
        rcases h with h | ⟨h, d⟩
        · exact .inl h
        · exact .inr ⟨h, by omega⟩
      · have h2 := h2.resolve_left (by omega)
        have a := V_succ (r + 1)
        have b : 2 * V (r + 1) < mid (r + 1) := by unfold mid; omega
        have c : 2 * V (r + 1) * B < mid (r + 1) * B := Nat.mul_lt_mul_of_pos_right b hBp
        rw [Nat.mul_assoc] at c
        omega
    · have hr1 : r = 9218868437227405311 := by omega
      refine .inr ⟨by omega, ?_⟩
      rw [hr1] at h
      rcases h with h | ⟨h, d⟩ <;> omega
end Go.Proofs.YtmkkibaacclhnaaGreat

namespace Go.Proofs.YtmkkibaacclhnaaGreat
open Go.RowKit

/-- what the document's answer finds -/
def NearPost (N : Nat) (X : Int) (e : Ending) : Prop :=
  ∃ r, IsNear N X r ∧ ((r < 9218868437227405312 ∧ e = .returned (.tuple #[.int .u64 (r : Int), .bool true])) ∨ (r = 9218868437227405312 ∧ ∃ v : Int, e = .returned (.tuple #[.int .u64 v, .bool false])))
theorem bcmp_ge (a b : Nat) : 0 ≤ bcmp a b ↔ b ≤ a := by
  have h := bcmp_lt a b
  constructor
  · intro h2
    rcases Nat.lt_or_ge a b with h1 | h1
    · have := h.2 h1; omega
    · exact h1
  · intro h2
    rcases Int.lt_or_le (bcmp a b) 0 with h1 | h1
    · have := h.1 h1; omega
    · exact h1
set_option maxRecDepth 100000 in
set_option maxHeartbeats 8000000 in
theorem rnearest_any (mi : Bool) (l : List UInt8) (X : Int) (w : World) (hl : l.length ≤ 2000000) (hA : AllD l) (hX1 : -1200000000000 ≤ X) (hX2 : X ≤ 1200000000000) :
    Calls Tryz.prog 118 #[.agg #[.bool mi, .string (ofL l), .int .i64 X]] w fun e w' => NearPost (num (dv l)) X e ∧ Fr (fun _ => False) w w' := by
  obtain ⟨hS, hAD, hHD⟩ := lean_same hA X
  have HL := hid (fun w => lean_any mi l X w (by omega) (by omega) (by omega))
  have hd0 := drop0_len l
  have hst := strip_len (drop0 l)
  obtain ⟨D, hD⟩ : ∃ D, strip (drop0 l) = D := ⟨_, rfl⟩
  obtain ⟨Y, hY⟩ : ∃ Y, X + ((drop0 l).length : Int) - ((strip (drop0 l)).length : Int) = Y := ⟨_, rfl⟩
  have hYb : -1200000000000 ≤ Y ∧ Y ≤ 1200002000000 := by omega
  rw [hY, hD] at hS
  rw [hD] at hAD hHD hst
  have hDl : D.length ≤ 2000000 := by omega
  have HS := hid hS
  have HAD := hid hAD
  have HHD := hid (show D.head? = some 48 ↔ False from ⟨hHD, False.elim⟩)
  rw [hY, hD] at HL
  have hsz := ofL_size D
  clear hS hAD hHD hD hY hA hd0 hst hl hX1 hX2
  go_enter Tryz.func118, Tryz.ntmps118
  go_wp2_with fail
  refine (HL.out _).mono ?_
  rintro e w1 ⟨rfl, hF1⟩
  have T1 := hid ((ThreeC.new w (.bool mi) (.string (ofL l)) (.int .i64 X)).fr hF1)
  have F1 := hid (((Fr.refl (fun _ => False) w).alloc _).trans hF1)
  have hb1 : w.heap.size < w1.heap.size := lt_of_block T1.out
  have c0 := T1.out.c.1
  have c1 := T1.out.c.2.1
  have c2 := T1.out.c.2.2
  have f0 := three_free (j := 0) T1.out
  have f1 := three_free (j := 1) T1.out
  have f2 := three_free (j := 2) T1.out
  clear hF1 HL
  go_upto_region 2 with fail
  have T2 := hid (show ThreeC (((w1.setCell ⟨w.heap.size, 0, none⟩ (.bool mi)).setCell ⟨w.heap.size, 1, none⟩ (.string (ofL D))).setCell ⟨w.heap.size, 2, none⟩ (.int .i64 Y)) w.heap.size (.bool mi) (.string (ofL D)) (.int .i64 Y) from three_set2 (three_set1 (three_set0 T1.out)))
  have F2 := hid (((F1.out.setCell (p := ⟨w.heap.size, 0, none⟩) (.inr (Nat.le_refl _)) (.bool mi)).setCell (p := ⟨w.heap.size, 1, none⟩) (.inr (Nat.le_refl _)) (.string (ofL D))).setCell (p := ⟨w.heap.size, 2, none⟩) (.inr (Nat.le_refl _)) (.int .i64 Y))
  clear c0 c1 c2 f0 f1 f2 T1 F1
  generalize ((w1.setCell ⟨w.heap.size, 0, none⟩ (.bool mi)).setCell ⟨w.heap.size, 1, none⟩ (.string (ofL D))).setCell ⟨w.heap.size, 2, none⟩ (.int .i64 Y) = W2 at *
  have c0 := T2.out.c.1
  have c1 := T2.out.c.2.1
  have c2 := T2.out.c.2.2
  by_cases hD0 : D = []
  · subst hD0
    have hne : (ofL []).toList.isEmpty = true := by rw [ofL_toList]; rfl
    go_wp2
    go_ret2
    exact ⟨⟨0, (IsNear.zero _).same HS.out.symm, .inl ⟨by omega, rfl⟩⟩, F2.out⟩
  · have hne : (ofL D).toList.isEmpty = false := by rw [ofL_toList]; cases D with | nil => exact absurd rfl hD0 | cons => rfl
    have HD0 := hid (show D = [] ↔ False from ⟨hD0, False.elim⟩)
    clear hD0
    by_cases hlo : (D.length : Int) + Y < -400
    · go_wp2
      go_ret2
      exact ⟨⟨0, (IsNear.small (num_lt _ HAD.out.digs) (by rw [dv_length]; omega)).same HS.out.symm, .inl ⟨by omega, rfl⟩⟩, F2.out⟩
    · by_cases hhi : 400 < (D.length : Int) + Y
      · have HB := hid (IsNear.big (x := Y) (num_top D HAD.out HD0.out.1 HHD.out.1) (by omega))
        go_wp2
        go_ret2
        exact ⟨⟨_, HB.out.same HS.out.symm, .inr ⟨rfl, _, rfl⟩⟩, F2.out⟩
      · go_wp2_with fail
        refine (of_any mi D Y _ (by omega) HAD.out (by omega) (by omega)).mono ?_
        rintro e w3 ⟨fv, rfl, hfr, hF3⟩
        obtain ⟨A, hA⟩ : ∃ A, num (dv D) * p10 Y.toNat = A := ⟨_, rfl⟩
        obtain ⟨B, hB⟩ : ∃ B, p10 (-Y).toNat = B := ⟨_, rfl⟩
        rw [hA, hB] at hfr
        have HAB := hid (And.intro hA hB)
        have HFR := hid hfr
        obtain ⟨va, vb, xs, ys, rfl, b1, b2, b3⟩ := hfr
        obtain ⟨pa, qa, rfl⟩ := big_shape b1
        obtain ⟨pb, qb, rfl⟩ := big_shape b2
        generalize xs.length = na at *
        generalize ys.length = nb at *
        have F3 := hid (F2.out.trans hF3)
        clear hF3 F2 hA hB b1 b2 b3 c0 c1 c2 T2
        go_upto_block 0 with fail
        have T5 := hid (TwoC.new w3 (.slice pa na qa) (.slice pb nb qb))
        have G5 := hid (HFR.out.fr ((Fr.refl _ w3).alloc (.cells #[.slice pa na qa, .slice pb nb qb] 188)))
        have F5 := hid (F3.out.alloc (.cells #[.slice pa na qa, .slice pb nb qb] 188))
        clear HFR F3
        generalize w3.alloc (.cells #[.slice pa na qa, .slice pb nb qb] 188) = W5 at *
        generalize w3.heap.size = B5 at *
        go_cut [6] (fun lv wc => ∃ lo : Nat, lv = .int .u64 (lo : Int) ∧ Hid (lo < 9218868437227405312) ∧ Hid (V lo * B ≤ A * p2 1074) ∧ Hid (lo + 1 = 9218868437227405312 ∨ A * p2 1074 < V (lo + 1) * B) ∧ Hid (TwoC wc B5 (.slice pa na qa) (.slice pb nb qb)) ∧ Hid (FracAt wc (.agg #[.slice pa na qa, .slice pb nb qb]) A B 9000000) ∧ Hid (Fr (fun _ => False) w wc))
        case first =>
          go_wp2
          have HST := hid (show V 0 * B ≤ A * p2 1074 by rw [V_zero, Nat.zero_mul]; exact Nat.zero_le _)
          go_loopw [6, 7] (fun lv tv wr => ∃ lo tp : Nat, lv = .int .u64 (lo : Int) ∧ tv = .int .u64 (tp : Int) ∧ Hid (lo < tp ∧ tp ≤ 9218868437227405312) ∧ Hid (V lo * B ≤ A * p2 1074) ∧ Hid (tp = 9218868437227405312 ∨ A * p2 1074 < V tp * B) ∧ Hid (TwoC wr B5 (.slice pa na qa) (.slice pb nb qb)) ∧ Hid (FracAt wr (.agg #[.slice pa na qa, .slice pb nb qb]) A B 9000000) ∧ Hid (Fr (fun _ => False) w wr)) (fun lv tv _ => (intOf tv - intOf lv).toNat)
          case atStart => exact ⟨0, 9218868437227405312, rfl, rfl, hid (by omega), HST, hid (.inl rfl), T5, G5, F5⟩
          case round =>
            clear T5 G5 F5 HST
            obtain ⟨lo, tp, rfl, rfl, hb, hlo', htp', T, G, F⟩ := hrel
            obtain ⟨d, hd⟩ : ∃ d : Nat, d = tp - lo := ⟨_, rfl⟩
            have hsub : IntKind.u64.wrap ((tp : Int) - (lo : Int)) = (d : Int) := by
              have := hb.out
              rw [show (tp : Int) - (lo : Int) = (d : Int) by omega]
              exact IntWalk.u64_in _ ⟨by omega, by omega⟩
            have HD := hid hd
            clear hd
            by_cases h1 : 1 < d
            · obtain ⟨h, hh⟩ : ∃ h : Nat, h = d / 2 := ⟨_, rfl⟩
              obtain ⟨md, hmd⟩ : ∃ md : Nat, md = lo + h := ⟨_, rfl⟩
              have hq : IntKind.u64.wrap ((d : Int) / 2) = (h : Int) := by
                have := hb.out
                have := HD.out
                rw [show (d : Int) / 2 = (h : Int) by omega]
                exact IntWalk.u64_in _ ⟨by omega, by omega⟩
              have hadd : IntKind.u64.wrap ((lo : Int) + (h : Int)) = (md : Int) := by
                have := hb.out
                have := HD.out
                rw [show (lo : Int) + (h : Int) = (md : Int) by omega]
                exact IntWalk.u64_in _ ⟨by omega, by omega⟩
              have HM := hid (And.intro hh hmd)
              clear hh hmd
              have k0 := T.out.c.1
              have k1 := T.out.c.2
              have HMD := hid (show md < 9218868437227405312 ∧ lo < md ∧ md < tp by have := hb.out; have := HD.out; have := HM.out; omega)
              obtain ⟨n, hn⟩ : ∃ n, (manE md).1 = n := ⟨_, rfl⟩
              obtain ⟨E, hE⟩ : ∃ E, (manE md).2 = E := ⟨_, rfl⟩
              have HNE := hid (And.intro hn hE)
              clear hn hE
              go_wp2_with fail
              refine (parts_man md _ (by have := HMD.out; omega)).mono ?_
              rintro e w6 ⟨rfl, rfl⟩
              rw [HNE.out.1, HNE.out.2]
              go_wp2_with fail
              refine (fag_V _ _ _ 9000000 md n E _ _ _ HMD.out.1 HNE.out.1 HNE.out.2 rfl rfl (by omega) G.out).mono ?_
              rintro e w7 ⟨rfl, hF7⟩
              have T7 := hid (T.out.fr hF7)
              have G7 := hid (G.out.fr hF7)
              have F7 := hid (F.out.trans hF7)
              obtain ⟨cc, hcc⟩ : ∃ cc, bcmp (A * p2 1074) (B * V md) = cc := ⟨_, rfl⟩
              have HGE := hid (show 0 ≤ cc ↔ V md * B ≤ A * p2 1074 by rw [← hcc, Nat.mul_comm (V md) B]; exact bcmp_ge _ _)
              rw [hcc]
              clear hcc hF7 T G F k0 k1
              by_cases hc : 0 ≤ cc
              · have HN := hid (HGE.out.1 hc)
                go_wp2
                go_roundw
                case rel => exact ⟨md, tp, rfl, rfl, hid (by have := hb.out; have := HMD.out; omega), HN, htp', T7, G7, F7⟩
                case measure => have := hb.out; have := HMD.out; simp [intOf]; omega
              · have HN := hid (show A * p2 1074 < V md * B from Nat.lt_of_not_le fun h => hc (HGE.out.2 h))
                go_wp2
                go_roundw
                case rel => exact ⟨lo, md, rfl, rfl, hid (by have := hb.out; have := HMD.out; omega), hlo', hid (.inr HN.out), T7, G7, F7⟩
                case measure => have := hb.out; have := HMD.out; simp [intOf]; omega
            · have HT1 := hid (show tp = lo + 1 by have := hb.out; have := HD.out; omega)
              go_wp2
              go_meet
              refine ⟨lo, rfl, hid ?_, hlo', hid ?_, T, G, F⟩
              · have := hb.out; have := HT1.out; omega
              · rw [← HT1.out]; exact htp'.out
        case rest =>
          obtain ⟨lo, rfl, hlt, hv1, hv2, T, G, F⟩ := hcut
          clear T5 G5 F5
          obtain ⟨n, hn⟩ : ∃ n, (manE lo).1 = n := ⟨_, rfl⟩
          obtain ⟨E, hE⟩ : ∃ E, (manE lo).2 = E := ⟨_, rfl⟩
          have hb := man_less lo hlt.out
          rw [hn, hE] at hb
          have HNE := hid (And.intro hn hE)
          clear hn hE
          have k0 := T.out.c.1
          have k1 := T.out.c.2
          go_wp2_with fail
          refine (parts_man lo _ (by have := hlt.out; omega)).mono ?_
          rintro e w6 ⟨rfl, rfl⟩
          rw [HNE.out.1, HNE.out.2]
          go_wp2_with fail
          refine (fagainst_int _ A B 9000000 _ (2 * n + 1) _ _ (by omega) (by omega) (by omega) (by omega) (by omega) G.out).mono ?_
          rintro e w7 ⟨rfl, hF7⟩
          have F7 := hid (F.out.trans hF7)
          have hhc := half_cmp A B lo
          rw [HNE.out.1, HNE.out.2] at hhc
          rw [hhc]
          have HNR := hid (half_near HAB.out.1.symm HAB.out.2.symm hlt.out hv1.out hv2.out)
          have HGT := hid (bcmp_gt (2 * (A * p2 1074)) (mid lo * B))
          have HEQ := hid (bcmp_eq (2 * (A * p2 1074)) (mid lo * B))
          obtain ⟨cc, hcc⟩ : ∃ cc, bcmp (2 * (A * p2 1074)) (mid lo * B) = cc := ⟨_, rfl⟩
          rw [hcc] at HGT HEQ ⊢
          obtain ⟨UP, hUP⟩ : ∃ UP : Prop, (mid lo * B < 2 * (A * p2 1074) ∨ (mid lo * B = 2 * (A * p2 1074) ∧ lo % 2 = 1)) = UP := ⟨_, rfl⟩
          have HUP := hid (show UP ↔ (0 < cc ∨ (cc = 0 ∧ lo % 2 = 1)) by
            rw [← hUP, HGT.out, HEQ.out, eq_comm (a := 2 * (A * p2 1074))])
          rw [hUP] at HNR
          clear hhc hcc hUP hF7 T G F k0 k1 HGT HEQ hv1 hv2 HAB
          go_upto_region 19 with fail
          go_cut [79] (fun b wc => b = .bool (decide (0 < cc ∨ (cc = 0 ∧ lo % 2 = 1))) ∧ wc = w7)
          case first =>
            by_cases h1 : 0 < cc
            · go_wp2
              go_meet
              exact ⟨by rw [decide_eq_true (.inl h1)], rfl⟩
            · by_cases h0 : cc = 0
              · subst h0
                rcases Nat.mod_two_eq_zero_or_one lo with h2 | h2
                · have hq : ((lo : Int) % 2 == 1) = false := beq_eq_false_iff_ne.2 (by omega)
                  have H2 := hid h2
                  clear h2
                  go_wp2
                  go_meet
                  exact ⟨by have := H2.out; rw [decide_eq_false (by omega)], rfl⟩
                · have hq : ((lo : Int) % 2 == 1) = true := beq_iff_eq.2 (by omega)
                  have H2 := hid h2
                  clear h2
                  go_wp2
                  go_meet
                  exact ⟨by simp [H2.out], rfl⟩
              · go_wp2
                go_meet
                exact ⟨by rw [decide_eq_false (by omega)], rfl⟩
          case rest =>
            obtain ⟨rfl, rfl⟩ := hcut
            by_cases hu : 0 < cc ∨ (cc = 0 ∧ lo % 2 = 1)
            · have HNN := hid (HNR.out.2 (HUP.out.2 hu))
              rw [decide_eq_true hu]
              clear hu HUP HNR
              obtain ⟨r, hr⟩ : ∃ r : Nat, r = lo + 1 := ⟨_, rfl⟩
              have hadd : IntKind.u64.wrap ((lo : Int) + 1) = (r : Int) := by
                have := hlt.out
                rw [show (lo : Int) + 1 = (r : Int) by omega]
                exact IntWalk.u64_in _ ⟨by omega, by omega⟩
              rw [← hr] at HNN
              have HRR := hid hr
              clear hr
              by_cases htop : r < 9218868437227405312
              · have hdl : decide ((r : Int) < 9218868437227405312) = true := decide_eq_true (by omega)
                have HTOP := hid htop
                clear htop
                go_wp2
                go_ret2
                exact ⟨⟨r, HNN.out.same HS.out.symm, .inl ⟨HTOP.out, rfl⟩⟩, F7.out⟩
              · have hdl : decide ((r : Int) < 9218868437227405312) = false := decide_eq_false (by omega)
                have HTOP := hid (show r = 9218868437227405312 by have := hlt.out; have := HRR.out; omega)
                clear htop
                go_wp2
                go_ret2
                exact ⟨⟨r, HNN.out.same HS.out.symm, .inr ⟨HTOP.out, _, rfl⟩⟩, F7.out⟩
            · have HNN := hid (HNR.out.1 (fun h => hu (HUP.out.1 h)))
              rw [decide_eq_false hu]
              clear hu HUP HNR
              have hdl : decide ((lo : Int) < 9218868437227405312) = true := decide_eq_true (by have := hlt.out; omega)
              go_wp2
              go_ret2
              exact ⟨⟨lo, HNN.out.same HS.out.symm, .inl ⟨hlt.out, rfl⟩⟩, F7.out⟩
end Go.Proofs.YtmkkibaacclhnaaGreat

namespace Go.Proofs.YtmkkibaacclhnaaGreat
open Go.RowKit

/-- the power that the document's answer reckons with: an exponent is drawn in -/
def clampX (fr : List UInt8) (en : Bool) (ex : List UInt8) : Int := (if en then -((min (num (dv ex)) 1099511627776 : Nat) : Int) else ((min (num (dv ex)) 1099511627776 : Nat) : Int)) - (fr.length : Int)
theorem clamp_near {l fr ex : List UInt8} {en : Bool} {r : Nat} (hA : AllD l) (hl : l.length ≤ 2000000) (hf : fr.length ≤ 2000000) (h : IsNear (num (dv l)) (clampX fr en ex) r) : IsNear (num (dv l)) (powX fr en ex) r := by
  unfold clampX at h
  unfold powX
  have hN := num_lt _ hA.digs
  rw [dv_length] at hN
  generalize num (dv ex) = q at *
  generalize num (dv l) = N at *
  by_cases hq : q ≤ 1099511627776
  · rwa [Nat.min_eq_left hq] at h
  · rw [Nat.min_eq_right (by omega)] at h
    by_cases h0 : N = 0
    · subst h0
      have := h.uniq (IsNear.zero _)
      subst this
      exact IsNear.zero _
    · have hN1 : p10 0 ≤ N := by show 1 ≤ N; omega
      cases en
      · simp only [Bool.false_eq_true, if_false] at h ⊢
        have := h.uniq (IsNear.big hN1 (by omega))
        subst this
        exact IsNear.big hN1 (by omega)
      · simp only [if_true] at h ⊢
        have := h.uniq (IsNear.small hN (by omega))
        subst this
        exact IsNear.small hN (by omega)
/-- what both answer of a text -/
def ParsePost (l : List UInt8) (e : Ending) : Prop :=
  (cutL l = none ∧ e = .returned (.tuple #[.int .u64 0, .int .i64 3])) ∨
  ∃ neg wh fr en ex r, cutL l = some (neg, wh, fr, en, ex) ∧ IsNear (num (dv (wh ++ fr))) (powX fr en ex) r ∧ e = .returned (.tuple #[.int .u64 ((parseV neg r).1 : Nat), .int .i64 ((parseV neg r).2 : Nat)])
theorem ParsePost.uniq {l : List UInt8} {e f : Ending} (h1 : ParsePost l e) (h2 : ParsePost l f) : e = f := by
  rcases h1 with ⟨a1, b1⟩ | ⟨n1, w1, f1, e1, x1, r1, a1, b1, c1⟩ <;> rcases h2 with ⟨a2, b2⟩ | ⟨n2, w2, f2, e2, x2, r2, a2, b2, c2⟩
  · rw [b1, b2]
  · rw [a1] at a2; cases a2
  · rw [a1] at a2; cases a2
  · rw [a1] at a2
    simp only [Option.some.injEq, Prod.mk.injEq] at a2
    obtain ⟨rfl, rfl, rfl, rfl, rfl⟩ := a2
    have := b1.uniq b2
    subst this
    rw [c1, c2]
theorem parseV_top (neg : Bool) : parseV neg 9218868437227405312 = (0, 6) := if_pos (Nat.le_refl _)
theorem parseV_low {r : Nat} (neg : Bool) (h : r < 9218868437227405312) : parseV neg r = (if neg then r + 9223372036854775808 else r, 0) := if_neg (by omega)
theorem pc_len {l wh fr ex : List UInt8} {neg en : Bool} (h : Pc l neg wh fr en ex) : wh.length + fr.length ≤ l.length := by
  obtain ⟨mk, s, _, _, rfl⟩ := h.l
  have : fr.length ≤ (frP fr).length := by unfold frP; split <;> simp_all
  simp only [List.length_append]
  omega
set_option maxRecDepth 100000 in
set_option maxHeartbeats 4000000 in
theorem rparse_any (l : List UInt8) (w : World) (hl : l.length ≤ 2000000) :
    Calls Tryz.prog 103 #[.string (ofL l)] w fun e w' => ParsePost l e ∧ Fr (fun _ => False) w w' := by
  have HL := hid hl
  clear hl
  go_enter Tryz.func103, Tryz.ntmps103
  go_wp2_with fail
  refine (said_any l _ (by have := HL.out; omega)).mono ?_
  rintro e w1 ⟨⟨hp1, hp2⟩, hF1⟩
  have F1 := hid hF1
  cases hc : cutL l with
  | none =>
    obtain ⟨m, D, X, rfl⟩ := hp2 hc
    have HC := hid hc
    clear hp1 hp2 hF1 hc
    go_wp2
    go_ret2
    exact ⟨.inl ⟨HC.out, rfl⟩, F1.out.alloc _⟩
  | some x =>
    obtain ⟨neg, wh, fr, en, ex⟩ := x
    obtain rfl := hp1 _ _ _ _ _ hc
    have HC := hid hc
    have hpc := cut_Pc hc
    have hpl := pc_len hpc
    have hX : saidV neg wh fr en ex = .agg #[.bool neg, .string (ofL (wh ++ fr)), .int .i64 (clampX fr en ex)] := rfl
    rw [hX]
    have hxb : -1100000000000 ≤ clampX fr en ex ∧ clampX fr en ex ≤ 1100000000000 := by
      have := HL.out
      have := Nat.min_le_right (num (dv ex)) 1099511627776
      unfold clampX
      cases en
      · simp only [Bool.false_eq_true, if_false]; omega
      · simp only [if_true]; omega
    have HN := hid (fun w => rnearest_any neg (wh ++ fr) (clampX fr en ex) w (by have := HL.out; rw [List.length_append]; omega) (hpc.w.1.append hpc.f) (by omega) (by omega))
    have HCL := hid (fun r => clamp_near (r := r) (fr := fr) (en := en) (ex := ex) (hpc.w.1.append hpc.f) (by have := HL.out; rw [List.length_append]; omega) (by have := HL.out; omega))
    generalize hxx : clampX fr en ex = X at *
    clear hp1 hp2 hF1 hc hX hxb hpc hpl hxx
    go_wp2_with fail
    refine (HN.out _).mono ?_
    rintro e w2 ⟨⟨r, hr, hor⟩, hF2⟩
    have T2 := hid ((ThreeC.new w1 (.bool neg) (.string (ofL (wh ++ fr))) (.int .i64 X)).fr hF2)
    have F2 := hid ((F1.out.alloc _).trans hF2)
    have c0 := T2.out.c.1
    have HR := hid (HCL.out r hr)
    clear hr hF2 HN HCL
    rcases hor with ⟨hlt, rfl⟩ | ⟨rfl, v, rfl⟩
    · have HLT := hid hlt
      clear hlt
      cases neg
      · go_wp2
        go_ret2
        exact ⟨.inr ⟨false, wh, fr, en, ex, r, HC.out, HR.out, by rw [parseV_low false HLT.out]; rfl⟩, F2.out⟩
      · have hadd : IntKind.u64.wrap ((r : Int) + 9223372036854775808) = ((r + 9223372036854775808 : Nat) : Int) := by
          have := HLT.out
          rw [show (r : Int) + 9223372036854775808 = ((r + 9223372036854775808 : Nat) : Int) by omega]
          exact IntWalk.u64_in _ ⟨by omega, by omega⟩
        generalize hrr : r + 9223372036854775808 = rr at *
        have HRR := hid hrr
        clear hrr
        go_wp2
        go_ret2
        exact ⟨.inr ⟨true, wh, fr, en, ex, r, HC.out, HR.out, by rw [parseV_low true HLT.out, if_pos rfl, HRR.out]; rfl⟩, F2.out⟩
    · go_wp2
      go_ret2
      exact ⟨.inr ⟨neg, wh, fr, en, ex, _, HC.out, HR.out, by rw [parseV_top]; rfl⟩, F2.out⟩
end Go.Proofs.YtmkkibaacclhnaaGreat
