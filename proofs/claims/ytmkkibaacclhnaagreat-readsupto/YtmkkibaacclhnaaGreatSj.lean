/-
  A step of the walk, the part named Sj. No theorem of the row.
-/
import Derived.Test.YtmkkibaacclhnaaGreatXcd
import Derived.Test.YtmkkibaacclhnaaGreatCfh
import Derived.Deep.CutBlock
namespace Go.Proofs.YtmkkibaacclhnaaGreat
open Go.RowKit

theorem great_none {l : List UInt8} (h : cutL l = none) : greatV l = false := great_not (fun _ ht => cut_none h ht)
theorem great_some {l : List UInt8} {neg : Bool} {wh fr : List UInt8} {en : Bool} {ex : List UInt8} {r : Nat} (w : World) (hl : l.length ≤ 1000000000000000) (hc : cutL l = some (neg, wh, fr, en, ex)) (hr : IsNear (num (dv (wh ++ fr))) (powX fr en ex) r) : greatV l = decide (9218868437227405312 ≤ r) := by
  obtain ⟨t, r', h1, h2, _, h4, h5⟩ := near_link w hl hc
  rw [great_lost w hl h1 h2, oor_near h4, hr.uniq h5]
set_option maxRecDepth 100000 in
set_option maxHeartbeats 8000000 in
theorem great_any (l : List UInt8) (w : World) (hl : l.length ≤ 2000000) :
    Calls Tryz.prog 101 #[.string (ofL l)] w fun e w' => e = .returned (.bool (greatV l)) ∧ Fr (fun _ => False) w w' := by
  have HL := hid hl
  clear hl
  obtain ⟨G, hG⟩ : ∃ G, greatV l = G := ⟨_, rfl⟩
  rw [hG]
  have HG := hid hG
  clear hG
  go_enter Tryz.func101, Tryz.ntmps101
  go_wp2_with fail
  refine (said_any l _ (by have := HL.out; omega)).mono ?_
  rintro e w1 ⟨⟨hp1, hp2⟩, hF1⟩
  have F1 := hid hF1
  cases hc : cutL l with
  | none =>
    obtain ⟨m, D, X, rfl⟩ := hp2 hc
    have HC := hid hc
    clear hp1 hp2 hF1 hc
    go_wp2
    go_ret
    rw [← HG.out, great_none HC.out]
    exact ⟨rfl, F1.out.alloc _⟩
  | some x =>
    obtain ⟨neg, wh, fr, en, ex⟩ := x
    obtain rfl := hp1 _ _ _ _ _ hc
    have HC := hid hc
    have hpc := cut_Pc hc
    have hpl := pc_len hpc
    have hX : saidV neg wh fr en ex = .agg #[.bool neg, .string (ofL (wh ++ fr)), .int .i64 (clampX fr en ex)] := rfl
    rw [hX]
    have hxb : -1100000000000 ≤ clampX fr en ex ∧ clampX fr en ex ≤ 1100000000000 := by
      have := HL.out
      have := Nat.min_le_right (num (dv ex)) 1099511627776
      unfold clampX
      cases en
      · simp only [Bool.false_eq_true, if_false]; omega
      · simp only [if_true]; omega
    have HN := hid (fun w => rnearest_any neg (wh ++ fr) (clampX fr en ex) w (by have := HL.out; rw [List.length_append]; omega) (hpc.w.1.append hpc.f) (by omega) (by omega))
    have HCL := hid (fun r => clamp_near (r := r) (fr := fr) (en := en) (ex := ex) (hpc.w.1.append hpc.f) (by have := HL.out; rw [List.length_append]; omega) (by have := HL.out; omega))
    generalize hxx : clampX fr en ex = X at *
    clear hp1 hp2 hF1 hc hX hxb hpc hpl hxx
    go_wp2_with fail
    refine (HN.out _).mono ?_
    rintro e w2 ⟨⟨r, hr, hor⟩, hF2⟩
    have F2 := hid ((F1.out.alloc _).trans hF2)
    have HR := hid (HCL.out r hr)
    clear hr hF2 HN HCL
    have hgv := hid (great_some w (by have := HL.out; omega) HC.out HR.out)
    rcases hor with ⟨hlt, rfl⟩ | ⟨hrr, v, rfl⟩
    · have HLT := hid hlt
      clear hlt
      go_wp2
      go_ret
      rw [← HG.out, hgv.out, decide_eq_false (by have := HLT.out; omega)]
      exact ⟨rfl, F2.out⟩
    · have HRR := hid hrr
      clear hrr
      go_wp2
      go_ret
      rw [← HG.out, hgv.out, decide_eq_true (by have := HRR.out; omega)]
      exact ⟨rfl, F2.out⟩
set_option maxRecDepth 100000 in
set_option maxHeartbeats 8000000 in
theorem some_any (l : List UInt8) (w : World) (hl : l.length ≤ 100000000) :
    Calls Tryz.prog 100 #[.string (ofL l)] w fun e w' => e = .returned (.bool (someV l)) ∧ w' = w := by
  have hsz := ofL_size l
  obtain ⟨G, hG⟩ : ∃ G, someV l = G := ⟨_, rfl⟩
  rw [hG]
  have HG := hid hG
  clear hG
  go_enter Tryz.func100, Tryz.ntmps100
  go_wp2
  go_loopw [3] (fun i wr => ∃ k : Nat, k ≤ l.length ∧ i = .int .i64 k ∧ Hid (someV (l.drop k) = G) ∧ wr = w) (fun i _ => l.length - (intOf i).toNat)
  case atStart => exact ⟨0, by omega, rfl, HG, rfl⟩
  case round =>
    obtain ⟨k, hk, rfl, hI, rfl⟩ := hrel
    by_cases hlt : k < l.length
    · have hg : (ofL l)[k]'(by rw [hsz]; exact hlt) = l[k] := ofL_get l k _
      have hd : l.drop k = l[k] :: l.drop (k + 1) := List.drop_eq_getElem_cons hlt
      rw [hd, someV] at hI
      generalize l[k] = c at *
      clear hd
      by_cases h1 : c = 101
      · rw [if_pos (.inl h1)] at hI
        subst h1
        go_wp2
        go_ret
        rw [← hI.out]
        exact ⟨rfl, rfl⟩
      have i1 : ((c.toNat : Int) != 101) = true := bne_iff_ne.2 (by have := toNat_neP h1; simp at this; omega)
      by_cases h2 : c = 69
      · rw [if_pos (.inr h2)] at hI
        subst h2
        go_wp2
        go_ret
        rw [← hI.out]
        exact ⟨rfl, rfl⟩
      have i2 : ((c.toNat : Int) != 69) = true := bne_iff_ne.2 (by have := toNat_neP h2; simp at this; omega)
      rw [if_neg (by rintro (h | h); exact h1 h; exact h2 h)] at hI
      clear h1 h2
      by_cases h3 : 49 ≤ c.toNat ∧ c.toNat ≤ 57
      · rw [if_pos h3] at hI
        obtain ⟨h4, h5⟩ := h3
        go_wp2
        go_ret
        rw [← hI.out]
        exact ⟨rfl, rfl⟩
      · rw [if_neg h3] at hI
        by_cases h4 : 49 ≤ c.toNat
        · have h5 : ¬ c.toNat ≤ 57 := fun h => h3 ⟨h4, h⟩
          clear h3
          go_wp2
          go_roundw
          case rel => exact ⟨k + 1, by omega, by go_num, hI, trivial⟩
          case measure => simp [intOf]; omega
        · clear h3
          go_wp2
          go_roundw
          case rel => exact ⟨k + 1, by omega, by go_num, hI, trivial⟩
          case measure => simp [intOf]; omega
    · obtain rfl : k = l.length := by omega
      rw [List.drop_length, someV] at hI
      go_wp2
      go_ret
      rw [← hI.out]
      exact ⟨rfl, rfl⟩
def suV (k : Nat) : List UInt8 := if k = 0 then [] else if k = 1 then [48] else if k = 2 then [46, 48] else if k = 3 then [48, 46, 48] else [101, 48]
def suCells : Array Value := #[.string (ofL []), .string (ofL [48]), .string (ofL [46, 48]), .string (ofL [48, 46, 48]), .string (ofL [101, 48])]
theorem could_no {l : List UInt8} (h : ∀ j, j < 5 → cutL (l ++ suV j) = none) : (run t0 l).isSome = false := by
  cases hr : run t0 l with
  | none => rfl
  | some t =>
    exfalso
    rcases could_ends hr with hE | ⟨t', h1, h2⟩
    · have := h 0 (by omega)
      rw [show suV 0 = [] from rfl, List.append_nil] at this
      exact cut_none this hr hE
    · exact cut_none (h 1 (by omega)) h1 h2
theorem could_yes {l b : List UInt8} (w : World) (hl : (l ++ b).length ≤ 1000000000000000) (h : cutL (l ++ b) ≠ none) : (run t0 l).isSome = true := by
  obtain ⟨t, h1, _⟩ := cut_run w hl h
  cases hr : run t0 l with
  | some t => rfl
  | none => rw [could_none hr b] at h1; cases h1
set_option maxRecDepth 100000 in
set_option maxHeartbeats 40000000 in
theorem could_any (l : List UInt8) (w : World) (hl : l.length ≤ 1900000) :
    Calls Tryz.prog 99 #[.string (ofL l)] w fun e w' => e = .returned (.bool (run t0 l).isSome) ∧ Fr (fun _ => False) w w' := by
  have hsz := ofL_size l
  obtain ⟨G, hG⟩ : ∃ G, (run t0 l).isSome = G := ⟨_, rfl⟩
  rw [hG]
  have HG := hid hG
  clear hG
  obtain ⟨wa, hwa⟩ : ∃ wa, wa = w.alloc (.cells suCells 9) := ⟨_, rfl⟩
  have hba : wa.heap[w.heap.size]? = some (.cells suCells 9 (0, 0)) := by rw [hwa]; exact heap_alloc_new _ _
  have Fa := hid (show Fr (fun _ => False) w wa by rw [hwa]; exact (Fr.refl _ _).alloc _)
  have HBA := hid hba
  have HWA := hid hwa
  clear hba hwa
  go_enter Tryz.func99, Tryz.ntmps99
  go_wp2
  rw [show w.alloc (.cells #[.string ⟨#[]⟩, .string ⟨#[48]⟩, .string ⟨#[46, 48]⟩, .string ⟨#[48, 46, 48]⟩, .string ⟨#[101, 48]⟩] 9) = wa from HWA.out.symm]
  go_loopw [4] (fun i wr => ∃ k : Nat, k ≤ 5 ∧ i = .int .i64 k ∧ Hid (Fr (fun _ => False) wa wr) ∧ Hid (∀ j, j < k → cutL (l ++ suV j) = none)) (fun i _ => 5 - (intOf i).toNat)
  case atStart => exact ⟨0, by omega, rfl, hid (Fr.refl _ _), hid (fun j hj => by omega)⟩
  case round =>
    obtain ⟨k, hk, rfl, hF, hN⟩ := hrel
    have cc : ∀ j v, suCells[j]? = some v → wr.cell? ⟨w.heap.size, j, none⟩ = some v := fun j v hv => blk_cell (hF.out.heap HBA.out id) hv
    have hks : k = 0 ∨ k = 1 ∨ k = 2 ∨ k = 3 ∨ k = 4 ∨ k = 5 := by omega
    rcases hks with rfl | rfl | rfl | rfl | rfl | rfl
    · have hc := cc 0 (.string (ofL [])) rfl
      have hap : ofL l ++ ofL [] = ofL (l ++ suV 0) := ofL_append l []
      have hss : (ofL []).size = 0 := rfl
      have hl2 : (l ++ suV 0).length ≤ 1900100 := by rw [List.length_append]; show l.length + 0 ≤ _; omega
      obtain ⟨m, hm⟩ : ∃ m, l ++ suV 0 = m := ⟨_, rfl⟩
      rw [hm] at hap hl2
      have HM := hid hm
      clear hm
      generalize hcs : ofL [] = cs at *
      clear hcs cc
      go_wp2_with fail
      refine (said_any m _ (by omega)).mono ?_
      rintro e w1 ⟨⟨hp1, hp2⟩, hF1⟩
      have F1 := hid hF1
      cases hcu : cutL m with
      | none =>
        obtain ⟨mm, D, X, rfl⟩ := hp2 hcu
        have HC := hid hcu
        clear hp1 hp2 hF1 hcu
        go_wp2
        go_roundw
        case rel => exact ⟨1, by omega, by go_num, hid ((hF.out.trans F1.out).alloc _), hid (fun j hj => by
          by_cases e : j = 0
          · subst e; rw [HM.out]; exact HC.out
          · exact hN.out j (by omega))⟩
        case measure => simp [intOf]
      | some x =>
        obtain ⟨neg, wh, fr, en, ex⟩ := x
        obtain rfl := hp1 _ _ _ _ _ hcu
        have hX : saidV neg wh fr en ex = .agg #[.bool neg, .string (ofL (wh ++ fr)), .int .i64 (clampX fr en ex)] := rfl
        rw [hX]
        have HY := hid (show (run t0 l).isSome = true from could_yes (b := suV 0) w (by rw [HM.out]; omega) (by rw [HM.out, hcu]; simp))
        clear hp1 hp2 hF1 hcu hX
        go_wp2
        go_ret
        rw [← HG.out, HY.out]
        exact ⟨rfl, (Fa.out.trans' ((hF.out.trans F1.out).alloc _) (fun _ h => h.elim))⟩
    · have hc := cc 1 (.string (ofL [48])) rfl
      have hap : ofL l ++ ofL [48] = ofL (l ++ suV 1) := ofL_append l [48]
      have hss : (ofL [48]).size = 1 := rfl
      have hl2 : (l ++ suV 1).length ≤ 1900100 := by rw [List.length_append]; show l.length + 1 ≤ _; omega
      obtain ⟨m, hm⟩ : ∃ m, l ++ suV 1 = m := ⟨_, rfl⟩
      rw [hm] at hap hl2
      have HM := hid hm
      clear hm
      generalize hcs : ofL [48] = cs at *
      clear hcs cc
      go_wp2_with fail
      refine (said_any m _ (by omega)).mono ?_
      rintro e w1 ⟨⟨hp1, hp2⟩, hF1⟩
      have F1 := hid hF1
      cases hcu : cutL m with
      | none =>
        obtain ⟨mm, D, X, rfl⟩ := hp2 hcu
        have HC := hid hcu
        clear hp1 hp2 hF1 hcu
        go_wp2
        go_roundw
        case rel => exact ⟨2, by omega, by go_num, hid ((hF.out.trans F1.out).alloc _), hid (fun j hj => by
          by_cases e : j = 1
          · subst e; rw [HM.out]; exact HC.out
          · exact hN.out j (by omega))⟩
        case measure => simp [intOf]
      | some x =>
        obtain ⟨neg, wh, fr, en, ex⟩ := x
        obtain rfl := hp1 _ _ _ _ _ hcu
        have hX : saidV neg wh fr en ex = .agg #[.bool neg, .string (ofL (wh ++ fr)), .int .i64 (clampX fr en ex)] := rfl
        rw [hX]
        have HY := hid (show (run t0 l).isSome = true from could_yes (b := suV 1) w (by rw [HM.out]; omega) (by rw [HM.out, hcu]; simp))
        clear hp1 hp2 hF1 hcu hX
        go_wp2
        go_ret
        rw [← HG.out, HY.out]
        exact ⟨rfl, (Fa.out.trans' ((hF.out.trans F1.out).alloc _) (fun _ h => h.elim))⟩
    · have hc := cc 2 (.string (ofL [46, 48])) rfl
      have hap : ofL l ++ ofL [46, 48] = ofL (l ++ suV 2) := ofL_append l [46, 48]
      have hss : (ofL [46, 48]).size = 2 := rfl
      have hl2 : (l ++ suV 2).length ≤ 1900100 := by rw [List.length_append]; show l.length + 2 ≤ _; omega
      obtain ⟨m, hm⟩ : ∃ m, l ++ suV 2 = m := ⟨_, rfl⟩
      rw [hm] at hap hl2
      have HM := hid hm
      clear hm
      generalize hcs : ofL [46, 48] = cs at *
      clear hcs cc
      go_wp2_with fail
      refine (said_any m _ (by omega)).mono ?_
      rintro e w1 ⟨⟨hp1, hp2⟩, hF1⟩
      have F1 := hid hF1
      cases hcu : cutL m with
      | none =>
        obtain ⟨mm, D, X, rfl⟩ := hp2 hcu
        have HC := hid hcu
        clear hp1 hp2 hF1 hcu
        go_wp2
        go_roundw
        case rel => exact ⟨3, by omega, by go_num, hid ((hF.out.trans F1.out).alloc _), hid (fun j hj => by
          by_cases e : j = 2
          · subst e; rw [HM.out]; exact HC.out
          · exact hN.out j (by omega))⟩
        case measure => simp [intOf]
      | some x =>
        obtain ⟨neg, wh, fr, en, ex⟩ := x
        obtain rfl := hp1 _ _ _ _ _ hcu
        have hX : saidV neg wh fr en ex = .agg #[.bool neg, .string (ofL (wh ++ fr)), .int .i64 (clampX fr en ex)] := rfl
        rw [hX]
        have HY := hid (show (run t0 l).isSome = true from could_yes (b := suV 2) w (by rw [HM.out]; omega) (by rw [HM.out, hcu]; simp))
        clear hp1 hp2 hF1 hcu hX
        go_wp2
        go_ret
        rw [← HG.out, HY.out]
        exact ⟨rfl, (Fa.out.trans' ((hF.out.trans F1.out).alloc _) (fun _ h => h.elim))⟩
    · have hc := cc 3 (.string (ofL [48, 46, 48])) rfl
      have hap : ofL l ++ ofL [48, 46, 48] = ofL (l ++ suV 3) := ofL_append l [48, 46, 48]
      have hss : (ofL [48, 46, 48]).size = 3 := rfl
      have hl2 : (l ++ suV 3).length ≤ 1900100 := by rw [List.length_append]; show l.length + 3 ≤ _; omega
      obtain ⟨m, hm⟩ : ∃ m, l ++ suV 3 = m := ⟨_, rfl⟩
      rw [hm] at hap hl2
      have HM := hid hm
      clear hm
      generalize hcs : ofL [48, 46, 48] = cs at *
      clear hcs cc
      go_wp2_with fail
      refine (said_any m _ (by omega)).mono ?_
      rintro e w1 ⟨⟨hp1, hp2⟩, hF1⟩
      have F1 := hid hF1
      cases hcu : cutL m with
      | none =>
        obtain ⟨mm, D, X, rfl⟩ := hp2 hcu
        have HC := hid hcu
        clear hp1 hp2 hF1 hcu
        go_wp2
        go_roundw
        case rel => exact ⟨4, by omega, by go_num, hid ((hF.out.trans F1.out).alloc _), hid (fun j hj => by
          by_cases e : j = 3
          · subst e; rw [HM.out]; exact HC.out
          · exact hN.out j (by omega))⟩
        case measure => simp [intOf]
      | some x =>
        obtain ⟨neg, wh, fr, en, ex⟩ := x
        obtain rfl := hp1 _ _ _ _ _ hcu
        have hX : saidV neg wh fr en ex = .agg #[.bool neg, .string (ofL (wh ++ fr)), .int .i64 (clampX fr en ex)] := rfl
        rw [hX]
        have HY := hid (show (run t0 l).isSome = true from could_yes (b := suV 3) w (by rw [HM.out]; omega) (by rw [HM.out, hcu]; simp))
        clear hp1 hp2 hF1 hcu hX
        go_wp2
        go_ret
        rw [← HG.out, HY.out]
        exact ⟨rfl, (Fa.out.trans' ((hF.out.trans F1.out).alloc _) (fun _ h => h.elim))⟩
    · have hc := cc 4 (.string (ofL [101, 48])) rfl
      have hap : ofL l ++ ofL [101, 48] = ofL (l ++ suV 4) := ofL_append l [101, 48]
      have hss : (ofL [101, 48]).size = 2 := rfl
      have hl2 : (l ++ suV 4).length ≤ 1900100 := by rw [List.length_append]; show l.length + 2 ≤ _; omega
      obtain ⟨m, hm⟩ : ∃ m, l ++ suV 4 = m := ⟨_, rfl⟩
      rw [hm] at hap hl2
      have HM := hid hm
      clear hm
      generalize hcs : ofL [101, 48] = cs at *
      clear hcs cc
      go_wp2_with fail
      refine (said_any m _ (by omega)).mono ?_
      rintro e w1 ⟨⟨hp1, hp2⟩, hF1⟩
      have F1 := hid hF1
      cases hcu : cutL m with
      | none =>
        obtain ⟨mm, D, X, rfl⟩ := hp2 hcu
        have HC := hid hcu
        clear hp1 hp2 hF1 hcu
        go_wp2
        go_roundw
        case rel => exact ⟨5, by omega, by go_num, hid ((hF.out.trans F1.out).alloc _), hid (fun j hj => by
          by_cases e : j = 4
          · subst e; rw [HM.out]; exact HC.out
          · exact hN.out j (by omega))⟩
        case measure => simp [intOf]
      | some x =>
        obtain ⟨neg, wh, fr, en, ex⟩ := x
        obtain rfl := hp1 _ _ _ _ _ hcu
        have hX : saidV neg wh fr en ex = .agg #[.bool neg, .string (ofL (wh ++ fr)), .int .i64 (clampX fr en ex)] := rfl
        rw [hX]
        have HY := hid (show (run t0 l).isSome = true from could_yes (b := suV 4) w (by rw [HM.out]; omega) (by rw [HM.out, hcu]; simp))
        clear hp1 hp2 hF1 hcu hX
        go_wp2
        go_ret
        rw [← HG.out, HY.out]
        exact ⟨rfl, (Fa.out.trans' ((hF.out.trans F1.out).alloc _) (fun _ h => h.elim))⟩
    · have HY := hid (could_no (l := l) (fun j hj => hN.out j hj))
      clear cc
      go_wp2
      go_ret
      rw [← HG.out, HY.out]
      exact ⟨rfl, Fa.out.trans hF.out⟩
end Go.Proofs.YtmkkibaacclhnaaGreat

namespace Go.Proofs.YtmkkibaacclhnaaGreat
open Go.RowKit

theorem tok_cut {l : List UInt8} {t : Tk} {neg : Bool} {wh fr : List UInt8} {en : Bool} {ex : List UInt8} {r : Nat} (w : World) (hl : l.length ≤ 1000000000000000) (hr : run t0 l = some t) (hc : cutL l = some (neg, wh, fr, en, ex)) (h : IsNear (num (dv (wh ++ fr))) (powX fr en ex) r) : Ends t.st ∧ tokV t = parseV neg r := by
  obtain ⟨t', r', h1, h2, h3, h4, h5⟩ := near_link w hl hc
  rw [hr] at h1
  cases h1
  refine ⟨h2, ?_⟩
  rw [tokV_near h2 (run_okk hr).1 h4, h3, h.uniq h5]
theorem great_tok {l : List UInt8} {t : Tk} (hr : run t0 l = some t) : greatV l = decide ((tokV t).2 = 6) := by
  unfold greatV
  rw [hr]
/-- does a token grow on? -/
def growB (t : Tk) : Bool := decide (6 ≤ t.st) && !t.pn
theorem nxt_is {t t' : Tk} {c : UInt8} (h : nxt t c = some t') : beh t.st c ≠ 0 ∧ t' = nxtTo t c (beh t.st c) := by
  unfold nxt at h
  split at h
  · cases h
  · rename_i hb
    cases h
    exact ⟨hb, rfl⟩
theorem beh_e {st : Nat} {c : UInt8} (he : c = 101 ∨ c = 69) (hb : beh st c ≠ 0) : beh st c = 6 := by
  unfold beh at hb ⊢
  rcases he with rfl | rfl
  · repeat' split
    all_goals simp_all [isD]
  · repeat' split
    all_goals simp_all [isD]
theorem beh_ne {st : Nat} {c : UInt8} (he : ¬ (c = 101 ∨ c = 69)) : beh st c ≠ 6 := by
  unfold beh
  repeat' split
  all_goals first
    | omega
    | (rename_i h; exact absurd h.2 he)
theorem nxtTo_pn (t : Tk) (c : UInt8) (k : Nat) : (nxtTo t c k).pn = if k = 7 then decide (c = 45) else t.pn := by
  unfold nxtTo
  by_cases h1 : k = 1
  · simp [h1]
  by_cases h2 : k = 2 ∨ k = 3
  · rcases h2 with rfl | rfl <;> simp
  by_cases h5 : k = 5
  · simp [h5]
  by_cases h7 : k = 7
  · simp [h7]
  by_cases h8 : k = 8
  · simp [h8]
  simp [h1, h2, h5, h7, h8]
def PnOk (t : Tk) : Prop := t.st ≤ 6 → t.pn = false
theorem t0_pn : PnOk t0 := fun _ => rfl
theorem beh_from {st : Nat} {c : UInt8} : (beh st c = 6 → st ≤ 5) ∧ (beh st c = 7 → st = 6 ∧ (c = 43 ∨ c = 45)) ∧ (beh st c = 8 → 6 ≤ st ∧ st ≤ 8 ∧ isD c = true) ∧ (beh st c ≠ 0 → beh st c ≤ 5 → st ≤ 5) := by
  refine ⟨fun h => ?_, fun h => ?_, fun h => ?_, fun h1 h2 => ?_⟩
  all_goals
    unfold beh at *
    repeat' split at *
    all_goals first
      | omega
      | (simp_all; done)
      | (simp_all; omega)
theorem num_step {t t' : Tk} {x : UInt8} (hn : nxt t x = some t') (hp : PnOk t) :
    PnOk t' ∧ (x = 101 ∨ x = 69 → growB t' = true ∧ tokLost t' = false) ∧ (¬ (x = 101 ∨ x = 69) → growB t = true → x = 45 → growB t' = false ∧ tokLost t' = false) ∧
    (¬ (x = 101 ∨ x = 69) → growB t = true → x ≠ 45 → growB t' = true ∧ tokLost t' = oor t'.D t'.at ∧ (t'.st = 8 ∨ (t'.st = 7 ∧ x = 43))) ∧ (¬ (x = 101 ∨ x = 69) → growB t = false → growB t' = false ∧ tokLost t' = false) := by
  obtain ⟨hb, rfl⟩ := nxt_is hn
  obtain ⟨b6, b7, b8, b5⟩ := @beh_from t.st x
  have hlt := beh_lt t.st x
  have hst := nxtTo_st t x (beh t.st x)
  have hpn := nxtTo_pn t x (beh t.st x)
  generalize hk : beh t.st x = k at *
  generalize nxtTo t x k = t' at *
  unfold PnOk growB tokLost at *
  rw [hst, hpn]
  refine ⟨fun h => ?_, fun he => ?_, fun he hg hx => ?_, fun he hg hx => ?_, fun he hg => ?_⟩
  · rw [if_neg (by omega)]
    by_cases h6 : k = 6
    · exact hp (by have := b6 h6; omega)
    · exact hp (by have := b5 hb (by omega); omega)
  · have h6 : k = 6 := by rw [← hk]; exact beh_e he (by rw [hk]; exact hb)
    have := hp (by have := b6 h6; omega)
    rw [if_neg (by omega), this, h6]
    exact ⟨rfl, rfl⟩
  · simp only [Bool.and_eq_true, decide_eq_true_eq, Bool.not_eq_true'] at hg
    have h7 : k = 7 ∨ k = 8 := by
      have := @beh_ne t.st x he
      rw [hk] at this
      have h5 := b5 hb
      omega
    rcases h7 with h7 | h7
    · rw [if_pos h7, hx]
      simp
    · exfalso
      have := (b8 h7).2.2
      rw [hx] at this
      exact absurd this (by decide)
  · simp only [Bool.and_eq_true, decide_eq_true_eq, Bool.not_eq_true'] at hg
    have h7 : k = 7 ∨ k = 8 := by
      have := @beh_ne t.st x he
      rw [hk] at this
      have h5 := b5 hb
      omega
    rcases h7 with h7 | h7
    · have h43 : x = 43 := by
        rcases (b7 h7).2 with h | h
        · exact h
        · exact absurd h hx
      rw [if_pos h7, h7, decide_eq_false hx]
      exact ⟨rfl, by simp, .inr ⟨rfl, h43⟩⟩
    · rw [if_neg (by omega), h7, hg.2]
      exact ⟨rfl, by simp, .inl rfl⟩
  · have hne := @beh_ne t.st x he
    rw [hk] at hne
    by_cases h6 : 6 ≤ t.st
    · have hpt : t.pn = true := by
        cases hq : t.pn with
        | true => rfl
        | false => rw [hq, decide_eq_true h6] at hg; cases hg
      have h7 : k ≠ 7 := fun h => by
        have := hp (by have := (b7 h).1; omega)
        rw [hpt] at this
        cases this
      rw [if_neg h7, hpt]
      simp
    · have hk5 : k ≤ 5 := by
        by_cases h7 : k = 7
        · have := (b7 h7).1; omega
        · by_cases h8 : k = 8
          · have := (b8 h8).1; omega
          · omega
      rw [decide_eq_false (show ¬ 6 ≤ k by omega), decide_eq_false (show ¬ 7 ≤ k by omega)]
      exact ⟨rfl, rfl⟩
/-- out of range by one byte more, told at once -/
theorem lost_over {s : List UInt8} {t : Tk} (w : World) (hl : s.length ≤ 100000000) (hr : run t0 s = some t) (h : t.st = 8 ∨ t.st = 7) : (someV s && greatV (if t.st = 7 then s ++ [48] else s)) = oor t.D t.at := by
  have hS : oor t.D t.at = true → someV s = true := fun ho => by
    refine some_D (t := t0) rfl (Nat.zero_le _) hr ?_
    intro hD
    rw [hD] at ho
    simp [oor] at ho
  have hG : greatV (if t.st = 7 then s ++ [48] else s) = oor t.D t.at := by
    by_cases h7 : t.st = 7
    · rw [if_pos h7]
      have hb : beh t.st 48 = 8 := by rw [h7]; decide
      have hrun : run t0 (s ++ [48]) = some (nxtTo t 48 8) := by
        rw [run_snoc 48 hr]
        unfold nxt
        rw [hb]
        rfl
      have hpw : t.pw = 0 := (run_okk hr).2 (by omega)
      rw [great_lost w (by rw [List.length_append]; simp; omega) hrun (by rw [nxtTo_st]; exact .inr (.inr (.inr rfl)))]
      have e1 : (nxtTo t 48 8).D = t.D := by simp [nxtTo]
      have e2 : (nxtTo t 48 8).at = t.at := by
        unfold Tk.at nxtTo
        simp [hpw]
      rw [e1, e2]
    · rw [if_neg h7]
      exact great_lost w (by omega) hr (by unfold Ends; omega)
  rw [hG]
  cases ho : oor t.D t.at with
  | true => rw [hS ho]; rfl
  | false => simp
end Go.Proofs.YtmkkibaacclhnaaGreat
