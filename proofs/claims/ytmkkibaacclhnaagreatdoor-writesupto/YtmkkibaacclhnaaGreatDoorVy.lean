/-
  A step of the walk, the part named Vy. No theorem of the row.
-/
import Derived.Test.YtmkkibaacclhnaaGreatDoorVw
namespace Go.Proofs.YtmkkibaacclhnaaGreatDoor
open Go.RowKit

set_option maxRecDepth 100000 in
set_option maxHeartbeats 4000000 in
theorem lnum_any (e : Int) (w : World) : Calls Tryz.prog 10 #[.int .i64 e] w fun x w' => x = .returned (.int .i64 e) ∧ w' = w := by
  go_enter Tryz.func10, Tryz.ntmps10
  go_wp2
  go_ret
  exact ⟨rfl, rfl⟩
theorem size29B : (Tryz.prog.info? 29).map (·.size) = some 4 := by kernel_rfl
theorem imsV_one (l : List Im) : ∀ v, v ∈ imsV l → v.oneCell' = true := by
  intro v hv
  unfold imsV at hv
  rw [List.mem_flatMap] at hv
  obtain ⟨x, _, hv⟩ := hv
  unfold imC at hv
  simp at hv
  rcases hv with rfl | rfl | rfl | rfl <;> rfl
/-- the copy that the law makes -/
theorem copy_ex (w : World) (pa : Option Addr) (cap : Nat) (its : List Im) (h : LR w pa its) : ∃ W2, (Builtin.copy_ #[22, 22] 3 #[.slice (some ⟨w.heap.size, 0, none⟩) (its.length + 8) (its.length + 8), .slice pa its.length cap]).run Tryz.prog (w.alloc (.cells (madeCells #[Value.int .i64 0, .int .i64 0, .int .u64 0, .string ⟨#[]⟩] ((its.length + 8) * 4)) 29)) = .ok (goInt its.length) W2 ∧ IB W2 w.heap.size (its ++ List.replicate 8 zeroI) ∧ Fr (fun _ => False) w W2 := by
  have hF := (Fr.refl (fun _ => False) w).alloc (.cells (madeCells #[Value.int .i64 0, .int .i64 0, .int .u64 0, .string ⟨#[]⟩] ((its.length + 8) * 4)) 29)
  have hM := IB.made w (its.length + 8)
  rw [← List.replicate_append_replicate] at hM
  by_cases hl : its = []
  · subst hl
    exact ⟨_, run_copy4_nil _ 22 22 3 29 _ _ _ _ _ Tryz.underlying22 size29B, by simpa using hM, hF⟩
  · obtain ⟨ad, rfl, hc⟩ := (h.fr hF).flat hl
    refine ⟨_, run_copy4 _ 22 22 3 29 w.heap.size _ _ ad its.length cap _ 29 (imsV its) Tryz.underlying22 size29B hM (Nat.min_eq_left (by omega)) (imsV_length its) hc (by simp [imsV_length]; omega) (imsV_one its), ?_, ?_⟩
    · have := hM.copy (C := its) (by simp)
      rw [List.toList_toArray]
      exact this
    · exact hF.setRow (.inr (Nat.le_refl _)) _
theorem made29 (w : World) (n : Nat) (hn : n ≤ 10000000) : (Instr.makeSlice 22 (.int .i64 ((n : Int) + 8)) (.int .i64 ((n : Int) + 8))).run Tryz.prog w = .ok (.slice (some ⟨w.heap.size, 0, none⟩) (n + 8) (n + 8)) (w.alloc (.cells (madeCells #[Value.int .i64 0, .int .i64 0, .int .u64 0, .string ⟨#[]⟩] ((n + 8) * 4)) 29)) := by
  obtain ⟨i0, hi, hq⟩ := Option.map_eq_some_iff.1 Tryz.info29B
  simp only [Prod.mk.injEq] at hq
  obtain ⟨q1, q2, q3⟩ := hq
  have := run_make (P := Tryz.prog) w 22 29 i0 _ Tryz.underlying22 hi q1 .i64 .i64 ((n : Int) + 8) ((n : Int) + 8) (by omega) (Int.le_refl _) (by rw [q3]; omega) (by omega)
  rw [q2, show ((n : Int) + 8).toNat = n + 8 by omega] at this
  exact this
set_option maxRecDepth 100000 in
set_option maxHeartbeats 16000000 in
theorem lwrite_any (w : World) (pa : Option Addr) (cap : Nat) (its : List Im) (indent : Int) (so : Bool) (h : LR w pa its) (hT : Tabs w) (hcap : its.length ≤ cap) (hc : cap ≤ 1000000000) (hl : its.length ≤ 9000000) (hs : ∀ x, x ∈ its → x.s.length ≤ 100000000) (hb : Bok its) (hwg : wgt its ≤ 90000000000) :
    Calls Tryz.prog 9 #[.slice pa its.length cap, .int .i64 indent, .bool so] w fun e w' => e = .returned (.bool true) ∧ Fr (fun _ => False) w w' := by
  have hmk := fun wx => made29 wx its.length (by omega)
  obtain ⟨W2, hcp, hIB, hF2⟩ := copy_ex w pa cap its h
  have HR := hid (fun wx (hf : Fr (fun _ => False) w wx) => rwrite_any wx pa cap its indent so (h.fr hf) hcap hc (by omega) hs hb (by omega))
  have HP := hid (fun wx (hf : Fr (fun _ => False) w wx) (hi : IB wx w.heap.size (its ++ List.replicate 8 spareI)) => pwrite_any wx w.heap.size (its.length + 8) its indent so (by have := hi.it (by simp; omega); simpa using this) (hT.fr hf id id) (by omega) hs hb hwg)
  have HLR := hid h
  have HIB := hid hIB
  have HF2 := hid hF2
  have HLEN := hid (show (its ++ List.replicate 8 zeroI).length = its.length + 8 by simp)
  generalize (wAns its indent so).1 = T at *
  generalize (wAns its indent so).2 = E at *
  clear h hT hs hb hwg hIB hF2
  obtain ⟨n, hn⟩ : ∃ n, its.length = n := ⟨_, rfl⟩
  rw [hn] at hmk hcp HR HP HLEN hl hcap ⊢
  go_enter Tryz.func9, Tryz.ntmps9
  go_wp2
  go_loopw [8] (fun iv wr => ∃ (i : Nat) (L : List Im), iv = .int .i64 (i : Int) ∧ n ≤ i ∧ i ≤ n + 8 ∧ Hid (L.length = n + 8) ∧ Hid (IB wr w.heap.size L) ∧ Hid (Fr (fun _ => False) w wr) ∧ Hid (L = its ++ (List.replicate (i - n) spareI ++ List.replicate (8 - (i - n)) zeroI))) (fun iv _ => n + 8 - (intOf iv).toNat)
  case atStart => exact ⟨n, _, rfl, Nat.le_refl _, by omega, HLEN, HIB, HF2, hid (by rw [Nat.sub_self]; rfl)⟩
  case round =>
    clear HIB HF2 HLEN hcp hmk
    obtain ⟨i, L, rfl, h1, h2, hLl, hIB, hF, hL⟩ := hrel
    by_cases hi : i < n + 8
    · have hz : (i : Int) < (n : Int) + 8 := by omega
      obtain ⟨x, hx⟩ : ∃ x, L[i]? = some x := ⟨_, List.getElem?_eq_getElem (by rw [hLl.out]; exact hi)⟩
      obtain ⟨c0, c1, c2, c3, cf⟩ := hIB.out.cells hx
      have HIB2 := hid (show IB ((((wr.setCell ⟨w.heap.size, i * 4, none⟩ (.int .i64 77)).setCell ⟨w.heap.size, i * 4 + 1, none⟩ (.int .i64 78)).setCell ⟨w.heap.size, i * 4 + 2, none⟩ (.int .u64 79)).setCell ⟨w.heap.size, i * 4 + 3, none⟩ (.string ⟨#[115, 112, 97, 114, 101]⟩)) w.heap.size (L.set i spareI) from hIB.out.set i spareI)
      have HF3 := hid (show Fr (fun _ => False) w ((((wr.setCell ⟨w.heap.size, i * 4, none⟩ (.int .i64 77)).setCell ⟨w.heap.size, i * 4 + 1, none⟩ (.int .i64 78)).setCell ⟨w.heap.size, i * 4 + 2, none⟩ (.int .u64 79)).setCell ⟨w.heap.size, i * 4 + 3, none⟩ (.string ⟨#[115, 112, 97, 114, 101]⟩)) from (((hF.out.setCell (p := ⟨w.heap.size, i * 4, none⟩) (.inr (Nat.le_refl _)) _).setCell (p := ⟨w.heap.size, i * 4 + 1, none⟩) (.inr (Nat.le_refl _)) _).setCell (p := ⟨w.heap.size, i * 4 + 2, none⟩) (.inr (Nat.le_refl _)) _).setCell (p := ⟨w.heap.size, i * 4 + 3, none⟩) (.inr (Nat.le_refl _)) _)
      clear hx
      go_wp2
      go_roundw
      case rel =>
        refine ⟨i + 1, L.set i spareI, by simp, by omega, by omega, hid (by rw [List.length_set]; exact hLl.out), HIB2, HF3, hid ?_⟩
        rw [hL.out]
        obtain ⟨j, rfl⟩ : ∃ j, i = n + j := ⟨i - n, by omega⟩
        rw [show n + j - n = j by omega, show n + j + 1 - n = j + 1 by omega, List.set_append_right _ _ (by omega), hn, show n + j - n = j by omega, List.set_append_right _ _ (by simp), List.length_replicate, Nat.sub_self, show 8 - j = (8 - (j + 1)) + 1 by omega, List.replicate_succ, List.set_cons_zero, List.replicate_succ', List.append_assoc]
        rfl
      case measure => simp only [intOf]; omega
    · obtain rfl : i = n + 8 := by omega
      have hz : ¬ ((n + 8 : Nat) : Int) < (n : Int) + 8 := by omega
      have hIB2 := hIB.out
      rw [hL.out, show n + 8 - n = 8 by omega, Nat.sub_self, List.replicate_zero, List.append_nil] at hIB2
      have HW := hid (HP.out wr hF.out hIB2)
      have HIB := hid hIB2
      clear hIB hIB2 hL hLl
      go_wp2_with fail
      refine Calls.mono HW.out ?_
      rintro e w3 ⟨rfl, hF3⟩
      have HIB3 := hid (HIB.out.fr hF3 id)
      have HF3 := hid (hF.out.trans hF3)
      clear hF3 HIB hF HW
      go_wp2_with fail
      refine Calls.mono (HR.out w3 HF3.out) ?_
      rintro e w4 ⟨rfl, hF4⟩
      have HIB4 := hid (HIB3.out.fr hF4 id)
      have HF4 := hid (HF3.out.trans hF4)
      clear hF4 HIB3 HF3
      have heq : ((ofL T).toList == (ofL T).toList) = true := beq_self_eq_true _
      go_wp2_with (first | (go_at_call 10; refine Calls.mono (lnum_any E _) ?_; rintro x w5 ⟨rfl, hw5⟩; have hw6 := hw5.symm; subst hw6) | fail)
      clear HP HR
      have HL0 := hid (show (its ++ List.replicate 8 spareI).length = n + 8 by simp [hn])
      go_loopw [13, 14] (fun ok iv wr => ∃ (i : Nat) (L : List Im), ok = .bool true ∧ iv = .int .i64 (i : Int) ∧ i ≤ n + 8 ∧ Hid (L.length = n + 8) ∧ Hid (IB wr w.heap.size L) ∧ Hid (Fr (fun _ => False) w wr) ∧ Hid (∀ k, i ≤ k → L[k]? = (its ++ List.replicate 8 spareI)[k]?)) (fun _ iv _ => n + 8 - (intOf iv).toNat)
      case atStart => exact ⟨0, _, rfl, rfl, Nat.zero_le _, HL0, HIB4, HF4, hid (fun _ _ => rfl)⟩
      case round =>
        clear HIB4 HF4 HL0 heq
        obtain ⟨i, L, rfl, rfl, hi8, hLl, hIB, hF, hL⟩ := hrel
        by_cases hi : i < n + 8
        · have hz2 : (i : Int) < (n : Int) + 8 := by omega
          have hk := hL.out i (Nat.le_refl _)
          by_cases hin : i < n
          · have hinz : (i : Int) < (n : Int) := by omega
            obtain ⟨x, hx⟩ : ∃ x, its[i]? = some x := ⟨_, List.getElem?_eq_getElem (by rw [hn]; exact hin)⟩
            rw [List.getElem?_append_left (by omega), hx] at hk
            obtain ⟨ad, hpa, -⟩ := HLR.out (by rintro rfl; simp at hx)
            subst hpa
            have e0 := fun o => (((hIB.out.fr ((Fr.refl (fun _ => False) wr).alloc o) id).cells hk)).1
            have e1 := fun o => (((hIB.out.fr ((Fr.refl (fun _ => False) wr).alloc o) id).cells hk)).2.1
            have e2 := fun o => (((hIB.out.fr ((Fr.refl (fun _ => False) wr).alloc o) id).cells hk)).2.2.1
            have e3 := fun o => (((hIB.out.fr ((Fr.refl (fun _ => False) wr).alloc o) id).cells hk)).2.2.2.1
            have ef := fun o => (((hIB.out.fr ((Fr.refl (fun _ => False) wr).alloc o) id).cells hk)).2.2.2.2
            have l0 := fun o => ((HLR.out.fr (hF.out.alloc o)).at_ hx).1
            have l1 := fun o => ((HLR.out.fr (hF.out.alloc o)).at_ hx).2.1
            have l2 := fun o => ((HLR.out.fr (hF.out.alloc o)).at_ hx).2.2.1
            have l3 := fun o => ((HLR.out.fr (hF.out.alloc o)).at_ hx).2.2.2
            obtain ⟨xk, xn, xb, xs⟩ := x
            simp only at e0 e1 e2 e3 l0 l1 l2 l3
            have hss : ((ofL xs).toList == (ofL xs).toList) = true := beq_self_eq_true _
            clear hx hk
            have HI3 := hid (fun o => show IB (((((wr.alloc o).setCell ⟨w.heap.size, i * 4, none⟩ (.int .i64 99)).setCell ⟨w.heap.size, i * 4 + 1, none⟩ (.int .i64 0)).setCell ⟨w.heap.size, i * 4 + 2, none⟩ (.int .u64 0)).setCell ⟨w.heap.size, i * 4 + 3, none⟩ (.string ⟨#[]⟩)) w.heap.size (L.set i goneI) from (hIB.out.fr ((Fr.refl (fun _ => False) wr).alloc o) id).set i goneI)
            have HF3 := hid (fun o => show Fr (fun _ => False) w (((((wr.alloc o).setCell ⟨w.heap.size, i * 4, none⟩ (.int .i64 99)).setCell ⟨w.heap.size, i * 4 + 1, none⟩ (.int .i64 0)).setCell ⟨w.heap.size, i * 4 + 2, none⟩ (.int .u64 0)).setCell ⟨w.heap.size, i * 4 + 3, none⟩ (.string ⟨#[]⟩)) from ((((hF.out.alloc o).setCell (p := ⟨w.heap.size, i * 4, none⟩) (.inr (Nat.le_refl _)) _).setCell (p := ⟨w.heap.size, i * 4 + 1, none⟩) (.inr (Nat.le_refl _)) _).setCell (p := ⟨w.heap.size, i * 4 + 2, none⟩) (.inr (Nat.le_refl _)) _).setCell (p := ⟨w.heap.size, i * 4 + 3, none⟩) (.inr (Nat.le_refl _)) _)
            go_wp2
            go_quiet (fail)
            go_wp2
            go_roundw
            case rel =>
              refine ⟨i + 1, L.set i goneI, by first | rfl | trivial, by simp, by omega, hid (by rw [List.length_set]; exact hLl.out), hid (HI3.out _), hid ((HF3.out _).drewN _), hid (fun k hk => ?_)⟩
              rw [List.getElem?_set_ne (by omega)]
              exact hL.out k (by omega)
            case measure => simp only [intOf]; omega
          · have hinz : ¬ (i : Int) < (n : Int) := by omega
            have hss : ((ByteArray.mk #[115, 112, 97, 114, 101]).toList == (ByteArray.mk #[115, 112, 97, 114, 101]).toList) = true := beq_self_eq_true _
            rw [List.getElem?_append_right (by omega), List.getElem?_replicate, if_pos (by omega)] at hk
            have e0 := fun o => (((hIB.out.fr ((Fr.refl (fun _ => False) wr).alloc o) id).cells hk)).1
            have e1 := fun o => (((hIB.out.fr ((Fr.refl (fun _ => False) wr).alloc o) id).cells hk)).2.1
            have e2 := fun o => (((hIB.out.fr ((Fr.refl (fun _ => False) wr).alloc o) id).cells hk)).2.2.1
            have e3 := fun o => (((hIB.out.fr ((Fr.refl (fun _ => False) wr).alloc o) id).cells hk)).2.2.2.1
            have ef := fun o => (((hIB.out.fr ((Fr.refl (fun _ => False) wr).alloc o) id).cells hk)).2.2.2.2
            have d0 : ∀ o, (wr.alloc o).cell? ⟨w.heap.size, i * 4, none⟩ = some (.int .i64 77) := e0
            have d1 : ∀ o, (wr.alloc o).cell? ⟨w.heap.size, i * 4 + 1, none⟩ = some (.int .i64 78) := e1
            have d2 : ∀ o, (wr.alloc o).cell? ⟨w.heap.size, i * 4 + 2, none⟩ = some (.int .u64 79) := e2
            have d3 : ∀ o, (wr.alloc o).cell? ⟨w.heap.size, i * 4 + 3, none⟩ = some (.string ⟨#[115, 112, 97, 114, 101]⟩) := e3
            clear hk e0 e1 e2 e3
            have HI3 := hid (fun o => show IB (((((wr.alloc o).setCell ⟨w.heap.size, i * 4, none⟩ (.int .i64 99)).setCell ⟨w.heap.size, i * 4 + 1, none⟩ (.int .i64 0)).setCell ⟨w.heap.size, i * 4 + 2, none⟩ (.int .u64 0)).setCell ⟨w.heap.size, i * 4 + 3, none⟩ (.string ⟨#[]⟩)) w.heap.size (L.set i goneI) from (hIB.out.fr ((Fr.refl (fun _ => False) wr).alloc o) id).set i goneI)
            have HF3 := hid (fun o => show Fr (fun _ => False) w (((((wr.alloc o).setCell ⟨w.heap.size, i * 4, none⟩ (.int .i64 99)).setCell ⟨w.heap.size, i * 4 + 1, none⟩ (.int .i64 0)).setCell ⟨w.heap.size, i * 4 + 2, none⟩ (.int .u64 0)).setCell ⟨w.heap.size, i * 4 + 3, none⟩ (.string ⟨#[]⟩)) from ((((hF.out.alloc o).setCell (p := ⟨w.heap.size, i * 4, none⟩) (.inr (Nat.le_refl _)) _).setCell (p := ⟨w.heap.size, i * 4 + 1, none⟩) (.inr (Nat.le_refl _)) _).setCell (p := ⟨w.heap.size, i * 4 + 2, none⟩) (.inr (Nat.le_refl _)) _).setCell (p := ⟨w.heap.size, i * 4 + 3, none⟩) (.inr (Nat.le_refl _)) _)
            go_wp2
            go_quiet (fail)
            go_wp2
            go_roundw
            case rel =>
              refine ⟨i + 1, L.set i goneI, by first | rfl | trivial, by simp, by omega, hid (by rw [List.length_set]; exact hLl.out), hid (HI3.out _), hid ((HF3.out _).drewN _), hid (fun k hk => ?_)⟩
              rw [List.getElem?_set_ne (by omega)]
              exact hL.out k (by omega)
            case measure => simp only [intOf]; omega
        · obtain rfl : i = n + 8 := by omega
          have hz2 : ¬ ((n + 8 : Nat) : Int) < (n : Int) + 8 := by omega
          clear hL hIB
          go_wp2
          go_ret
          exact ⟨rfl, hF.out⟩
end Go.Proofs.YtmkkibaacclhnaaGreatDoor

namespace Go.Proofs.YtmkkibaacclhnaaGreatDoor
open Go.RowKit

/-- the law's own example -/
def its4 : List Im := [⟨6, 1, 0, []⟩, ⟨4, 0, 0, [97]⟩, ⟨5, 1, 0, []⟩, ⟨3, 0, 4607182418800017408, []⟩]
theorem size4I : sizeD 1000 its4 = 4 := by decide +kernel
theorem wr4_n (w : World) : wrD (-1) true 998 [⟨3, 0, 4607182418800017408, []⟩] = [49] := by
  show leafT ⟨3, 0, 4607182418800017408, []⟩ = [49]
  unfold leafT
  simp only
  rw [if_neg (by decide), if_neg (by decide), if_neg (by decide), if_pos trivial]
  exact printT_unit w
theorem wr4_a (w : World) : wrD (-1) true 999 [⟨5, 1, 0, []⟩, ⟨3, 0, 4607182418800017408, []⟩] = [91, 49, 93] := by
  have : wrD (-1) true 999 [⟨5, 1, 0, []⟩, ⟨3, 0, 4607182418800017408, []⟩] = joinL (-1) 1 false [wrD (-1) true 998 [⟨3, 0, 4607182418800017408, []⟩]] := rfl
  rw [this, wr4_n w]
  rfl
theorem wr4 (w : World) : wAns its4 (-1) true = ([123, 34, 97, 34, 58, 91, 49, 93, 125], 0) := by
  unfold wAns
  rw [if_neg (by decide), size4I, if_neg (by decide)]
  have : wrD (-1) true 1000 its4 = joinL (-1) 0 true [headL (-1) [97] ++ wrD (-1) true 999 [⟨5, 1, 0, []⟩, ⟨3, 0, 4607182418800017408, []⟩]] := rfl
  rw [this, wr4_a w]
  rfl
theorem pwrite4 (w : World) (g : Nat) (hI : ItAt w (.slice (some ⟨g, 0, none⟩) 4 4) its4) (hT : Tabs w) :
    Calls Tryz.prog 8 #[.slice (some ⟨g, 0, none⟩) 4 4, .int .i64 (-1), .bool true] w fun e w' => e = .returned (.tuple #[.string ⟨#[123, 34, 97, 34, 58, 91, 49, 93, 125]⟩, .int .i64 0]) ∧ Fr (fun _ => False) w w' := by
  have := pwrite_any w g 4 its4 (-1) true hI hT (by decide) (by decide) (by intro x hx; unfold its4 at hx; simp at hx; rcases hx with rfl | rfl | rfl | rfl <;> decide) (by decide)
  rw [wr4 w] at this
  exact this
theorem IB4 (w : World) : ItAt (w.alloc (.cells #[.int .i64 6, .int .i64 1, .int .u64 0, .string ⟨#[]⟩, .int .i64 4, .int .i64 0, .int .u64 0, .string ⟨#[97]⟩, .int .i64 5, .int .i64 1, .int .u64 0, .string ⟨#[]⟩, .int .i64 3, .int .i64 0, .int .u64 4607182418800017408, .string ⟨#[]⟩] 29)) (.slice (some ⟨w.heap.size, 0, none⟩) 4 4) its4 := by
  have h : IB (w.alloc (.cells #[.int .i64 6, .int .i64 1, .int .u64 0, .string ⟨#[]⟩, .int .i64 4, .int .i64 0, .int .u64 0, .string ⟨#[97]⟩, .int .i64 5, .int .i64 1, .int .u64 0, .string ⟨#[]⟩, .int .i64 3, .int .i64 0, .int .u64 4607182418800017408, .string ⟨#[]⟩] 29)) w.heap.size (its4 ++ []) := heap_alloc_new w _
  exact h.it (by decide)
set_option maxRecDepth 100000 in
set_option maxHeartbeats 16000000 in
theorem writes_any (w : World) (pa : Option Addr) (cap : Nat) (its : List Im) (indent : Int) (so : Bool) (h : LR w pa its) (hT : Tabs w) (hcap : its.length ≤ cap) (hc : cap ≤ 1000000000) (hl : its.length ≤ 9000000) (hs : ∀ x, x ∈ its → x.s.length ≤ 100000000) (hb : Bok its) (hwg : wgt its ≤ 90000000000) :
    Calls Tryz.prog 3 #[.slice pa its.length cap, .int .i64 indent, .bool so] w fun e w' => e = .returned (.bool true) ∧ Fr (fun _ => False) w w' := by
  have HL := hid (fun wx (hf : Fr (fun _ => False) w wx) => lwrite_any wx pa cap its indent so (h.fr hf) (hT.fr hf id id) hcap hc hl hs hb hwg)
  have HT := hid (fun wx (hf : Fr (fun _ => False) w wx) => hT.fr hf id id)
  clear h hT hs hb hwg
  generalize its.length = n at *
  have hss : ((ByteArray.mk #[123, 34, 97, 34, 58, 91, 49, 93, 125]).toList == (ByteArray.mk #[123, 34, 97, 34, 58, 91, 49, 93, 125]).toList) = true := beq_self_eq_true _
  go_enter Tryz.func3, Tryz.ntmps3
  go_wp2_with fail
  refine Calls.mono (shown_any _) ?_
  rintro e w1 ⟨rfl, hF1⟩
  have HF1 := hid hF1
  clear hF1
  go_wp2_with fail
  refine Calls.mono (pwrite4 _ _ (IB4 w1) (HT.out _ (HF1.out.alloc _))) ?_
  rintro e w2 ⟨rfl, hF2⟩
  have HF2 := hid ((HF1.out.alloc _).trans hF2)
  clear hF2
  go_wp2_with fail
  refine Calls.mono (HL.out _ HF2.out) ?_
  rintro e w3 ⟨rfl, hF3⟩
  have HF3 := hid (HF2.out.trans hF3)
  clear hF3
  go_wp2_with (first | (go_at_call 10; refine Calls.mono (lnum_any 0 _) ?_; rintro x w5 ⟨rfl, hw5⟩; have hw6 := hw5.symm; subst hw6) | fail)
  go_ret
  exact ⟨rfl, HF3.out⟩
end Go.Proofs.YtmkkibaacclhnaaGreatDoor
