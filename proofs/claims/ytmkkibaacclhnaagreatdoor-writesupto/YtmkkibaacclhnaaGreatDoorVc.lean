/-
  A step of the walk, the part named Vc. No theorem of the row.
-/
import Derived.Test.YtmkkibaacclhnaaGreatDoorVb
namespace Go.Proofs.YtmkkibaacclhnaaGreatDoor
open Go.RowKit

set_option maxRecDepth 100000 in
set_option maxHeartbeats 32000000 in
theorem wr_obj (d : Nat) (IH : WrOk d) (w : World) (ad : Addr) (cap inn : Nat) (n : Int) (b : Nat) (s : List UInt8) (r : List Im) (indent : Int) (so : Bool) (hinn : d + 1 + inn = 1000) (h : LR w (some ad) (⟨6, n, b, s⟩ :: r)) (hcap : r.length + 1 ≤ cap) (hc : cap ≤ 1000000000) (hlm : r.length + 1 ≤ 10000000) (hs : ∀ y, y ∈ (⟨6, n, b, s⟩ : Im) :: r → y.s.length ≤ 100000000) (hb : Bok (⟨6, n, b, s⟩ :: r)) (hi1 : -1 ≤ indent) (hi2 : indent ≤ 16) (hg : goodI ⟨6, n, b, s⟩ = true) (hsz : sizeD (d + 1) (⟨6, n, b, s⟩ :: r) ≠ 0) (hwg : wgt (⟨6, n, b, s⟩ :: r) ≤ 100000000000) :
    Calls Tryz.prog 47 #[.slice (some ad) (r.length + 1) cap, .int .i64 indent, .bool so, .int .i64 (inn : Int)] w fun e w' => e = .returned (.string (ofL (wrD indent so (d + 1) (⟨6, n, b, s⟩ :: r)))) ∧ Fr (fun _ => False) w w' := by
  have hn0 : 0 ≤ n := (goodI_nest hg (by simp)).2
  obtain ⟨N, rfl⟩ : ∃ N : Nat, n = (N : Int) := ⟨n.toNat, by omega⟩
  obtain ⟨F, hW, hI0, htF⟩ := nest_pure w d inn ⟨6, (N : Int), b, s⟩ r N indent so true hinn hi2 hb hg (by simp) rfl rfl hsz
  rw [hW]
  obtain ⟨U, hU⟩ : ∃ U, joinL indent inn true (F.map (·.2)) = U := ⟨_, rfl⟩
  rw [hU]
  have HU := hid hU
  clear hU
  obtain ⟨l, hl⟩ : ∃ l, (⟨6, (N : Int), b, s⟩ : Im) :: r = l := ⟨_, rfl⟩
  have HLR := hid (show LR w (some ad) l from by rw [← hl]; exact h)
  obtain ⟨c0, c1, c2, c3⟩ := h.at0
  try simp only at c0 c1 c2 c3
  have hll : l.length = r.length + 1 := by rw [← hl]; rfl
  obtain ⟨L, hL⟩ : ∃ L, r.length + 1 = L := ⟨_, rfl⟩
  rw [hL] at hll hcap hlm
  have HLL := hid hll
  rw [hl] at hI0 htF hwg
  have HTF := hid (show tot F ≤ 100000000000 from by omega)
  have HI0 := hid hI0
  have hL1 : 1 ≤ L := by omega
  rw [hL]
  have hw1 : IntKind.i64.wrap ((inn : Int) + 1) = (inn : Int) + 1 := IntWalk.i64_in _ (by omega)
  have hL0 : (0 : Int) < (L : Int) := by omega
  have HSS := hid (show ∀ y, y ∈ l → y.s.length ≤ 100000000 from by rw [← hl]; exact hs)
  have HBK := hid (show Bok l from by rw [← hl]; exact hb)
  have HIN := hid (show d + (inn + 1) = 1000 from by omega)
  have HWG := hid hwg
  have HIH := hid (fun (wx : World) (a : Nat) (hf : Fr (fun _ => False) w wx) (ha : a < L) (hz : sizeD d (l.drop a) ≠ 0) => (show Calls Tryz.prog 47 #[.slice (some (ad.add (a * 4))) (L - a) (cap - a), .int .i64 indent, .bool so, .int .i64 ((inn + 1 : Nat) : Int)] wx fun e w' => e = .returned (.string (ofL (wrD indent so d (l.drop a)))) ∧ Fr (fun _ => False) wx w' from by
    have := IH wx (some (ad.add (a * 4))) (cap - a) (inn + 1) (l.drop a) indent so HIN.out ((HLR.out.fr hf).drop a) (by have := HLL.out; rw [List.length_drop]; omega) (by omega) (by have := HLL.out; rw [List.length_drop]; omega) (fun y hy => HSS.out y (List.mem_of_mem_drop hy)) (HBK.out.drop a) hi1 hi2 hz (Nat.le_trans (wgt_drop_le l a) HWG.out)
    rw [List.length_drop, HLL.out] at this
    exact this))
  have HSZ := hid (fun (wx : World) (a : Nat) (hf : Fr (fun _ => False) w wx) (ha : a < L) => (show Calls Tryz.prog 46 #[.slice (some (ad.add (a * 4))) (L - a) (cap - a), .int .i64 ((inn + 1 : Nat) : Int)] wx fun e w' => e = .returned (.int .i64 ((sizeD d (l.drop a) : Nat) : Int)) ∧ Fr (fun _ => False) wx w' from by
    have := size_all d wx (some (ad.add (a * 4))) (cap - a) (inn + 1) (l.drop a) HIN.out ((HLR.out.fr hf).drop a) (by have := HLL.out; rw [List.length_drop]; omega) (by omega) (fun y hy => HSS.out y (List.mem_of_mem_drop hy))
    rw [List.length_drop, HLL.out] at this
    exact this))
  have HW0 := hid (Fr.refl (fun _ => False) (w.alloc (.cells #[.int .i64 6, .int .i64 (N : Int), .int .u64 (b : Int), .string (ofL s)] 29)))
  have HWW := hid ((Fr.refl (fun _ => False) w).alloc (.cells #[.int .i64 6, .int .i64 (N : Int), .int .u64 (b : Int), .string (ofL s)] 29))
  have HX := hid (fun (wx : World) hf => box_cells w (.int .i64 6) (.int .i64 (N : Int)) (.int .u64 (b : Int)) (.string (ofL s)) 29 wx hf)
  have HSP := hid (SP.nil (w.alloc (.cells #[.int .i64 6, .int .i64 (N : Int), .int .u64 (b : Int), .string (ofL s)] 29)))
  have HLN := hid (fun (k : Nat) (wx : World) (hk : k ≤ inn + 1) => line_same indent k wx hi2 (by omega))
  have hi1z : (inn : Int) + 1 = ((inn + 1 : Nat) : Int) := by omega
  clear h hs hg hl hll hL hn0 hb hsz hwg htF hI0 hW IH
  go_enter Tryz.func47, Tryz.ntmps47
  go_wp2
  go_loopw [12, 13, 14, 15] (fun p q s2 t wr => ∃ (pa : Option Addr) (pc : Nat) (ka : Option Addr) (kc a i : Nat) (cur : List KT), i + 1 ≤ a ∧ a ≤ L ∧ i ≤ N ∧ p = .slice pa i pc ∧ q = .slice ka i kc ∧ s2 = .int .i64 (a : Int) ∧ t = .int .i64 (i : Int) ∧ Hid (InvW d indent so true N l F i a cur) ∧ Hid (SP wr (.slice pa i pc) (cur.map (·.2))) ∧ Hid (SP wr (.slice ka i kc) (cur.map (·.1))) ∧ Hid (Fr (fun _ => False) (w.alloc (.cells #[.int .i64 6, .int .i64 (N : Int), .int .u64 (b : Int), .string (ofL s)] 29)) wr)) (fun _ _ _ t _ => N - (intOf t).toNat)
  case atStart => exact ⟨none, 0, none, 0, 1, 0, [], by omega, by omega, by omega, rfl, rfl, by go_num, by go_num, HI0, HSP, HSP, HW0⟩
  case round =>
    clear c0 c1 c2 c3 HI0 HSP HW0
    obtain ⟨pa, pc, ka, kc, a, i, cur, hia, haL, hiN, rfl, rfl, rfl, rfl, hI, hP, hK, hF⟩ := hrel
    obtain ⟨x0, x1⟩ := HX.out wr hF.out
    by_cases hlt : i < N
    · have hiz : (i : Int) < (N : Int) := by omega
      obtain ⟨y, n1, hn1, hy, hsz, ha1, hT, hI2⟩ := hI.out.obj hlt
      rw [HLL.out] at ha1
      have HI2 := hid hI2
      have haL2 : a < L := by omega
      have ha1L : a + 1 < L := by omega
      have HW := hid (fun wx hf => HIH.out wx (a + 1) hf ha1L (by rw [hsz]; omega))
      have HS := hid (fun wx hf => HSZ.out wx (a + 1) hf ha1L)
      rw [hsz] at HS
      obtain ⟨q0, q1, q2, q3⟩ := ((HLR.out.fr (HWW.out.trans hF.out)).at_ hy)
      have hys := HSS.out y (List.mem_of_getElem? hy)
      have hql := quote_len y.s
      have HQ := hid (fun wx => quoted_any y.s wx hys)
      obtain ⟨ys, hyse⟩ : ∃ ys, y.s = ys := ⟨_, rfl⟩
      rw [hyse] at HQ hys hql q3 HI2 hT
      obtain ⟨T, hTe⟩ : ∃ T, wrD indent so d (l.drop (a + 1)) = T := ⟨_, rfl⟩
      rw [hTe] at HW HI2 hT
      have HCL := hid hI.out.n
      have hTl : (headL indent ys ++ T).length ≤ 100000000000 := Nat.le_trans hT HTF.out
      have hsT : (ofL T).size = T.length := ofL_size T
      have hsH : (ofL (headL indent ys)).size = (headL indent ys).length := ofL_size _
      have hcatT : ofL (headL indent ys) ++ ofL T = ofL (headL indent ys ++ T) := ofL_append _ _
      rw [List.length_append] at hTl
      have HP1 := hid (fun (wx : World) (k : Nat) (hk : k ≤ i) (h : SP wx (.slice pa i pc) (cur.map (·.2))) => put_any (headL indent ys ++ T) wx pa i pc k _ h (by simp [HCL.out]; exact hk) (by simp [HCL.out]; omega))
      have HP2 := hid (fun (wx : World) (k : Nat) (hk : k ≤ i) (h : SP wx (.slice ka i kc) (cur.map (·.1))) => put_any ys wx ka i kc k _ h (by simp [HCL.out]; exact hk) (by simp [HCL.out]; omega))
      simp only [List.length_map, HCL.out] at HP1 HP2
      have HM1 := hid (fun k => map_put2 cur k (ys, headL indent ys ++ T) (·.2))
      have HM2 := hid (fun k => map_put2 cur k (ys, headL indent ys ++ T) (·.1))
      have HST := hid (show ∀ k, k = (if so = true then posGo (cur.map (·.1)) ys i else i) → stepP so cur (ys, headL indent ys ++ T) = cur.take k ++ [(ys, headL indent ys ++ T)] ++ cur.drop k from by rintro k rfl; unfold stepP; rw [HCL.out])
      have HKR := hid (show ∀ (wx : World) (gi k : Nat), ka = some ⟨gi, 0, none⟩ → k < i → SP wx (.slice ka i kc) (cur.map (·.1)) → wx.cell? ⟨gi, k, none⟩ = some (.string (ofL ((cur.map (·.1))[k]?.getD []))) from by
        rintro wx gi k rfl hk hsp
        have h1 := hsp.1
        unfold SR at h1
        rw [List.length_map, HCL.out] at h1
        refine rowCell h1 k _ ?_
        have hlk : k < (cur.map (·.1)).length := by rw [List.length_map, HCL.out]; exact hk
        unfold strV
        rw [List.getElem?_map, List.getElem?_eq_getElem hlk]
        rfl)
      obtain ⟨a1, ha1e⟩ : ∃ a1, a + 1 = a1 := ⟨_, rfl⟩
      rw [ha1e] at HW HS HI2 ha1 ha1L
      have ha1z : (a : Int) + 1 = (a1 : Int) := by omega
      obtain ⟨a2, ha2e⟩ : ∃ a2, a1 + n1 = a2 := ⟨_, rfl⟩
      rw [ha2e] at HI2 ha1
      have ha2z : (a1 : Int) + (n1 : Int) = (a2 : Int) := by omega
      have hw4 : IntKind.i64.wrap ((a1 : Int) + (n1 : Int)) = (a2 : Int) := by rw [ha2z]; exact IntWalk.i64_in _ (by omega)
      have hw6 : IntKind.i64.wrap ((a : Int) + 1) = (a1 : Int) := by rw [ha1z]; exact IntWalk.i64_in _ (by omega)
      have haz : (a : Int) < (L : Int) := by omega
      have hia2 : i + 2 ≤ a2 := by omega
      have hw3 : IntKind.i64.wrap ((i : Int) + 1) = (i : Int) + 1 := IntWalk.i64_in _ (by omega)
      have hacz : a1 < cap := by omega
      have hq1 : (ofL (quoteL ys)).size ≤ 600000002 := by rw [ofL_size]; unfold quoteL; simp only [List.length_cons, List.length_append, List.length_nil]; omega
      obtain ⟨mq, hmq⟩ : ∃ mq, (ofL (quoteL ys)).size = mq := ⟨_, rfl⟩
      rw [hmq] at hq1
      have hcq1 : ofL (quoteL ys) ++ (⟨#[58]⟩ : ByteArray) = ofL (quoteL ys ++ [58]) := ofL_append _ [58]
      have hcq2 : ofL (quoteL ys ++ [58]) ++ (⟨#[32]⟩ : ByteArray) = ofL (quoteL ys ++ [58] ++ [32]) := ofL_append _ [32]
      have hx58 : (⟨#[58]⟩ : ByteArray).size = 1 := rfl
      have hx32 : (⟨#[32]⟩ : ByteArray).size = 1 := rfl
      have hmq1 : (ofL (quoteL ys ++ [58])).size = mq + 1 := by rw [← hcq1, ByteArray.size_append, hmq]; rfl
      have hhd : headL indent ys = quoteL ys ++ [58] ++ (if indent = -1 then [] else [32]) := by unfold headL; simp
      generalize hHL : headL indent ys = HL at *
      generalize inn + 1 = inn1 at *
      clear hT hsz hTe hI2 ha2e hn1 hI hyse hy HIH HSZ
      by_cases hneg : indent = -1
      · rw [if_pos hneg, List.append_nil] at hhd
        have hgez : decide ((0 : Int) ≤ indent) = false := decide_eq_false (by omega)
        have hgez2 : ¬ ((0 : Int) ≤ indent) := by omega
        rw [← hhd] at hcq1 hmq1
        clear hcq2 hneg hhd hHL
        generalize ofL (quoteL ys) = QK at *
        generalize ofL (quoteL ys ++ [58]) = QK1 at *
        have hsYT : ofL (HL ++ T) = ofL (HL ++ T) := rfl
        obtain ⟨TS, hTS⟩ : ∃ TS, ofL (HL ++ T) = TS := ⟨_, rfl⟩
        rw [hTS] at hcatT HP1
        generalize ofL HL = HD at *
        generalize ofL T = TT at *
        generalize HL.length = hll1 at *
        generalize T.length = tll at *
        clear hTS hsYT
        go_wp2_with fail
        refine Calls.mono (HQ.out _) ?_
        rintro e w2 ⟨rfl, hf2⟩
        have HF2 := hid (hF.out.trans hf2)
        have hP2 := hid (hP.out.fr hf2)
        have hK2 := hid (hK.out.fr hf2)
        obtain ⟨y0, y1⟩ := HX.out w2 (hF.out.trans hf2)
        clear hf2 x0 x1 hF hP hK HQ q0 q1 q2 q3
        go_wp2_with fail
        refine Calls.mono (HW.out _ (HWW.out.trans HF2.out)) ?_
        rintro e w3 ⟨rfl, hf3⟩
        have HF3 := hid (HF2.out.trans hf3)
        have hP3 := hid (hP2.out.fr hf3)
        have hK3 := hid (hK2.out.fr hf3)
        obtain ⟨z0, z1⟩ := HX.out w3 (HF2.out.trans hf3)
        clear hf3 y0 y1 HF2 hP2 hK2 HW
        go_wp2_with fail
        refine Calls.mono (HS.out _ (HWW.out.trans HF3.out)) ?_
        rintro e w4 ⟨rfl, hf4⟩
        have HF4 := hid (HF3.out.trans hf4)
        have hP4 := hid (hP3.out.fr hf4)
        have hK4 := hid (hK3.out.fr hf4)
        obtain ⟨x0, x1⟩ := HX.out w4 (HF3.out.trans hf4)
        clear hf4 z0 z1 HF3 hP3 hK3 HS
        cases so with
        | false =>
          go_wp2_with fail
          refine Calls.mono (HP1.out _ i (by omega) hP4.out) ?_
          rintro e w5 ⟨pa', pc', rfl, h5, hf5⟩
          have HF5 := hid (HF4.out.trans hf5)
          have hP5 := hid h5
          have hK5 := hid (hK4.out.fr hf5)
          clear hf5 HF4 hP4 hK4 HP1 h5
          go_wp2_with fail
          refine Calls.mono (HP2.out _ i (by omega) hK5.out) ?_
          rintro e w6 ⟨ka', kc', rfl, h6, hf6⟩
          have HF6 := hid (HF5.out.trans hf6)
          have hK6 := hid h6
          have hP6 := hid (hP5.out.fr hf6)
          clear hf6 HF5 hP5 hK5 HP2 h6
          go_wp2
          go_roundw
          case rel => exact ⟨pa', pc', ka', kc', a2, i + 1, _, by omega, ha1, by omega, rfl, rfl, rfl, by go_num, HI2, hid (by rw [HST.out i rfl, ← HM1.out]; exact hP6.out), hid (by rw [HST.out i rfl, ← HM2.out]; exact hK6.out), HF6⟩
          case measure => simp [intOf]; omega
        | true =>
          obtain ⟨ks, hks⟩ : ∃ ks, cur.map (·.1) = ks := ⟨_, rfl⟩
          have HPG := hid (fun k => posGo_le ks ys k)
          have HKC := hid (fun gi k hg hk => HKR.out w4 gi k hg hk hK4.out)
          rw [hks] at HST HKC
          simp only [if_true] at HST
          have HPS2 := hid (show posGo ks ys i = posGo ks ys i from rfl)
          obtain ⟨pz, hpz⟩ : ∃ pz, posGo ks ys i = pz := ⟨_, rfl⟩
          have HPZ := hid hpz
          rw [hpz] at HST
          have HKA := hid (show 0 < i → ∃ gi, ka = some ⟨gi, 0, none⟩ from fun hi => row_some hK4.out.1 (by rw [List.length_map, HCL.out]; omega))
          clear HKR hpz HPS2 hks
          go_wp2
          go_loopw [19] (fun t wq => ∃ k : Nat, k ≤ i ∧ t = .int .i64 (k : Int) ∧ Hid (posGo ks ys k = pz) ∧ wq = w4) (fun t _ => (intOf t).toNat)
          case atStart => exact ⟨i, by omega, by go_num, HPZ, rfl⟩
          case round =>
            clear HPZ
            obtain ⟨k, hki, rfl, hpk, rfl⟩ := hrel
            cases k with
            | zero =>
              have hpz : 0 = pz := hpk.out
              subst hpz
              clear hpk HPG HKC HKA
              go_wp2_with fail
              refine Calls.mono (HP1.out _ 0 (by omega) hP4.out) ?_
              rintro e w5 ⟨pa', pc', rfl, h5, hf5⟩
              have HF5 := hid (HF4.out.trans hf5)
              have hP5 := hid h5
              have hK5 := hid (hK4.out.fr hf5)
              clear hf5 HF4 hP4 hK4 HP1 h5
              go_wp2_with fail
              refine Calls.mono (HP2.out _ 0 (by omega) hK5.out) ?_
              rintro e w6 ⟨ka', kc', rfl, h6, hf6⟩
              have HF6 := hid (HF5.out.trans hf6)
              have hK6 := hid h6
              have hP6 := hid (hP5.out.fr hf6)
              clear hf6 HF5 hP5 hK5 HP2 h6
              go_wp2
              go_roundw
              case rel => exact ⟨pa', pc', ka', kc', a2, i + 1, _, by omega, ha1, by omega, rfl, rfl, rfl, by go_num, HI2, hid (by rw [HST.out 0 rfl, ← HM1.out]; exact hP6.out), hid (by rw [HST.out 0 rfl, ← HM2.out]; exact hK6.out), HF6⟩
              case measure => simp [intOf]; omega
            | succ k =>
              obtain ⟨gi, rfl⟩ := HKA.out (by omega)
              have hkc := HKC.out gi k rfl (by omega)
              have hpk1 := hpk.out
              have hgt := gt_ltB (ks[k]?.getD []) ys
              simp only [posGo] at hpk1
              generalize ks[k]?.getD [] = kk at *
              have hk0 : (0 : Int) < ((k + 1 : Nat) : Int) := by omega
              have hkw : IntKind.i64.wrap (((k + 1 : Nat) : Int) - 1) = (k : Int) := by rw [show ((k + 1 : Nat) : Int) - 1 = (k : Int) by omega]; exact IntWalk.i64_in _ (by omega)
              have hkw2 : ((k + 1 : Nat) : Int) - 1 = (k : Int) := by omega
              have hkz : (k : Int) < (i : Int) := by omega
              obtain ⟨k1, hk1⟩ : ∃ k1, k + 1 = k1 := ⟨_, rfl⟩
              rw [hk1] at hk0 hkw hki hpk1 hkw2 ⊢
              cases hlb : ltB ys kk with
              | true =>
                rw [hlb] at hgt
                rw [if_pos hlb] at hpk1
                have HPK := hid hpk1
                clear hlb hpk1 hpk
                go_wp2
                go_roundw
                case rel => exact ⟨k, by omega, rfl, HPK, by trivial⟩
                case measure => simp [intOf]; omega
              | false =>
                rw [hlb] at hgt
                rw [if_neg (by rw [hlb]; simp)] at hpk1
                have hpk2 : k1 = pz := hpk1
                subst hpk2
                clear hlb hpk1 hpk HPG HKC HKA
                go_wp2_with fail
                refine Calls.mono (HP1.out _ k1 (by omega) hP4.out) ?_
                rintro e w5 ⟨pa', pc', rfl, h5, hf5⟩
                have HF5 := hid (HF4.out.trans hf5)
                have hP5 := hid h5
                have hK5 := hid (hK4.out.fr hf5)
                clear hf5 HF4 hP4 hK4 HP1 h5
                go_wp2_with fail
                refine Calls.mono (HP2.out _ k1 (by omega) hK5.out) ?_
                rintro e w6 ⟨ka', kc', rfl, h6, hf6⟩
                have HF6 := hid (HF5.out.trans hf6)
                have hK6 := hid h6
                have hP6 := hid (hP5.out.fr hf6)
                clear hf6 HF5 hP5 hK5 HP2 h6
                go_wp2
                go_roundw
                case rel => exact ⟨pa', pc', ka', kc', a2, i + 1, _, by omega, ha1, by omega, rfl, rfl, rfl, by go_num, HI2, hid (by rw [HST.out k1 rfl, ← HM1.out]; exact hP6.out), hid (by rw [HST.out k1 rfl, ← HM2.out]; exact hK6.out), HF6⟩
                case measure => simp [intOf]; omega
      · rw [if_neg hneg] at hhd
        have hgez : decide ((0 : Int) ≤ indent) = true := decide_eq_true (by omega)
        have hgez2 : (0 : Int) ≤ indent := by omega
        rw [← hhd] at hcq2
        clear hneg hhd hHL
        generalize ofL (quoteL ys) = QK at *
        generalize ofL (quoteL ys ++ [58]) = QK1 at *
        have hsYT : ofL (HL ++ T) = ofL (HL ++ T) := rfl
        obtain ⟨TS, hTS⟩ : ∃ TS, ofL (HL ++ T) = TS := ⟨_, rfl⟩
        rw [hTS] at hcatT HP1
        generalize ofL HL = HD at *
        generalize ofL T = TT at *
        generalize HL.length = hll1 at *
        generalize T.length = tll at *
        clear hTS hsYT
        go_wp2_with fail
        refine Calls.mono (HQ.out _) ?_
        rintro e w2 ⟨rfl, hf2⟩
        have HF2 := hid (hF.out.trans hf2)
        have hP2 := hid (hP.out.fr hf2)
        have hK2 := hid (hK.out.fr hf2)
        obtain ⟨y0, y1⟩ := HX.out w2 (hF.out.trans hf2)
        clear hf2 x0 x1 hF hP hK HQ q0 q1 q2 q3
        go_wp2_with fail
        refine Calls.mono (HW.out _ (HWW.out.trans HF2.out)) ?_
        rintro e w3 ⟨rfl, hf3⟩
        have HF3 := hid (HF2.out.trans hf3)
        have hP3 := hid (hP2.out.fr hf3)
        have hK3 := hid (hK2.out.fr hf3)
        obtain ⟨z0, z1⟩ := HX.out w3 (HF2.out.trans hf3)
        clear hf3 y0 y1 HF2 hP2 hK2 HW
        go_wp2_with fail
        refine Calls.mono (HS.out _ (HWW.out.trans HF3.out)) ?_
        rintro e w4 ⟨rfl, hf4⟩
        have HF4 := hid (HF3.out.trans hf4)
        have hP4 := hid (hP3.out.fr hf4)
        have hK4 := hid (hK3.out.fr hf4)
        obtain ⟨x0, x1⟩ := HX.out w4 (HF3.out.trans hf4)
        clear hf4 z0 z1 HF3 hP3 hK3 HS
        cases so with
        | false =>
          go_wp2_with fail
          refine Calls.mono (HP1.out _ i (by omega) hP4.out) ?_
          rintro e w5 ⟨pa', pc', rfl, h5, hf5⟩
          have HF5 := hid (HF4.out.trans hf5)
          have hP5 := hid h5
          have hK5 := hid (hK4.out.fr hf5)
          clear hf5 HF4 hP4 hK4 HP1 h5
          go_wp2_with fail
          refine Calls.mono (HP2.out _ i (by omega) hK5.out) ?_
          rintro e w6 ⟨ka', kc', rfl, h6, hf6⟩
          have HF6 := hid (HF5.out.trans hf6)
          have hK6 := hid h6
          have hP6 := hid (hP5.out.fr hf6)
          clear hf6 HF5 hP5 hK5 HP2 h6
          go_wp2
          go_roundw
          case rel => exact ⟨pa', pc', ka', kc', a2, i + 1, _, by omega, ha1, by omega, rfl, rfl, rfl, by go_num, HI2, hid (by rw [HST.out i rfl, ← HM1.out]; exact hP6.out), hid (by rw [HST.out i rfl, ← HM2.out]; exact hK6.out), HF6⟩
          case measure => simp [intOf]; omega
        | true =>
          obtain ⟨ks, hks⟩ : ∃ ks, cur.map (·.1) = ks := ⟨_, rfl⟩
          have HPG := hid (fun k => posGo_le ks ys k)
          have HKC := hid (fun gi k hg hk => HKR.out w4 gi k hg hk hK4.out)
          rw [hks] at HST HKC
          simp only [if_true] at HST
          have HPS2 := hid (show posGo ks ys i = posGo ks ys i from rfl)
          obtain ⟨pz, hpz⟩ : ∃ pz, posGo ks ys i = pz := ⟨_, rfl⟩
          have HPZ := hid hpz
          rw [hpz] at HST
          have HKA := hid (show 0 < i → ∃ gi, ka = some ⟨gi, 0, none⟩ from fun hi => row_some hK4.out.1 (by rw [List.length_map, HCL.out]; omega))
          clear HKR hpz HPS2 hks
          go_wp2
          go_loopw [19] (fun t wq => ∃ k : Nat, k ≤ i ∧ t = .int .i64 (k : Int) ∧ Hid (posGo ks ys k = pz) ∧ wq = w4) (fun t _ => (intOf t).toNat)
          case atStart => exact ⟨i, by omega, by go_num, HPZ, rfl⟩
          case round =>
            clear HPZ
            obtain ⟨k, hki, rfl, hpk, rfl⟩ := hrel
            cases k with
            | zero =>
              have hpz : 0 = pz := hpk.out
              subst hpz
              clear hpk HPG HKC HKA
              go_wp2_with fail
              refine Calls.mono (HP1.out _ 0 (by omega) hP4.out) ?_
              rintro e w5 ⟨pa', pc', rfl, h5, hf5⟩
              have HF5 := hid (HF4.out.trans hf5)
              have hP5 := hid h5
              have hK5 := hid (hK4.out.fr hf5)
              clear hf5 HF4 hP4 hK4 HP1 h5
              go_wp2_with fail
              refine Calls.mono (HP2.out _ 0 (by omega) hK5.out) ?_
              rintro e w6 ⟨ka', kc', rfl, h6, hf6⟩
              have HF6 := hid (HF5.out.trans hf6)
              have hK6 := hid h6
              have hP6 := hid (hP5.out.fr hf6)
              clear hf6 HF5 hP5 hK5 HP2 h6
              go_wp2
              go_roundw
              case rel => exact ⟨pa', pc', ka', kc', a2, i + 1, _, by omega, ha1, by omega, rfl, rfl, rfl, by go_num, HI2, hid (by rw [HST.out 0 rfl, ← HM1.out]; exact hP6.out), hid (by rw [HST.out 0 rfl, ← HM2.out]; exact hK6.out), HF6⟩
              case measure => simp [intOf]; omega
            | succ k =>
              obtain ⟨gi, rfl⟩ := HKA.out (by omega)
              have hkc := HKC.out gi k rfl (by omega)
              have hpk1 := hpk.out
              have hgt := gt_ltB (ks[k]?.getD []) ys
              simp only [posGo] at hpk1
              generalize ks[k]?.getD [] = kk at *
              have hk0 : (0 : Int) < ((k + 1 : Nat) : Int) := by omega
              have hkw : IntKind.i64.wrap (((k + 1 : Nat) : Int) - 1) = (k : Int) := by rw [show ((k + 1 : Nat) : Int) - 1 = (k : Int) by omega]; exact IntWalk.i64_in _ (by omega)
              have hkw2 : ((k + 1 : Nat) : Int) - 1 = (k : Int) := by omega
              have hkz : (k : Int) < (i : Int) := by omega
              obtain ⟨k1, hk1⟩ : ∃ k1, k + 1 = k1 := ⟨_, rfl⟩
              rw [hk1] at hk0 hkw hki hpk1 hkw2 ⊢
              cases hlb : ltB ys kk with
              | true =>
                rw [hlb] at hgt
                rw [if_pos hlb] at hpk1
                have HPK := hid hpk1
                clear hlb hpk1 hpk
                go_wp2
                go_roundw
                case rel => exact ⟨k, by omega, rfl, HPK, by trivial⟩
                case measure => simp [intOf]; omega
              | false =>
                rw [hlb] at hgt
                rw [if_neg (by rw [hlb]; simp)] at hpk1
                have hpk2 : k1 = pz := hpk1
                subst hpk2
                clear hlb hpk1 hpk HPG HKC HKA
                go_wp2_with fail
                refine Calls.mono (HP1.out _ k1 (by omega) hP4.out) ?_
                rintro e w5 ⟨pa', pc', rfl, h5, hf5⟩
                have HF5 := hid (HF4.out.trans hf5)
                have hP5 := hid h5
                have hK5 := hid (hK4.out.fr hf5)
                clear hf5 HF4 hP4 hK4 HP1 h5
                go_wp2_with fail
                refine Calls.mono (HP2.out _ k1 (by omega) hK5.out) ?_
                rintro e w6 ⟨ka', kc', rfl, h6, hf6⟩
                have HF6 := hid (HF5.out.trans hf6)
                have hK6 := hid h6
                have hP6 := hid (hP5.out.fr hf6)
                clear hf6 HF5 hP5 hK5 HP2 h6
                go_wp2
                go_roundw
                case rel => exact ⟨pa', pc', ka', kc', a2, i + 1, _, by omega, ha1, by omega, rfl, rfl, rfl, by go_num, HI2, hid (by rw [HST.out k1 rfl, ← HM1.out]; exact hP6.out), hid (by rw [HST.out k1 rfl, ← HM2.out]; exact hK6.out), HF6⟩
                case measure => simp [intOf]; omega
    · have hiN2 : i = N := by omega
      subst hiN2
      have hni : ¬ ((i : Int) < (i : Int)) := by omega
      have hcF := hI.out.done
      have HCL := hid hI.out.n
      subst hcF
      obtain ⟨ps, hps⟩ : ∃ ps, cur.map (·.2) = ps := ⟨_, rfl⟩
      have HJL := hid (joinGo_len indent (inn + 1) true cur hi2 (by have := HIN.out; omega))
      have HPM := hid (fun p (hp : p ∈ cur) => tot_mem hp)
      have HPS := hid (show ∀ (j : Nat) p, ps[j]? = some p → p.length ≤ 100000000000 from by
        intro j p hp
        rw [← hps] at hp
        obtain ⟨q, hq, rfl⟩ := List.mem_map.1 (List.mem_of_getElem? hp)
        exact Nat.le_trans (HPM.out q hq) HTF.out)
      have HPL := hid (show ps.length = i from by rw [← hps, List.length_map, HCL.out])
      rw [hps] at hP HJL HU
      clear hps HPM hI hK HIH HSZ
      by_cases hi0 : i = 0
      · subst hi0
        have hjl : joinL indent inn true ps = [123, 125] := by unfold joinL; rw [if_pos HPL.out]; rfl
        rw [hjl] at HU
        have HFX := hid (HWW.out.trans hF.out)
        have hcat : (⟨#[123]⟩ : ByteArray) ++ (⟨#[125]⟩ : ByteArray) = ofL [123, 125] := rfl
        have hx1 : (⟨#[123]⟩ : ByteArray).size = 1 := rfl
        have hx2 : (⟨#[125]⟩ : ByteArray).size = 1 := rfl
        go_wp2
        go_ret
        exact ⟨by rw [← HU.out]; rfl, HFX.out⟩
      · have hi0z : ((i : Int) == 0) = false := beq_eq_false_iff_ne.2 (by omega)
        obtain ⟨J, hJ⟩ : ∃ J, 123 :: joinGo indent (inn + 1) true ps = J := ⟨_, rfl⟩
        have hjl : joinL indent inn true ps = J ++ lineL indent inn ++ [125] := by unfold joinL; rw [if_neg (by have := HPL.out; omega), ← hJ]; simp [openB, endB]
        have hJlen : J.length ≤ 100000000001 := by rw [← hJ, List.length_cons]; have := HJL.out; have := HTF.out; omega
        rw [hjl] at HU
        obtain ⟨gi, rfl⟩ := row_some hP.out.1 (by have := HPL.out; omega)
        have HROW := hid (show ∀ (wx : World) (j : Nat) p, Fr (fun _ => False) wr wx → ps[j]? = some p → wx.cell? ⟨gi, j, none⟩ = some (.string (ofL p)) from by
          intro wx j p hf hp
          have h1 := rowFr hP.out.1 hf (fun _ _ => id)
          rw [HPL.out] at h1
          exact rowCell h1 j _ (by unfold strV; rw [List.getElem?_map, hp]; rfl))
        have HL0 := hid (fun wx => HLN.out inn wx (by omega))
        have HL1 := hid (fun wx => HLN.out (inn + 1) wx (by omega))
        have hln0 := line_len indent inn hi2 (by have := HIN.out; omega)
        have hln1 := line_len indent (inn + 1) hi2 (by have := HIN.out; omega)
        have HJ0 := hid (show [123] ++ joinGo indent (inn + 1) (decide (0 = 0)) (ps.drop 0) = J from hJ)
        have HJG := hid (fun (j : Nat) (p S : List UInt8) (hp : ps[j]? = some p) => joinGo_step indent (inn + 1) ps j p S hp)
        obtain ⟨l0, hl0⟩ : ∃ l0, lineL indent inn = l0 := ⟨_, rfl⟩
        obtain ⟨l1, hl1⟩ : ∃ l1, lineL indent (inn + 1) = l1 := ⟨_, rfl⟩
        rw [hl0] at HL0 hln0 HU
        rw [hl1] at HL1 hln1 HJG
        have HWJ := hid (Fr.refl (fun _ => False) wr)
        clear hl0 hl1 hjl hJ HLN
        generalize inn + 1 = inn1 at *
        go_wp2
        go_loopw [20, 22] (fun s2 t wj => ∃ (j : Nat) (S : List UInt8), j ≤ i ∧ s2 = .string (ofL S) ∧ t = .int .i64 (j : Int) ∧ Hid (S ++ joinGo indent inn1 (decide (j = 0)) (ps.drop j) = J) ∧ Hid (Fr (fun _ => False) wr wj)) (fun _ t _ => i - (intOf t).toNat)
        case atStart => exact ⟨0, [123], by omega, rfl, by go_num, HJ0, HWJ⟩
        case round =>
          clear HJ0 HWJ x0 x1
          rename_i wr0
          obtain ⟨j, S, hji, rfl, rfl, hS, hFj⟩ := hrel
          by_cases hjlt : j < i
          · have hjz : (j : Int) < (i : Int) := by omega
            obtain ⟨p, hp⟩ : ∃ p, ps[j]? = some p := ⟨ps[j]'(by have := HPL.out; omega), List.getElem?_eq_getElem _⟩
            have hcell := HROW.out _ j p hFj.out hp
            have hpl := HPS.out j p hp
            have hst := HJG.out j p S hp
            rw [hS.out] at hst
            have hjl2 := congrArg List.length hst
            have hw5 : IntKind.i64.wrap ((j : Int) + 1) = (j : Int) + 1 := IntWalk.i64_in _ (by omega)
            have z1 : (ofL S).size = S.length := ofL_size S
            have z2 : (ofL l1).size = l1.length := ofL_size l1
            have z3 : (ofL p).size = p.length := ofL_size p
            have HFN := hid (fun n => hFj.out.drewN n)
            by_cases hj0 : j = 0
            · subst hj0
              rw [if_pos rfl, List.append_nil] at hst hjl2
              have hcat1 : ofL S ++ ofL l1 = ofL (S ++ l1) := ofL_append _ _
              have hcat2 : ofL (S ++ l1) ++ ofL p = ofL (S ++ l1 ++ p) := ofL_append _ _
              have z4 : (ofL (S ++ l1)).size = S.length + l1.length := by rw [ofL_size]; simp
              have HST := hid hst.symm
              simp only [List.length_append] at hjl2
              obtain ⟨A2, hA2⟩ : ∃ A2, ofL (S ++ l1 ++ p) = A2 := ⟨_, rfl⟩
              rw [hA2] at hcat2
              have HA2 := hid hA2
              generalize ofL (S ++ l1) = A1 at *
              generalize ofL S = A0 at *
              generalize ofL l1 = L1 at *
              generalize ofL p = PP at *
              clear hst hA2 hp hS hFj
              go_wp2
              go_quiet ((go_at_call 80; exact Calls.quiet_of_same (HL1.out _)))
              go_wp2
              go_roundw
              case rel => exact ⟨1, S ++ l1 ++ p, by omega, by rw [HA2.out], by go_num, HST, hid (HFN.out _)⟩
              case measure => simp [intOf]; omega
            · rw [if_neg hj0] at hst hjl2
              have hj0z : (0 : Int) < (j : Int) := by omega
              have hcat0 : ofL S ++ (⟨#[44]⟩ : ByteArray) = ofL (S ++ [44]) := ofL_append _ [44]
              have hcat1 : ofL (S ++ [44]) ++ ofL l1 = ofL (S ++ [44] ++ l1) := ofL_append _ _
              have hcat2 : ofL (S ++ [44] ++ l1) ++ ofL p = ofL (S ++ [44] ++ l1 ++ p) := ofL_append _ _
              have z4 : (ofL (S ++ [44] ++ l1)).size = S.length + 1 + l1.length := by rw [ofL_size]; simp only [List.length_append, List.length_singleton]
              have z5 : (ofL (S ++ [44])).size = S.length + 1 := by rw [ofL_size]; simp
              have z6 : (⟨#[44]⟩ : ByteArray).size = 1 := rfl
              have HST := hid hst.symm
              simp only [List.length_append, List.length_singleton] at hjl2
              obtain ⟨A2, hA2⟩ : ∃ A2, ofL (S ++ [44] ++ l1 ++ p) = A2 := ⟨_, rfl⟩
              rw [hA2] at hcat2
              have HA2 := hid hA2
              generalize ofL (S ++ [44] ++ l1) = A1 at *
              generalize ofL (S ++ [44]) = A01 at *
              generalize ofL S = A0 at *
              generalize ofL l1 = L1 at *
              generalize ofL p = PP at *
              clear hst hA2 hp hS hFj hj0
              go_wp2
              go_quiet ((go_at_call 80; exact Calls.quiet_of_same (HL1.out _)))
              go_wp2
              go_roundw
              case rel => exact ⟨j + 1, S ++ [44] ++ l1 ++ p, by omega, by rw [HA2.out], by go_num, HST, hid (HFN.out _)⟩
              case measure => simp [intOf]; omega
          · obtain rfl : j = i := by omega
            have hnj : ¬ ((j : Int) < (j : Int)) := by omega
            have hSJ : S = J := by
              have := hS.out
              rw [List.drop_eq_nil_of_le (by have := HPL.out; omega)] at this
              simpa [joinGo] using this
            subst hSJ
            have HFX := hid (HWW.out.trans (hF.out.trans hFj.out))
            have z1 : (ofL S).size = S.length := ofL_size S
            have z2 : (ofL l0).size = l0.length := ofL_size l0
            have z3 : (⟨#[125]⟩ : ByteArray).size = 1 := rfl
            have hcat1 : ofL S ++ ofL l0 = ofL (S ++ l0) := ofL_append _ _
            have hcat2 : ofL (S ++ l0) ++ (⟨#[125]⟩ : ByteArray) = ofL (S ++ l0 ++ [125]) := ofL_append _ [125]
            have z4 : (ofL (S ++ l0)).size = S.length + l0.length := by rw [ofL_size]; simp
            obtain ⟨A2, hA2⟩ : ∃ A2, ofL (S ++ l0 ++ [125]) = A2 := ⟨_, rfl⟩
            rw [hA2] at hcat2
            have HA2 := hid hA2
            generalize ofL (S ++ l0) = A1 at *
            generalize ofL S = A0 at *
            generalize ofL l0 = L0 at *
            clear hA2 hS hFj hi0
            go_wp2_with fail
            refine Calls.mono (HL0.out _) ?_
            rintro e w7 ⟨rfl, rfl⟩
            go_wp2
            go_ret
            exact ⟨by rw [← HU.out, HA2.out]; rfl, HFX.out⟩
end Go.Proofs.YtmkkibaacclhnaaGreatDoor
