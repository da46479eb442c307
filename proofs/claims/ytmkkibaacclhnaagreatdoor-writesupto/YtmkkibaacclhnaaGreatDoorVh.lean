/-
  A step of the walk, the part named Vh. No theorem of the row.
-/
import Derived.Test.YtmkkibaacclhnaaGreatDoorCb
import Derived.Test.YtmkkibaacclhnaaGreatDoorBuv
import Derived.Test.YtmkkibaacclhnaaGreatDoorXcd
import Derived.Test.YtmkkibaacclhnaaGreatDoorWl
namespace Go.Proofs.YtmkkibaacclhnaaGreatDoor
open Go.RowKit

theorem p10_342 : p2 1074 ≤ p10 342 := by decide +kernel
theorem V_pos {m : Nat} (h : m ≠ 0) : 1 ≤ V m := by
  have := V_lt (show 0 < m by omega)
  omega
theorem ten_lo (m : Nat) (h : m ≠ 0) : TenLe m (-342) := by
  unfold TenLe
  rw [show ((-342 : Int)).toNat = 0 from rfl, show (-(-342 : Int)).toNat = 342 from rfl, show p10 0 = 1 from rfl, Nat.one_mul]
  refine Nat.le_trans p10_342 (Nat.le_mul_of_pos_right _ (V_pos h))
theorem V_top (m : Nat) (hm : m < 9218868437227405312) : V m < p2 2100 := by
  rw [manE_V]
  obtain ⟨h1, h2⟩ := man_less m hm
  have e : p2 2100 = p2 53 * p2 2047 := by rw [← p2_add]
  rw [e, p2_53]
  exact Nat.lt_of_lt_of_le (Nat.mul_lt_mul_of_pos_right h1 (p2_pos _)) (Nat.mul_le_mul_left _ (p2_le (by omega)))
theorem p10_682 : p2 2100 ≤ p10 682 * p2 1074 := by
  have a : p2 2046 ≤ p10 682 := p2_p10 682
  have b : p2 2100 = p2 2046 * p2 54 := by rw [← p2_add]
  rw [b]
  exact Nat.mul_le_mul a (p2_le (by omega))
theorem ten_hi (m : Nat) (hm : m < 9218868437227405312) : ¬ TenLe m 682 := by
  unfold TenLe
  rw [show ((682 : Int)).toNat = 682 from rfl, show (-(682 : Int)).toNat = 0 from rfl, show p10 0 = 1 from rfl, Nat.one_mul]
  have := V_top m hm
  have := p10_682
  omega
end Go.Proofs.YtmkkibaacclhnaaGreatDoor

namespace Go.Proofs.YtmkkibaacclhnaaGreatDoor
open Go.RowKit

theorem valid_any (l : List UInt8) (w : World) (hl : l.length ≤ 100000000) (hT : Tabs w) :
    Calls Tryz.prog 123 #[.string (ofL l)] w fun e w' => e = .returned (.bool (isU l)) ∧ Fr (fun _ => False) w w' := by
  refine (valid_lib (ofL l) w (by rw [ofL_size]; omega) hT).mono ?_
  rintro e w' ⟨rfl, hb⟩
  refine ⟨?_, .ofBelow hb⟩
  rw [← valid_isU]
  rfl
theorem Tabs.fr {w w' : World} {S : Nat → Prop} (h : Tabs w) (hF : Fr S w w') (h0 : ¬ S 0) (h1 : ¬ S 1) : Tabs w' := by
  have b0 : 0 < w.heap.size := lt_of_cell (h.1 0 (by omega))
  have b1 : 1 < w.heap.size := lt_of_cell (h.2 0 (by omega)).1
  refine ⟨fun c hc => ?_, fun i hi => ⟨?_, ?_⟩⟩
  · exact (hF.cell (p := ⟨0, c, none⟩) b0 h0).trans (h.1 c hc)
  · exact (hF.cell (p := ⟨1, 2 * i, none⟩) b1 h1).trans (h.2 i hi).1
  · exact (hF.cell (p := ⟨1, 2 * i + 1, none⟩) b1 h1).trans (h.2 i hi).2
theorem two_fr (w : World) (o1 o2 : Obj) : Fr (fun _ => False) w ((w.alloc o1).alloc o2) := ((Fr.refl _ w).alloc _).alloc _
theorem two_keep (w : World) (v0 v1 v2 v3 v4 v5 v6 v7 : Value) (w' : World) (h : Fr (fun _ => False) ((w.alloc (.cells #[v0, v1, v2, v3] 29)).alloc (.cells #[v4, v5, v6, v7] 29)) w') :
    w'.cell? ⟨w.heap.size, 0, none⟩ = some v0 ∧ w'.cell? ⟨w.heap.size, 1, none⟩ = some v1 ∧ w'.cell? ⟨w.heap.size, 2, none⟩ = some v2 ∧ w'.cell? ⟨w.heap.size, 3, none⟩ = some v3 ∧ w'.cell? ⟨w.heap.size + 1, 0, none⟩ = some v4 ∧ w'.cell? ⟨w.heap.size + 1, 1, none⟩ = some v5 ∧ w'.cell? ⟨w.heap.size + 1, 2, none⟩ = some v6 ∧ w'.cell? ⟨w.heap.size + 1, 3, none⟩ = some v7 := by
  have h0 := heap_alloc_new w (.cells #[v0, v1, v2, v3] 29)
  have h0' := ((Fr.refl (fun _ => False) (w.alloc (.cells #[v0, v1, v2, v3] 29))).alloc (.cells #[v4, v5, v6, v7] 29)).heap h0 id
  have h1 := heap_alloc_new (w.alloc (.cells #[v0, v1, v2, v3] 29)) (.cells #[v4, v5, v6, v7] 29)
  rw [show (w.alloc (.cells #[v0, v1, v2, v3] 29)).heap.size = w.heap.size + 1 from by simp] at h1
  have k0 := h.heap h0' id
  have k1 := h.heap h1 id
  exact ⟨blk_cell k0 rfl, blk_cell k0 rfl, blk_cell k0 rfl, blk_cell k0 rfl, blk_cell k1 rfl, blk_cell k1 rfl, blk_cell k1 rfl, blk_cell k1 rfl⟩
theorem two_fr_set (w : World) (o1 o2 : Obj) (j : Nat) (v : Value) : Fr (fun _ => False) w (((w.alloc o1).alloc o2).setCell ⟨w.heap.size + 1, j, none⟩ v) :=
  (two_fr w o1 o2).setCell (p := ⟨w.heap.size + 1, j, none⟩) (.inr (Nat.le_succ _)) v
set_option maxRecDepth 100000 in
set_option maxHeartbeats 8000000 in
theorem item_0 (n : Int) (b : Nat) (s : List UInt8) (w : World) : Calls Tryz.prog 69 #[.agg #[.int .i64 0, .int .i64 n, .int .u64 (b : Int), .string (ofL s)]] w fun x w' => x = .returned (.bool (goodI ⟨0, n, b, s⟩)) ∧ Fr (fun _ => False) w w' := by
  obtain ⟨U, hU⟩ : ∃ U, goodI ⟨0, n, b, s⟩ = U := ⟨_, rfl⟩
  rw [hU]
  go_enter Tryz.func69, Tryz.ntmps69
  go_wp2
  all_goals
    go_ret
    refine ⟨?_, ?_⟩
    · rw [← hU]
      clear hU
      unfold goodI
      cases s <;> simp_all [ofL_toList] <;> omega
    · first | exact two_fr _ _ _ | exact two_fr_set _ _ _ _ _
set_option maxRecDepth 100000 in
set_option maxHeartbeats 8000000 in
theorem item_1 (n : Int) (b : Nat) (s : List UInt8) (w : World) : Calls Tryz.prog 69 #[.agg #[.int .i64 1, .int .i64 n, .int .u64 (b : Int), .string (ofL s)]] w fun x w' => x = .returned (.bool (goodI ⟨1, n, b, s⟩)) ∧ Fr (fun _ => False) w w' := by
  obtain ⟨U, hU⟩ : ∃ U, goodI ⟨1, n, b, s⟩ = U := ⟨_, rfl⟩
  rw [hU]
  go_enter Tryz.func69, Tryz.ntmps69
  go_wp2
  all_goals
    go_ret
    refine ⟨?_, ?_⟩
    · rw [← hU]
      clear hU
      unfold goodI
      cases s <;> simp_all [ofL_toList] <;> omega
    · first | exact two_fr _ _ _ | exact two_fr_set _ _ _ _ _
set_option maxRecDepth 100000 in
set_option maxHeartbeats 8000000 in
theorem item_2 (n : Int) (b : Nat) (s : List UInt8) (w : World) : Calls Tryz.prog 69 #[.agg #[.int .i64 2, .int .i64 n, .int .u64 (b : Int), .string (ofL s)]] w fun x w' => x = .returned (.bool (goodI ⟨2, n, b, s⟩)) ∧ Fr (fun _ => False) w w' := by
  obtain ⟨U, hU⟩ : ∃ U, goodI ⟨2, n, b, s⟩ = U := ⟨_, rfl⟩
  rw [hU]
  go_enter Tryz.func69, Tryz.ntmps69
  go_wp2
  all_goals
    go_ret
    refine ⟨?_, ?_⟩
    · rw [← hU]
      clear hU
      unfold goodI
      cases s <;> simp_all [ofL_toList] <;> omega
    · first | exact two_fr _ _ _ | exact two_fr_set _ _ _ _ _
set_option maxRecDepth 100000 in
set_option maxHeartbeats 8000000 in
theorem item_5 (n : Int) (b : Nat) (s : List UInt8) (w : World) : Calls Tryz.prog 69 #[.agg #[.int .i64 5, .int .i64 n, .int .u64 (b : Int), .string (ofL s)]] w fun x w' => x = .returned (.bool (goodI ⟨5, n, b, s⟩)) ∧ Fr (fun _ => False) w w' := by
  obtain ⟨U, hU⟩ : ∃ U, goodI ⟨5, n, b, s⟩ = U := ⟨_, rfl⟩
  rw [hU]
  go_enter Tryz.func69, Tryz.ntmps69
  go_wp2
  all_goals
    go_ret
    refine ⟨?_, ?_⟩
    · rw [← hU]
      clear hU
      unfold goodI
      cases s <;> simp_all [ofL_toList] <;> omega
    · first | exact two_fr _ _ _ | exact two_fr_set _ _ _ _ _
set_option maxRecDepth 100000 in
set_option maxHeartbeats 8000000 in
theorem item_6 (n : Int) (b : Nat) (s : List UInt8) (w : World) : Calls Tryz.prog 69 #[.agg #[.int .i64 6, .int .i64 n, .int .u64 (b : Int), .string (ofL s)]] w fun x w' => x = .returned (.bool (goodI ⟨6, n, b, s⟩)) ∧ Fr (fun _ => False) w w' := by
  obtain ⟨U, hU⟩ : ∃ U, goodI ⟨6, n, b, s⟩ = U := ⟨_, rfl⟩
  rw [hU]
  go_enter Tryz.func69, Tryz.ntmps69
  go_wp2
  all_goals
    go_ret
    refine ⟨?_, ?_⟩
    · rw [← hU]
      clear hU
      unfold goodI
      cases s <;> simp_all [ofL_toList] <;> omega
    · first | exact two_fr _ _ _ | exact two_fr_set _ _ _ _ _
set_option maxRecDepth 100000 in
set_option maxHeartbeats 8000000 in
theorem item_no (k n : Int) (b : Nat) (s : List UInt8) (w : World) (hk : k < 0 ∨ 6 < k) : Calls Tryz.prog 69 #[.agg #[.int .i64 k, .int .i64 n, .int .u64 (b : Int), .string (ofL s)]] w fun x w' => x = .returned (.bool (goodI ⟨k, n, b, s⟩)) ∧ Fr (fun _ => False) w w' := by
  obtain ⟨U, hU⟩ : ∃ U, goodI ⟨k, n, b, s⟩ = U := ⟨_, rfl⟩
  rw [hU]
  have hU2 := hid (show U = false by rw [← hU]; unfold goodI; simp only; rw [if_neg (by omega), if_neg (by omega), if_neg (by omega), if_neg (by omega)])
  have k0 : (k == 0) = false := beq_eq_false_iff_ne.2 (by omega)
  have k1 : (k == 1) = false := beq_eq_false_iff_ne.2 (by omega)
  have k2 : (k == 2) = false := beq_eq_false_iff_ne.2 (by omega)
  have k3 : (k == 3) = false := beq_eq_false_iff_ne.2 (by omega)
  have k4 : (k == 4) = false := beq_eq_false_iff_ne.2 (by omega)
  have k5 : (k == 5) = false := beq_eq_false_iff_ne.2 (by omega)
  have k6 : (k == 6) = false := beq_eq_false_iff_ne.2 (by omega)
  clear hU hk
  go_enter Tryz.func69, Tryz.ntmps69
  go_wp2
  go_ret
  refine ⟨?_, ?_⟩
  · rw [hU2.out]; rfl
  · first | exact two_fr _ _ _ | exact two_fr_set _ _ _ _ _
set_option maxRecDepth 100000 in
set_option maxHeartbeats 8000000 in
theorem item_num_yes (n : Int) (b : Nat) (s : List UInt8) (w : World) (hb : b < 18446744073709551616) (hf : b % 9223372036854775808 < 9218868437227405312) : Calls Tryz.prog 69 #[.agg #[.int .i64 3, .int .i64 n, .int .u64 (b : Int), .string (ofL s)]] w fun x w' => x = .returned (.bool (goodI ⟨3, n, b, s⟩)) ∧ Fr (fun _ => False) w w' := by
  obtain ⟨U, hU⟩ : ∃ U, goodI ⟨3, n, b, s⟩ = U := ⟨_, rfl⟩
  rw [hU]
  have hU2 := hid (show U = (true && (decide (n = 0) && s.isEmpty)) by rw [← hU]; unfold goodI; simp [hf])
  have HN := hid (fun w => is_yes b (b % 9223372036854775808) w (u64_andNot_sign b hb) (decide_eq_true (by omega)))
  clear hU hf hb
  go_enter Tryz.func69, Tryz.ntmps69
  go_wp2_with (first | (go_at_call 38; refine Calls.mono (HN.out _) ?_; rintro e w2 ⟨rfl, rfl⟩) | fail)
  all_goals
    go_ret
    refine ⟨?_, ?_⟩
    · rw [hU2.out]
      clear hU2
      cases s <;> simp_all [ofL_toList] <;> omega
    · first | exact two_fr _ _ _ | exact two_fr_set _ _ _ _ _
set_option maxRecDepth 100000 in
set_option maxHeartbeats 8000000 in
theorem item_num_no (n : Int) (b : Nat) (s : List UInt8) (w : World) (hb : b < 18446744073709551616) (hf : ¬ b % 9223372036854775808 < 9218868437227405312) : Calls Tryz.prog 69 #[.agg #[.int .i64 3, .int .i64 n, .int .u64 (b : Int), .string (ofL s)]] w fun x w' => x = .returned (.bool (goodI ⟨3, n, b, s⟩)) ∧ Fr (fun _ => False) w w' := by
  obtain ⟨U, hU⟩ : ∃ U, goodI ⟨3, n, b, s⟩ = U := ⟨_, rfl⟩
  rw [hU]
  have hU2 := hid (show U = (false && (decide (n = 0) && s.isEmpty)) by rw [← hU]; unfold goodI; simp [hf])
  have HN := hid (fun w => is_no b (b % 9223372036854775808) w (u64_andNot_sign b hb) (decide_eq_false (by omega)))
  clear hU hf hb
  go_enter Tryz.func69, Tryz.ntmps69
  go_wp2_with (first | (go_at_call 38; refine Calls.mono (HN.out _) ?_; rintro e w2 ⟨rfl, rfl⟩) | fail)
  all_goals
    go_ret
    refine ⟨?_, ?_⟩
    · rw [hU2.out]
      clear hU2
      cases s <;> simp_all <;> omega
    · first | exact two_fr _ _ _ | exact two_fr_set _ _ _ _ _
set_option maxRecDepth 100000 in
set_option maxHeartbeats 8000000 in
theorem item_text (n : Int) (b : Nat) (s : List UInt8) (w : World) (hl : s.length ≤ 100000000) (hT : Tabs w) : Calls Tryz.prog 69 #[.agg #[.int .i64 4, .int .i64 n, .int .u64 (b : Int), .string (ofL s)]] w fun x w' => x = .returned (.bool (goodI ⟨4, n, b, s⟩)) ∧ Fr (fun _ => False) w w' := by
  obtain ⟨U, hU⟩ : ∃ U, goodI ⟨4, n, b, s⟩ = U := ⟨_, rfl⟩
  rw [hU]
  obtain ⟨I, hI⟩ : ∃ I, isU s = I := ⟨_, rfl⟩
  have hU2 := hid (show U = (decide (n = 0) && decide (b = 0) && I) by rw [← hU, ← hI]; unfold goodI; simp)
  have HV := hid (fun w' (hF : Fr (fun _ => False) w w') => valid_any s w' hl (hT.fr hF id id))
  rw [hI] at HV
  have HF := hid (fun o1 o2 j v => two_fr_set w o1 o2 j v)
  have HF0 := hid (fun o1 o2 => two_fr w o1 o2)
  clear hU hl hT hI
  go_enter Tryz.func69, Tryz.ntmps69
  go_wp2_with fail
  refine Calls.mono (HV.out _ (HF0.out _ _)) ?_
  rintro e w2 ⟨rfl, hf⟩
  have HF2 := hid ((HF0.out _ _).trans hf)
  obtain ⟨a0, a1, a2, a3, b0, b1, b2, b3⟩ := two_keep w _ _ _ _ _ _ _ _ w2 hf
  clear hf
  cases I
  · go_wp2
    go_ret
    refine ⟨?_, HF2.out⟩
    rw [hU2.out]
    simp
  · go_wp2
    all_goals
      go_ret
      refine ⟨?_, HF2.out⟩
      rw [hU2.out]
      clear hU2
      simp_all
theorem isItem_any (x : Im) (w : World) (hl : x.s.length ≤ 100000000) (hb : x.b < 18446744073709551616) (hT : Tabs w) :
    Calls Tryz.prog 69 #[.agg #[.int .i64 x.k, .int .i64 x.n, .int .u64 (x.b : Int), .string (ofL x.s)]] w fun e w' => e = .returned (.bool (goodI x)) ∧ Fr (fun _ => False) w w' := by
  obtain ⟨k, n, b, s⟩ := x
  simp only at hl hb ⊢
  by_cases h0 : k = 0
  · subst h0; exact item_0 n b s w
  by_cases h1 : k = 1
  · subst h1; exact item_1 n b s w
  by_cases h2 : k = 2
  · subst h2; exact item_2 n b s w
  by_cases h3 : k = 3
  · subst h3
    by_cases hf : b % 9223372036854775808 < 9218868437227405312
    · exact item_num_yes n b s w hb hf
    · exact item_num_no n b s w hb hf
  by_cases h4 : k = 4
  · subst h4; exact item_text n b s w hl hT
  by_cases h5 : k = 5
  · subst h5; exact item_5 n b s w
  by_cases h6 : k = 6
  · subst h6; exact item_6 n b s w
  exact item_no k n b s w (by omega)
end Go.Proofs.YtmkkibaacclhnaaGreatDoor
