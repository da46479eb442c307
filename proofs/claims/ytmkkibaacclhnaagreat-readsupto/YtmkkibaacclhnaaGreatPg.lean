/-
  A step of the walk, the part named Pg. No theorem of the row.
-/
import Derived.Test.YtmkkibaacclhnaaGreatPf
import Derived.Deep.DeepCutAuto
namespace Go.Proofs.YtmkkibaacclhnaaGreat
open Go.RowKit

set_option maxRecDepth 100000 in
set_option maxHeartbeats 4000000 in
theorem sev_a (B o T : Nat) (cs : Array Value) (v : Value) (t : Tr) (c : UInt8) (n : Int) (w : World) (hT : T ≠ 5) (h : TrAt 0 w B o T cs v t) (hln : t.made.length ≤ 40000000) (hn : (c.toNat : Int) = n) (g0 : 194 ≤ n) (g1 : n ≤ 223) :
    Calls Tryz.prog 114 #[.pointer (some ⟨B, o, none⟩), .int .u8 n] w fun e w' => e = .returned (.tuple #[]) ∧ TrPost 0 B o T cs v w w' ⟨1, t.made ++ [c], 1, 128, 191, t.dg, t.code, t.high⟩ := by
  have H := hid h
  have HT := hid hT
  have HN := hid hn
  obtain ⟨hh, hI, ho⟩ := h
  obtain ⟨a, cap, rfl⟩ := row_shape ho
  have k0 := blk_cell hh hI.c0
  have k1 := blk_cell hh hI.c1
  have k2 := blk_cell hh hI.c2
  have k3 := blk_cell hh hI.c3
  have k4 := blk_cell hh hI.c4
  have f0 := blk_free (j := o) hh
  have f1 := blk_free (j := o + 1) hh
  have f2 := blk_free (j := o + 2) hh
  have f3 := blk_free (j := o + 3) hh
  have f4 := blk_free (j := o + 4) hh
  have HR0 := hid ((((TrR.start H.out).s2 HT.out 1).s3 HT.out 128).s4 HT.out 191)
  clear hh hI ho hn hT
  obtain ⟨i0, hi, hz0, hz1, hz2⟩ := info_parts Tryz.info5
  go_enter Tryz.func114, Tryz.ntmps114
  go_upto_region 17 with fail
  obtain ⟨cs1, W1, hW1, HR1⟩ : ∃ cs1 W1, ((w.setCell ⟨B, o + 2, none⟩ (.int .i64 1)).setCell ⟨B, o + 3, none⟩ (.int .u8 128)).setCell ⟨B, o + 4, none⟩ (.int .u8 191) = W1 ∧ Hid (TrR 0 B o T cs (.slice a t.made.length cap) w cs1 (.slice a t.made.length cap) W1 ⟨t.st, t.made, 1, 128, 191, t.dg, t.code, t.high⟩) := ⟨_, _, rfl, HR0⟩
  rw [hW1]
  clear hW1 HR0 k0 k1 k2 k3 k4 f0 f1 f2 f3 f4
  have hh := HR1.out.is.1
  have ho := HR1.out.is.2.2
  have k1 := blk_cell hh HR1.out.is.2.1.c1
  have f1 := blk_free (j := o + 1) hh
  clear hh
  simp only at ho
  go_wp2_with (at_builtin; refine wpList_append_d _ rfl _ _ 66 rfl 5 i0 (.int .u8 0) 1 1 Tryz.underlying66 hi hz0 hz1 hz2 rfl (by decide) _ _ _ rfl (ho.alloc _) ⟨W1.heap.size, 0, none⟩ 1 1 [.int .u8 n] rfl rfl ?c1 ?c2 ?c3 ?c4 ?_)
  case c1 => exact cell_one_new _ _ _
  case c2 => intro u hu; simp at hu; subst hu; rfl
  case c3 => unfold maxLen; omega
  case c4 => omega
  intro v' w1 hown' hgrow hnew
  obtain ⟨g', cap', rfl⟩ := row_succ hown'
  obtain ⟨hh1, hR⟩ := HR1.out.grow HT.out hown' hgrow hnew (show us [c] = [.int .u8 n] by rw [us_one, HN.out]) rfl
  have q0 := blk_cell hh1 HR1.out.is.2.1.c0
  have q1 := blk_cell hh1 HR1.out.is.2.1.c1
  have p0 := blk_free (j := o) hh1
  have p1 := blk_free (j := o + 1) hh1
  have HR := hid hR
  clear hown' hgrow hnew hh1 hR ho k1 f1
  go_wp2
  go_end0
  have := HR.out.s0 HT.out 1
  exact ⟨rfl, _, _, this⟩
set_option maxRecDepth 100000 in
set_option maxHeartbeats 4000000 in
theorem sev_b (B o T : Nat) (cs : Array Value) (v : Value) (t : Tr) (c : UInt8) (n : Int) (w : World) (hT : T ≠ 5) (h : TrAt 0 w B o T cs v t) (hln : t.made.length ≤ 40000000) (hn : (c.toNat : Int) = n) (g0 : n = 224) :
    Calls Tryz.prog 114 #[.pointer (some ⟨B, o, none⟩), .int .u8 n] w fun e w' => e = .returned (.tuple #[]) ∧ TrPost 0 B o T cs v w w' ⟨1, t.made ++ [c], 2, 160, 191, t.dg, t.code, t.high⟩ := by
  have H := hid h
  have HT := hid hT
  have HN := hid hn
  obtain ⟨hh, hI, ho⟩ := h
  obtain ⟨a, cap, rfl⟩ := row_shape ho
  have k0 := blk_cell hh hI.c0
  have k1 := blk_cell hh hI.c1
  have k2 := blk_cell hh hI.c2
  have k3 := blk_cell hh hI.c3
  have k4 := blk_cell hh hI.c4
  have f0 := blk_free (j := o) hh
  have f1 := blk_free (j := o + 1) hh
  have f2 := blk_free (j := o + 2) hh
  have f3 := blk_free (j := o + 3) hh
  have f4 := blk_free (j := o + 4) hh
  have HR0 := hid (((((TrR.start H.out).s2 HT.out 2).s3 HT.out 128).s4 HT.out 191).s3 HT.out 160)
  clear hh hI ho hn hT
  obtain ⟨i0, hi, hz0, hz1, hz2⟩ := info_parts Tryz.info5
  subst g0
  go_enter Tryz.func114, Tryz.ntmps114
  go_upto_region 17 with fail
  obtain ⟨cs1, W1, hW1, HR1⟩ : ∃ cs1 W1, (((w.setCell ⟨B, o + 2, none⟩ (.int .i64 2)).setCell ⟨B, o + 3, none⟩ (.int .u8 128)).setCell ⟨B, o + 4, none⟩ (.int .u8 191)).setCell ⟨B, o + 3, none⟩ (.int .u8 160) = W1 ∧ Hid (TrR 0 B o T cs (.slice a t.made.length cap) w cs1 (.slice a t.made.length cap) W1 ⟨t.st, t.made, 2, 160, 191, t.dg, t.code, t.high⟩) := ⟨_, _, rfl, HR0⟩
  rw [hW1]
  clear hW1 HR0 k0 k1 k2 k3 k4 f0 f1 f2 f3 f4
  have hh := HR1.out.is.1
  have ho := HR1.out.is.2.2
  have k1 := blk_cell hh HR1.out.is.2.1.c1
  have f1 := blk_free (j := o + 1) hh
  clear hh
  simp only at ho
  go_wp2_with (at_builtin; refine wpList_append_d _ rfl _ _ 66 rfl 5 i0 (.int .u8 0) 1 1 Tryz.underlying66 hi hz0 hz1 hz2 rfl (by decide) _ _ _ rfl (ho.alloc _) ⟨W1.heap.size, 0, none⟩ 1 1 [.int .u8 224] rfl rfl ?c1 ?c2 ?c3 ?c4 ?_)
  case c1 => exact cell_one_new _ _ _
  case c2 => intro u hu; simp at hu; subst hu; rfl
  case c3 => unfold maxLen; omega
  case c4 => omega
  intro v' w1 hown' hgrow hnew
  obtain ⟨g', cap', rfl⟩ := row_succ hown'
  obtain ⟨hh1, hR⟩ := HR1.out.grow HT.out hown' hgrow hnew (show us [c] = [.int .u8 224] by rw [us_one, HN.out]) rfl
  have q0 := blk_cell hh1 HR1.out.is.2.1.c0
  have q1 := blk_cell hh1 HR1.out.is.2.1.c1
  have p0 := blk_free (j := o) hh1
  have p1 := blk_free (j := o + 1) hh1
  have HR := hid hR
  clear hown' hgrow hnew hh1 hR ho k1 f1
  go_wp2
  go_end0
  have := HR.out.s0 HT.out 1
  exact ⟨rfl, _, _, this⟩
set_option maxRecDepth 100000 in
set_option maxHeartbeats 4000000 in
theorem sev_c (B o T : Nat) (cs : Array Value) (v : Value) (t : Tr) (c : UInt8) (n : Int) (w : World) (hT : T ≠ 5) (h : TrAt 0 w B o T cs v t) (hln : t.made.length ≤ 40000000) (hn : (c.toNat : Int) = n) (g0 : 225 ≤ n) (g1 : n ≤ 236) :
    Calls Tryz.prog 114 #[.pointer (some ⟨B, o, none⟩), .int .u8 n] w fun e w' => e = .returned (.tuple #[]) ∧ TrPost 0 B o T cs v w w' ⟨1, t.made ++ [c], 2, 128, 191, t.dg, t.code, t.high⟩ := by
  have H := hid h
  have HT := hid hT
  have HN := hid hn
  obtain ⟨hh, hI, ho⟩ := h
  obtain ⟨a, cap, rfl⟩ := row_shape ho
  have k0 := blk_cell hh hI.c0
  have k1 := blk_cell hh hI.c1
  have k2 := blk_cell hh hI.c2
  have k3 := blk_cell hh hI.c3
  have k4 := blk_cell hh hI.c4
  have f0 := blk_free (j := o) hh
  have f1 := blk_free (j := o + 1) hh
  have f2 := blk_free (j := o + 2) hh
  have f3 := blk_free (j := o + 3) hh
  have f4 := blk_free (j := o + 4) hh
  have HR0 := hid ((((TrR.start H.out).s2 HT.out 2).s3 HT.out 128).s4 HT.out 191)
  clear hh hI ho hn hT
  obtain ⟨i0, hi, hz0, hz1, hz2⟩ := info_parts Tryz.info5
  go_enter Tryz.func114, Tryz.ntmps114
  go_upto_region 17 with fail
  obtain ⟨cs1, W1, hW1, HR1⟩ : ∃ cs1 W1, ((w.setCell ⟨B, o + 2, none⟩ (.int .i64 2)).setCell ⟨B, o + 3, none⟩ (.int .u8 128)).setCell ⟨B, o + 4, none⟩ (.int .u8 191) = W1 ∧ Hid (TrR 0 B o T cs (.slice a t.made.length cap) w cs1 (.slice a t.made.length cap) W1 ⟨t.st, t.made, 2, 128, 191, t.dg, t.code, t.high⟩) := ⟨_, _, rfl, HR0⟩
  rw [hW1]
  clear hW1 HR0 k0 k1 k2 k3 k4 f0 f1 f2 f3 f4
  have hh := HR1.out.is.1
  have ho := HR1.out.is.2.2
  have k1 := blk_cell hh HR1.out.is.2.1.c1
  have f1 := blk_free (j := o + 1) hh
  clear hh
  simp only at ho
  go_wp2_with (at_builtin; refine wpList_append_d _ rfl _ _ 66 rfl 5 i0 (.int .u8 0) 1 1 Tryz.underlying66 hi hz0 hz1 hz2 rfl (by decide) _ _ _ rfl (ho.alloc _) ⟨W1.heap.size, 0, none⟩ 1 1 [.int .u8 n] rfl rfl ?c1 ?c2 ?c3 ?c4 ?_)
  case c1 => exact cell_one_new _ _ _
  case c2 => intro u hu; simp at hu; subst hu; rfl
  case c3 => unfold maxLen; omega
  case c4 => omega
  intro v' w1 hown' hgrow hnew
  obtain ⟨g', cap', rfl⟩ := row_succ hown'
  obtain ⟨hh1, hR⟩ := HR1.out.grow HT.out hown' hgrow hnew (show us [c] = [.int .u8 n] by rw [us_one, HN.out]) rfl
  have q0 := blk_cell hh1 HR1.out.is.2.1.c0
  have q1 := blk_cell hh1 HR1.out.is.2.1.c1
  have p0 := blk_free (j := o) hh1
  have p1 := blk_free (j := o + 1) hh1
  have HR := hid hR
  clear hown' hgrow hnew hh1 hR ho k1 f1
  go_wp2
  go_end0
  have := HR.out.s0 HT.out 1
  exact ⟨rfl, _, _, this⟩
set_option maxRecDepth 100000 in
set_option maxHeartbeats 4000000 in
theorem sev_d (B o T : Nat) (cs : Array Value) (v : Value) (t : Tr) (c : UInt8) (n : Int) (w : World) (hT : T ≠ 5) (h : TrAt 0 w B o T cs v t) (hln : t.made.length ≤ 40000000) (hn : (c.toNat : Int) = n) (g0 : n = 237) :
    Calls Tryz.prog 114 #[.pointer (some ⟨B, o, none⟩), .int .u8 n] w fun e w' => e = .returned (.tuple #[]) ∧ TrPost 0 B o T cs v w w' ⟨1, t.made ++ [c], 2, 128, 159, t.dg, t.code, t.high⟩ := by
  have H := hid h
  have HT := hid hT
  have HN := hid hn
  obtain ⟨hh, hI, ho⟩ := h
  obtain ⟨a, cap, rfl⟩ := row_shape ho
  have k0 := blk_cell hh hI.c0
  have k1 := blk_cell hh hI.c1
  have k2 := blk_cell hh hI.c2
  have k3 := blk_cell hh hI.c3
  have k4 := blk_cell hh hI.c4
  have f0 := blk_free (j := o) hh
  have f1 := blk_free (j := o + 1) hh
  have f2 := blk_free (j := o + 2) hh
  have f3 := blk_free (j := o + 3) hh
  have f4 := blk_free (j := o + 4) hh
  have HR0 := hid (((((TrR.start H.out).s2 HT.out 2).s3 HT.out 128).s4 HT.out 191).s4 HT.out 159)
  clear hh hI ho hn hT
  obtain ⟨i0, hi, hz0, hz1, hz2⟩ := info_parts Tryz.info5
  subst g0
  go_enter Tryz.func114, Tryz.ntmps114
  go_upto_region 17 with fail
  obtain ⟨cs1, W1, hW1, HR1⟩ : ∃ cs1 W1, (((w.setCell ⟨B, o + 2, none⟩ (.int .i64 2)).setCell ⟨B, o + 3, none⟩ (.int .u8 128)).setCell ⟨B, o + 4, none⟩ (.int .u8 191)).setCell ⟨B, o + 4, none⟩ (.int .u8 159) = W1 ∧ Hid (TrR 0 B o T cs (.slice a t.made.length cap) w cs1 (.slice a t.made.length cap) W1 ⟨t.st, t.made, 2, 128, 159, t.dg, t.code, t.high⟩) := ⟨_, _, rfl, HR0⟩
  rw [hW1]
  clear hW1 HR0 k0 k1 k2 k3 k4 f0 f1 f2 f3 f4
  have hh := HR1.out.is.1
  have ho := HR1.out.is.2.2
  have k1 := blk_cell hh HR1.out.is.2.1.c1
  have f1 := blk_free (j := o + 1) hh
  clear hh
  simp only at ho
  go_wp2_with (at_builtin; refine wpList_append_d _ rfl _ _ 66 rfl 5 i0 (.int .u8 0) 1 1 Tryz.underlying66 hi hz0 hz1 hz2 rfl (by decide) _ _ _ rfl (ho.alloc _) ⟨W1.heap.size, 0, none⟩ 1 1 [.int .u8 237] rfl rfl ?c1 ?c2 ?c3 ?c4 ?_)
  case c1 => exact cell_one_new _ _ _
  case c2 => intro u hu; simp at hu; subst hu; rfl
  case c3 => unfold maxLen; omega
  case c4 => omega
  intro v' w1 hown' hgrow hnew
  obtain ⟨g', cap', rfl⟩ := row_succ hown'
  obtain ⟨hh1, hR⟩ := HR1.out.grow HT.out hown' hgrow hnew (show us [c] = [.int .u8 237] by rw [us_one, HN.out]) rfl
  have q0 := blk_cell hh1 HR1.out.is.2.1.c0
  have q1 := blk_cell hh1 HR1.out.is.2.1.c1
  have p0 := blk_free (j := o) hh1
  have p1 := blk_free (j := o + 1) hh1
  have HR := hid hR
  clear hown' hgrow hnew hh1 hR ho k1 f1
  go_wp2
  go_end0
  have := HR.out.s0 HT.out 1
  exact ⟨rfl, _, _, this⟩
set_option maxRecDepth 100000 in
set_option maxHeartbeats 4000000 in
theorem sev_e (B o T : Nat) (cs : Array Value) (v : Value) (t : Tr) (c : UInt8) (n : Int) (w : World) (hT : T ≠ 5) (h : TrAt 0 w B o T cs v t) (hln : t.made.length ≤ 40000000) (hn : (c.toNat : Int) = n) (g0 : 238 ≤ n) (g1 : n ≤ 239) :
    Calls Tryz.prog 114 #[.pointer (some ⟨B, o, none⟩), .int .u8 n] w fun e w' => e = .returned (.tuple #[]) ∧ TrPost 0 B o T cs v w w' ⟨1, t.made ++ [c], 2, 128, 191, t.dg, t.code, t.high⟩ := by
  have H := hid h
  have HT := hid hT
  have HN := hid hn
  obtain ⟨hh, hI, ho⟩ := h
  obtain ⟨a, cap, rfl⟩ := row_shape ho
  have k0 := blk_cell hh hI.c0
  have k1 := blk_cell hh hI.c1
  have k2 := blk_cell hh hI.c2
  have k3 := blk_cell hh hI.c3
  have k4 := blk_cell hh hI.c4
  have f0 := blk_free (j := o) hh
  have f1 := blk_free (j := o + 1) hh
  have f2 := blk_free (j := o + 2) hh
  have f3 := blk_free (j := o + 3) hh
  have f4 := blk_free (j := o + 4) hh
  have HR0 := hid ((((TrR.start H.out).s2 HT.out 2).s3 HT.out 128).s4 HT.out 191)
  clear hh hI ho hn hT
  obtain ⟨i0, hi, hz0, hz1, hz2⟩ := info_parts Tryz.info5
  go_enter Tryz.func114, Tryz.ntmps114
  go_upto_region 17 with fail
  obtain ⟨cs1, W1, hW1, HR1⟩ : ∃ cs1 W1, ((w.setCell ⟨B, o + 2, none⟩ (.int .i64 2)).setCell ⟨B, o + 3, none⟩ (.int .u8 128)).setCell ⟨B, o + 4, none⟩ (.int .u8 191) = W1 ∧ Hid (TrR 0 B o T cs (.slice a t.made.length cap) w cs1 (.slice a t.made.length cap) W1 ⟨t.st, t.made, 2, 128, 191, t.dg, t.code, t.high⟩) := ⟨_, _, rfl, HR0⟩
  rw [hW1]
  clear hW1 HR0 k0 k1 k2 k3 k4 f0 f1 f2 f3 f4
  have hh := HR1.out.is.1
  have ho := HR1.out.is.2.2
  have k1 := blk_cell hh HR1.out.is.2.1.c1
  have f1 := blk_free (j := o + 1) hh
  clear hh
  simp only at ho
  go_wp2_with (at_builtin; refine wpList_append_d _ rfl _ _ 66 rfl 5 i0 (.int .u8 0) 1 1 Tryz.underlying66 hi hz0 hz1 hz2 rfl (by decide) _ _ _ rfl (ho.alloc _) ⟨W1.heap.size, 0, none⟩ 1 1 [.int .u8 n] rfl rfl ?c1 ?c2 ?c3 ?c4 ?_)
  case c1 => exact cell_one_new _ _ _
  case c2 => intro u hu; simp at hu; subst hu; rfl
  case c3 => unfold maxLen; omega
  case c4 => omega
  intro v' w1 hown' hgrow hnew
  obtain ⟨g', cap', rfl⟩ := row_succ hown'
  obtain ⟨hh1, hR⟩ := HR1.out.grow HT.out hown' hgrow hnew (show us [c] = [.int .u8 n] by rw [us_one, HN.out]) rfl
  have q0 := blk_cell hh1 HR1.out.is.2.1.c0
  have q1 := blk_cell hh1 HR1.out.is.2.1.c1
  have p0 := blk_free (j := o) hh1
  have p1 := blk_free (j := o + 1) hh1
  have HR := hid hR
  clear hown' hgrow hnew hh1 hR ho k1 f1
  go_wp2
  go_end0
  have := HR.out.s0 HT.out 1
  exact ⟨rfl, _, _, this⟩
set_option maxRecDepth 100000 in
set_option maxHeartbeats 4000000 in
theorem sev_f (B o T : Nat) (cs : Array Value) (v : Value) (t : Tr) (c : UInt8) (n : Int) (w : World) (hT : T ≠ 5) (h : TrAt 0 w B o T cs v t) (hln : t.made.length ≤ 40000000) (hn : (c.toNat : Int) = n) (g0 : n = 240) :
    Calls Tryz.prog 114 #[.pointer (some ⟨B, o, none⟩), .int .u8 n] w fun e w' => e = .returned (.tuple #[]) ∧ TrPost 0 B o T cs v w w' ⟨1, t.made ++ [c], 3, 144, 191, t.dg, t.code, t.high⟩ := by
  have H := hid h
  have HT := hid hT
  have HN := hid hn
  obtain ⟨hh, hI, ho⟩ := h
  obtain ⟨a, cap, rfl⟩ := row_shape ho
  have k0 := blk_cell hh hI.c0
  have k1 := blk_cell hh hI.c1
  have k2 := blk_cell hh hI.c2
  have k3 := blk_cell hh hI.c3
  have k4 := blk_cell hh hI.c4
  have f0 := blk_free (j := o) hh
  have f1 := blk_free (j := o + 1) hh
  have f2 := blk_free (j := o + 2) hh
  have f3 := blk_free (j := o + 3) hh
  have f4 := blk_free (j := o + 4) hh
  have HR0 := hid (((((TrR.start H.out).s2 HT.out 3).s3 HT.out 128).s4 HT.out 191).s3 HT.out 144)
  clear hh hI ho hn hT
  obtain ⟨i0, hi, hz0, hz1, hz2⟩ := info_parts Tryz.info5
  subst g0
  go_enter Tryz.func114, Tryz.ntmps114
  go_upto_region 17 with fail
  obtain ⟨cs1, W1, hW1, HR1⟩ : ∃ cs1 W1, (((w.setCell ⟨B, o + 2, none⟩ (.int .i64 3)).setCell ⟨B, o + 3, none⟩ (.int .u8 128)).setCell ⟨B, o + 4, none⟩ (.int .u8 191)).setCell ⟨B, o + 3, none⟩ (.int .u8 144) = W1 ∧ Hid (TrR 0 B o T cs (.slice a t.made.length cap) w cs1 (.slice a t.made.length cap) W1 ⟨t.st, t.made, 3, 144, 191, t.dg, t.code, t.high⟩) := ⟨_, _, rfl, HR0⟩
  rw [hW1]
  clear hW1 HR0 k0 k1 k2 k3 k4 f0 f1 f2 f3 f4
  have hh := HR1.out.is.1
  have ho := HR1.out.is.2.2
  have k1 := blk_cell hh HR1.out.is.2.1.c1
  have f1 := blk_free (j := o + 1) hh
  clear hh
  simp only at ho
  go_wp2_with (at_builtin; refine wpList_append_d _ rfl _ _ 66 rfl 5 i0 (.int .u8 0) 1 1 Tryz.underlying66 hi hz0 hz1 hz2 rfl (by decide) _ _ _ rfl (ho.alloc _) ⟨W1.heap.size, 0, none⟩ 1 1 [.int .u8 240] rfl rfl ?c1 ?c2 ?c3 ?c4 ?_)
  case c1 => exact cell_one_new _ _ _
  case c2 => intro u hu; simp at hu; subst hu; rfl
  case c3 => unfold maxLen; omega
  case c4 => omega
  intro v' w1 hown' hgrow hnew
  obtain ⟨g', cap', rfl⟩ := row_succ hown'
  obtain ⟨hh1, hR⟩ := HR1.out.grow HT.out hown' hgrow hnew (show us [c] = [.int .u8 240] by rw [us_one, HN.out]) rfl
  have q0 := blk_cell hh1 HR1.out.is.2.1.c0
  have q1 := blk_cell hh1 HR1.out.is.2.1.c1
  have p0 := blk_free (j := o) hh1
  have p1 := blk_free (j := o + 1) hh1
  have HR := hid hR
  clear hown' hgrow hnew hh1 hR ho k1 f1
  go_wp2
  go_end0
  have := HR.out.s0 HT.out 1
  exact ⟨rfl, _, _, this⟩
set_option maxRecDepth 100000 in
set_option maxHeartbeats 4000000 in
theorem sev_g (B o T : Nat) (cs : Array Value) (v : Value) (t : Tr) (c : UInt8) (n : Int) (w : World) (hT : T ≠ 5) (h : TrAt 0 w B o T cs v t) (hln : t.made.length ≤ 40000000) (hn : (c.toNat : Int) = n) (g0 : 241 ≤ n) (g1 : n ≤ 243) :
    Calls Tryz.prog 114 #[.pointer (some ⟨B, o, none⟩), .int .u8 n] w fun e w' => e = .returned (.tuple #[]) ∧ TrPost 0 B o T cs v w w' ⟨1, t.made ++ [c], 3, 128, 191, t.dg, t.code, t.high⟩ := by
  have H := hid h
  have HT := hid hT
  have HN := hid hn
  obtain ⟨hh, hI, ho⟩ := h
  obtain ⟨a, cap, rfl⟩ := row_shape ho
  have k0 := blk_cell hh hI.c0
  have k1 := blk_cell hh hI.c1
  have k2 := blk_cell hh hI.c2
  have k3 := blk_cell hh hI.c3
  have k4 := blk_cell hh hI.c4
  have f0 := blk_free (j := o) hh
  have f1 := blk_free (j := o + 1) hh
  have f2 := blk_free (j := o + 2) hh
  have f3 := blk_free (j := o + 3) hh
  have f4 := blk_free (j := o + 4) hh
  have HR0 := hid ((((TrR.start H.out).s2 HT.out 3).s3 HT.out 128).s4 HT.out 191)
  clear hh hI ho hn hT
  obtain ⟨i0, hi, hz0, hz1, hz2⟩ := info_parts Tryz.info5
  go_enter Tryz.func114, Tryz.ntmps114
  go_upto_region 17 with fail
  obtain ⟨cs1, W1, hW1, HR1⟩ : ∃ cs1 W1, ((w.setCell ⟨B, o + 2, none⟩ (.int .i64 3)).setCell ⟨B, o + 3, none⟩ (.int .u8 128)).setCell ⟨B, o + 4, none⟩ (.int .u8 191) = W1 ∧ Hid (TrR 0 B o T cs (.slice a t.made.length cap) w cs1 (.slice a t.made.length cap) W1 ⟨t.st, t.made, 3, 128, 191, t.dg, t.code, t.high⟩) := ⟨_, _, rfl, HR0⟩
  rw [hW1]
  clear hW1 HR0 k0 k1 k2 k3 k4 f0 f1 f2 f3 f4
  have hh := HR1.out.is.1
  have ho := HR1.out.is.2.2
  have k1 := blk_cell hh HR1.out.is.2.1.c1
  have f1 := blk_free (j := o + 1) hh
  clear hh
  simp only at ho
  go_wp2_with (at_builtin; refine wpList_append_d _ rfl _ _ 66 rfl 5 i0 (.int .u8 0) 1 1 Tryz.underlying66 hi hz0 hz1 hz2 rfl (by decide) _ _ _ rfl (ho.alloc _) ⟨W1.heap.size, 0, none⟩ 1 1 [.int .u8 n] rfl rfl ?c1 ?c2 ?c3 ?c4 ?_)
  case c1 => exact cell_one_new _ _ _
  case c2 => intro u hu; simp at hu; subst hu; rfl
  case c3 => unfold maxLen; omega
  case c4 => omega
  intro v' w1 hown' hgrow hnew
  obtain ⟨g', cap', rfl⟩ := row_succ hown'
  obtain ⟨hh1, hR⟩ := HR1.out.grow HT.out hown' hgrow hnew (show us [c] = [.int .u8 n] by rw [us_one, HN.out]) rfl
  have q0 := blk_cell hh1 HR1.out.is.2.1.c0
  have q1 := blk_cell hh1 HR1.out.is.2.1.c1
  have p0 := blk_free (j := o) hh1
  have p1 := blk_free (j := o + 1) hh1
  have HR := hid hR
  clear hown' hgrow hnew hh1 hR ho k1 f1
  go_wp2
  go_end0
  have := HR.out.s0 HT.out 1
  exact ⟨rfl, _, _, this⟩
set_option maxRecDepth 100000 in
set_option maxHeartbeats 4000000 in
theorem sev_h (B o T : Nat) (cs : Array Value) (v : Value) (t : Tr) (c : UInt8) (n : Int) (w : World) (hT : T ≠ 5) (h : TrAt 0 w B o T cs v t) (hln : t.made.length ≤ 40000000) (hn : (c.toNat : Int) = n) (g0 : n = 244) :
    Calls Tryz.prog 114 #[.pointer (some ⟨B, o, none⟩), .int .u8 n] w fun e w' => e = .returned (.tuple #[]) ∧ TrPost 0 B o T cs v w w' ⟨1, t.made ++ [c], 3, 128, 143, t.dg, t.code, t.high⟩ := by
  have H := hid h
  have HT := hid hT
  have HN := hid hn
  obtain ⟨hh, hI, ho⟩ := h
  obtain ⟨a, cap, rfl⟩ := row_shape ho
  have k0 := blk_cell hh hI.c0
  have k1 := blk_cell hh hI.c1
  have k2 := blk_cell hh hI.c2
  have k3 := blk_cell hh hI.c3
  have k4 := blk_cell hh hI.c4
  have f0 := blk_free (j := o) hh
  have f1 := blk_free (j := o + 1) hh
  have f2 := blk_free (j := o + 2) hh
  have f3 := blk_free (j := o + 3) hh
  have f4 := blk_free (j := o + 4) hh
  have HR0 := hid (((((TrR.start H.out).s2 HT.out 3).s3 HT.out 128).s4 HT.out 191).s4 HT.out 143)
  clear hh hI ho hn hT
  obtain ⟨i0, hi, hz0, hz1, hz2⟩ := info_parts Tryz.info5
  subst g0
  go_enter Tryz.func114, Tryz.ntmps114
  go_upto_region 17 with fail
  obtain ⟨cs1, W1, hW1, HR1⟩ : ∃ cs1 W1, (((w.setCell ⟨B, o + 2, none⟩ (.int .i64 3)).setCell ⟨B, o + 3, none⟩ (.int .u8 128)).setCell ⟨B, o + 4, none⟩ (.int .u8 191)).setCell ⟨B, o + 4, none⟩ (.int .u8 143) = W1 ∧ Hid (TrR 0 B o T cs (.slice a t.made.length cap) w cs1 (.slice a t.made.length cap) W1 ⟨t.st, t.made, 3, 128, 143, t.dg, t.code, t.high⟩) := ⟨_, _, rfl, HR0⟩
  rw [hW1]
  clear hW1 HR0 k0 k1 k2 k3 k4 f0 f1 f2 f3 f4
  have hh := HR1.out.is.1
  have ho := HR1.out.is.2.2
  have k1 := blk_cell hh HR1.out.is.2.1.c1
  have f1 := blk_free (j := o + 1) hh
  clear hh
  simp only at ho
  go_wp2_with (at_builtin; refine wpList_append_d _ rfl _ _ 66 rfl 5 i0 (.int .u8 0) 1 1 Tryz.underlying66 hi hz0 hz1 hz2 rfl (by decide) _ _ _ rfl (ho.alloc _) ⟨W1.heap.size, 0, none⟩ 1 1 [.int .u8 244] rfl rfl ?c1 ?c2 ?c3 ?c4 ?_)
  case c1 => exact cell_one_new _ _ _
  case c2 => intro u hu; simp at hu; subst hu; rfl
  case c3 => unfold maxLen; omega
  case c4 => omega
  intro v' w1 hown' hgrow hnew
  obtain ⟨g', cap', rfl⟩ := row_succ hown'
  obtain ⟨hh1, hR⟩ := HR1.out.grow HT.out hown' hgrow hnew (show us [c] = [.int .u8 244] by rw [us_one, HN.out]) rfl
  have q0 := blk_cell hh1 HR1.out.is.2.1.c0
  have q1 := blk_cell hh1 HR1.out.is.2.1.c1
  have p0 := blk_free (j := o) hh1
  have p1 := blk_free (j := o + 1) hh1
  have HR := hid hR
  clear hown' hgrow hnew hh1 hR ho k1 f1
  go_wp2
  go_end0
  have := HR.out.s0 HT.out 1
  exact ⟨rfl, _, _, this⟩
set_option maxRecDepth 100000 in
set_option maxHeartbeats 4000000 in
theorem sev_no (B o : Nat) (n : Int) (w : World) (h : n < 194 ∨ 244 < n) : Calls Tryz.prog 114 #[.pointer (some ⟨B, o, none⟩), .int .u8 n] w fun e w' => e = gave 2 ∧ w' = w := by
  rcases h with h | h
  all_goals
    go_enter Tryz.func114, Tryz.ntmps114
    go_wp2
    exact ⟨rfl, rfl, rfl⟩
theorem trSev_any (B o T : Nat) (cs : Array Value) (v : Value) (t : Tr) (k : Nat) (c : UInt8) (w : World) (hT : T ≠ 5) (h : TrAt 0 w B o T cs v t) (hok : TrOk t k) (hk : k ≤ 10000000) :
    Calls Tryz.prog 114 #[.pointer (some ⟨B, o, none⟩), .int .u8 (c.toNat : Int)] w fun e w' => match trSev t c with
      | .ok t' => e = .returned (.tuple #[]) ∧ TrPost 0 B o T cs v w w' t'
      | .error n => e = gave n ∧ w' = w := by
  have hln : t.made.length ≤ 40000000 := by have := hok.len; omega
  unfold trSev
  by_cases hin : 194 ≤ c.toNat ∧ c.toNat ≤ 244
  · rw [if_pos hin]
    simp only
    obtain ⟨h1, h2⟩ := hin
    by_cases a1 : c.toNat ≤ 223
    · rw [if_pos a1, if_neg (by omega), if_neg (by omega), if_neg (by omega), if_neg (by omega)]
      exact sev_a B o T cs v t c _ w hT h hln rfl (by omega) (by omega)
    rw [if_neg a1]
    by_cases a2 : c.toNat = 224
    · rw [if_pos (by omega), if_pos a2, if_neg (by omega), if_neg (by omega)]
      exact sev_b B o T cs v t c _ w hT h hln rfl (by omega)
    rw [if_neg a2]
    by_cases a3 : c.toNat ≤ 236
    · rw [if_pos (by omega), if_neg (by omega), if_neg (by omega), if_neg (by omega)]
      exact sev_c B o T cs v t c _ w hT h hln rfl (by omega) (by omega)
    by_cases a4 : c.toNat = 237
    · rw [if_pos (by omega), if_neg (by omega), if_pos a4]
      exact sev_d B o T cs v t c _ w hT h hln rfl (by omega)
    rw [if_neg a4]
    by_cases a5 : c.toNat ≤ 239
    · rw [if_pos a5, if_neg (by omega), if_neg (by omega)]
      exact sev_e B o T cs v t c _ w hT h hln rfl (by omega) (by omega)
    rw [if_neg a5]
    by_cases a6 : c.toNat = 240
    · rw [if_pos a6, if_neg (by omega)]
      exact sev_f B o T cs v t c _ w hT h hln rfl (by omega)
    rw [if_neg a6]
    by_cases a7 : c.toNat = 244
    · rw [if_pos a7]
      exact sev_h B o T cs v t c _ w hT h hln rfl (by omega)
    · rw [if_neg a7]
      exact sev_g B o T cs v t c _ w hT h hln rfl (by omega) (by omega)
  · rw [if_neg hin]
    exact sev_no B o _ w (by omega)
end Go.Proofs.YtmkkibaacclhnaaGreat
