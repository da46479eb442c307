/-
  A step of the walk of the numbers, the part named Bk: fractions of the document's answer. No theorem of the row.
-/
import Derived.Test.YtmkkibaacclhnaaBj
namespace Go.Proofs.Ytmkkibaacclhnaa
open Go.RowKit

set_option maxRecDepth 100000 in
set_option maxHeartbeats 4000000 in
theorem parts_any (n E f : Nat) (w : World) (hn : n = E * 4503599627370496 + f) (hf : f < 4503599627370496) (hE : E ≤ 2047) :
    Calls Try.prog 53 #[.int .u64 (n : Int)] w fun e w' => e = .returned (.tuple #[.int .u64 ((if E = 0 then f else f + 4503599627370496 : Nat) : Int), .int .i64 (if E = 0 then -1074 else (E : Int) - 1075)]) ∧ w' = w := by
  have h1 : (n : Int) / 4503599627370496 = (E : Int) := by omega
  have h2 : (n : Int) % 4503599627370496 = (f : Int) := by omega
  by_cases h0 : E = 0
  · have hE0 : (E : Int) = 0 := by omega
    rw [if_pos h0, if_pos h0]
    clear hn h0
    generalize (n : Int) = N at *
    go_enter Try.func53, Try.ntmps53
    go_wp2
    go_ret2
    refine ⟨?_, rfl⟩
    rw [← h2]
    rfl
  · have hE0 : ((E : Int) == 0) = false := beq_eq_false_iff_ne.2 (by omega)
    rw [if_neg h0, if_neg h0]
    clear hn h0
    generalize (n : Int) = N at *
    go_enter Try.func53, Try.ntmps53
    go_wp2
    go_ret2
    refine ⟨?_, rfl⟩
    rw [Int.natCast_add, ← h2]
    rfl

theorem parts_man (n : Nat) (w : World) (hn : n < 9223372036854775808) :
    Calls Try.prog 53 #[.int .u64 (n : Int)] w fun e w' => e = .returned (.tuple #[.int .u64 ((manE n).1 : Int), .int .i64 ((manE n).2 - 1074 : Int)]) ∧ w' = w := by
  refine (parts_any n (n / 4503599627370496) (n % 4503599627370496) w (by omega) (by omega) (by omega)).mono ?_
  rintro e w' ⟨rfl, rfl⟩
  refine ⟨?_, rfl⟩
  unfold manE
  by_cases h : n / 4503599627370496 = 0
  · rw [if_pos h, if_pos h, if_pos h]
    simp only
    rw [show n % 4503599627370496 = n by omega]
    rfl
  · rw [if_neg h, if_neg h, if_neg h]
    simp only
    rw [Nat.add_comm (n % 4503599627370496), show ((n / 4503599627370496 : Nat) : Int) - 1075 = ((n / 4503599627370496 - 1 : Nat) : Int) - 1074 by omega]

theorem lt_of_cell {w : World} {a : Addr} {v : Value} (h : w.cell? a = some v) : a.block < w.heap.size := by
  unfold World.cell? at h
  split at h
  · rename_i hh; exact lt_of_block hh
  · cases h

/-- a fraction in memory -/
def FracAt (w : World) (v : Value) (A B L : Nat) : Prop := ∃ va vb xs ys, v = .agg #[va, vb] ∧ BigAt w va xs ∧ BigAt w vb ys ∧ val xs = A ∧ val ys = B ∧ xs.length ≤ L ∧ ys.length ≤ L
theorem FracAt.fr {w w' : World} {v : Value} {A B L : Nat} (h : FracAt w v A B L) (hF : Fr (fun _ => False) w w') : FracAt w' v A B L := by
  obtain ⟨va, vb, xs, ys, h1, h2, h3, h4⟩ := h
  exact ⟨va, vb, xs, ys, h1, h2.fr hF, h3.fr hF, h4⟩

theorem btwos_int (v : Value) (ws : List Nat) (e : Int) (n : Nat) (w w0 : World) (he : e = (n : Int)) (hw : w0.heap = w.heap) (hl : ws.length ≤ 100000000) (hn : n ≤ 100000) (hB : BigAt w0 v ws) :
    Calls Try.prog 78 #[v, .int .i64 e] w (BigPost w (val ws * 2 ^ n) (ws.length + n / 32 + 1)) := by
  subst he
  exact btwos_any v ws n w hl hn ⟨by have := hB.1; unfold World.ownsRow at this ⊢; rw [← hw]; exact this, hB.2⟩

set_option maxRecDepth 100000 in
set_option maxHeartbeats 4000000 in
theorem fagainst_any (v : Value) (A B L n : Nat) (e : Int) (w : World) (hL : L ≤ 10000000) (hn : n < 18446744073709551616) (h1 : -5000 ≤ e) (h2 : e ≤ 5000) (hf : FracAt w v A B L) :
    Calls Try.prog 54 #[v, .int .u64 (n : Int), .int .i64 e] w fun r w' => r = .returned (.int .i64 (bcmp (A * 2 ^ (-e).toNat) (B * n * 2 ^ e.toNat))) ∧ Fr (fun _ => False) w w' := by
  obtain ⟨va, vb, xs, ys, rfl, ha, hb, hA, hB, hl1, hl2⟩ := hf
  have HN := hid hn
  obtain ⟨aa, ca, hva⟩ := big_shape ha
  obtain ⟨ab, cb, hvb⟩ := big_shape hb
  have HA := hid ha
  have HB := hid hb
  clear ha hb hn
  subst hva hvb
  by_cases he : 0 ≤ e
  · have hr := hid (show bcmp (A * 2 ^ (-e).toNat) (B * n * 2 ^ e.toNat) = bcmp (val xs) (val ys * n * 2 ^ e.toNat) from by rw [show (-e).toNat = 0 by omega, Nat.pow_zero, Nat.mul_one, hA, hB])
    have he2 := hid (show e = ((e.toNat : Nat) : Int) by omega)
    have hk : e.toNat ≤ 5000 := by omega
    clear hA hB
    go_enter Try.func54, Try.ntmps54
    go_wp2_with fail
    refine (bby_any _ ys n _ (by omega) HN.out (HB.out.fr ((Fr.refl _ _).alloc _))).mono ?_
    rintro r w1 ⟨v1, ws1, rfl, b1, b2, b3, b4⟩
    have hc0 := (b4.cell (p := ⟨w.heap.size, 0, none⟩) (by simp) id).trans (cell_alloc_at _ _ _ _)
    simp only [List.getElem?_toArray, List.getElem?_cons_zero] at hc0
    have B1 := hid b1
    have B2 := hid b2
    have HF1 := hid (((Fr.refl (fun _ => False) w).alloc (.cells #[.slice aa xs.length ca, .slice ab ys.length cb] 91)).trans b4)
    clear b1 b2 b4
    have hwB : w.heap.size < w1.heap.size := by have := HF1.out.size; have := lt_of_cell hc0; exact this
    go_wp2_with fail
    have hcall := hid (show Calls Try.prog 78 #[v1, .int .i64 e] w1.drew (BigPost w1.drew (val ws1 * 2 ^ e.toNat) (ws1.length + e.toNat / 32 + 1)) from btwos_int _ ws1 e e.toNat _ w1 he2.out rfl (by omega) (by omega) B1.out)
    have HLEN := hid (show ws1.length + e.toNat / 32 + 1 ≤ 1000000000 by omega)
    have HAG := hid (fun (v2 : Value) (ws2 : List Nat) (w2 : World) (h1 : ws2.length ≤ 1000000000) (h2 : BigAt w2 v2 ws2) (h3 : Fr (fun _ => False) w w2) => bagainst_any (.slice aa xs.length ca) v2 xs ws2 w2 (by omega) h1 (HA.out.fr h3) h2)
    have HWB := hid hwB
    have HC0 := hid hc0
    go_region_with (first
      | (go_at_call 78; refine Calls.mono hcall.out ?_; rintro r w2 ⟨v2, ws2, rfl, c1, c2, c3, c4⟩; have C1 := hid c1; have C2 := hid c2; have HF2 := hid (HF1.out.drew.trans c4); have hl3 := hid (Nat.le_trans c3 HLEN.out); have hc2 := (c4.cell (p := ⟨w.heap.size, 0, none⟩) HWB.out id).trans HC0.out; clear c1 c2 c4)
      | (go_at_call 77; refine Calls.mono (HAG.out _ _ _ hl3.out C1.out HF2.out) ?_; rintro r w3 ⟨rfl, rfl⟩))
    all_goals
      go_wp2
      go_ret
      refine ⟨?_, HF2.out⟩
      rw [hr.out, ← B2.out, ← C2.out]
      rfl
  · have hr := hid (show bcmp (A * 2 ^ (-e).toNat) (B * n * 2 ^ e.toNat) = bcmp (val xs * 2 ^ (-e).toNat) (val ys * n) from by rw [show e.toNat = 0 by omega, Nat.pow_zero, Nat.mul_one, hA, hB])
    have he2 := hid (show -e = (((-e).toNat : Nat) : Int) by omega)
    have hk : (-e).toNat ≤ 5000 := by omega
    clear hA hB
    go_enter Try.func54, Try.ntmps54
    go_wp2_with fail
    refine (bby_any _ ys n _ (by omega) HN.out (HB.out.fr ((Fr.refl _ _).alloc _))).mono ?_
    rintro r w1 ⟨v1, ws1, rfl, b1, b2, b3, b4⟩
    have hc0 := (b4.cell (p := ⟨w.heap.size, 0, none⟩) (by simp) id).trans (cell_alloc_at _ _ _ _)
    simp only [List.getElem?_toArray, List.getElem?_cons_zero] at hc0
    have B1 := hid b1
    have B2 := hid b2
    have HF1 := hid (((Fr.refl (fun _ => False) w).alloc (.cells #[.slice aa xs.length ca, .slice ab ys.length cb] 91)).trans b4)
    clear b1 b2 b4
    go_wp2_with fail
    rw [he2.out]
    refine (btwos_any _ xs (-e).toNat _ (by omega) (by omega) (HA.out.fr HF1.out)).mono ?_
    rintro r w2 ⟨v2, ws2, rfl, c1, c2, c3, c4⟩
    have hl3 : ws2.length ≤ 1000000000 := by omega
    have C1 := hid c1
    have C2 := hid c2
    have B1' := hid (B1.out.fr c4)
    have HF2 := hid (HF1.out.trans c4)
    clear c1 c2 c4
    go_wp2_with fail
    refine (bagainst_any _ _ ws2 ws1 _ hl3 (by omega) C1.out B1'.out).mono ?_
    rintro r w3 ⟨rfl, rfl⟩
    go_wp2
    go_ret
    refine ⟨?_, HF2.out⟩
    rw [hr.out, ← B2.out, ← C2.out]
    rfl

theorem BigAt.set3 {w : World} {v : Value} {ws : List Nat} {bF bR i : Nat} {x0 x1 y0 y1 a b c : Value} (h : BigAt w v ws) (hF : w.heap[bF]? = some (.cells #[x0, x1] 91 (0, 0))) (hR : w.heap[bR]? = some (.cells #[y0, y1] 91 (0, 0))) :
    BigAt (((w.setCell ⟨bF, i, none⟩ a).setCell ⟨bR, 0, none⟩ b).setCell ⟨bR, 1, none⟩ c) v ws := by
  obtain ⟨⟨h1, h2⟩, h3⟩ := h
  refine ⟨⟨h1, ?_⟩, h3⟩
  rcases h2 with h2 | ⟨g, cap, cur, hv, hg, hh, hr⟩
  · exact .inl h2
  · have n1 : g ≠ bF := by rintro rfl; rw [hh] at hF; simp at hF
    have n2 : g ≠ bR := by rintro rfl; rw [hh] at hR; simp at hR
    exact .inr ⟨g, cap, cur, hv, hg, ((Below.heap_setCell _ _ _ _ (by simpa using n2)).trans ((Below.heap_setCell _ _ _ _ (by simpa using n2)).trans (Below.heap_setCell _ _ _ _ (by simpa using n1)))).trans hh, hr⟩

theorem btens_int (v : Value) (ws : List Nat) (e : Int) (n : Nat) (w : World) (he : e = (n : Int)) (hl : ws.length + n ≤ 100000000) (hB : BigAt w v ws) :
    Calls Try.prog 75 #[v, .int .i64 e] w (BigPost w (val ws * p10 n) (ws.length + n)) := by
  subst he
  exact btens_any v ws n w hl hB

set_option maxRecDepth 100000 in
set_option maxHeartbeats 4000000 in
theorem of_lim (mi : Bool) (l : List UInt8) (X : Int) (L : Nat) (w : World) (hl : l.length ≤ 4000000) (hD : AllD l) (h1 : -4000000 ≤ X) (h2 : X ≤ 4000000) (hL : (l.length : Int) + X + 1 ≤ L ∧ (l.length : Int) + 1 ≤ L ∧ 1 - X ≤ L) :
    Calls Try.prog 52 #[.agg #[.bool mi, .string (ofL l), .int .i64 X]] w fun e w' => ∃ v, e = .returned v ∧ FracAt w' v (num (dv l) * p10 X.toNat) (p10 (-X).toNat) L ∧ Fr (fun _ => False) w w' := by
  have HL := hid hL
  clear hL
  by_cases hX : 0 < X
  · have hx := hid (show X = ((X.toNat : Nat) : Int) by omega)
    go_enter Try.func52, Try.ntmps52
    go_wp2_with fail
    refine (bwhole_any l _ (by omega) hD).mono ?_
    rintro r w1 ⟨v1, ws1, rfl, b1, b2, b3, b4⟩
    obtain ⟨a1, ca1, rfl⟩ := big_shape b1
    have hT1 : w1.heap[w.heap.size]? = some (.cells #[.bool mi, .string (ofL l), .int .i64 X] 60 (0, 0)) := (b4.block w.heap.size (by simp; omega) id).trans ((Below.heap_alloc _ _ _ (by simp)).trans (heap_alloc_new w _))
    have hcX : w1.cell? ⟨w.heap.size, 2, none⟩ = some (.int .i64 X) := by simp [World.cell?, hT1]
    have hcX2 : ∀ o1 o2, ((w1.alloc o1).alloc o2).cell? ⟨w.heap.size, 2, none⟩ = some (.int .i64 X) := by
      intro o1 o2
      have hl := lt_of_block hT1
      rw [World.cell?_of_block (w := w1.alloc o1) (Below.heap_alloc _ _ _ (by simp; omega)), World.cell?_of_block (w := w1) (Below.heap_alloc _ _ _ hl)]
      exact hcX
    clear hT1
    have hR1 : w1.heap[w.heap.size + 1]? = some (.cells #[.slice none 0 0, .slice none 0 0] 91 (0, 0)) := (b4.block (w.heap.size + 1) (by simp) id).trans (by have := heap_alloc_new (w.alloc (.cells #[.bool mi, .string (ofL l), .int .i64 X] 60)) (.cells #[.slice none 0 0, .slice none 0 0] 91); rwa [World.size_alloc] at this)
    have hws : w.heap.size + 2 ≤ w1.heap.size := by have := b4.size; simp at this; omega
    have HR1 := hid hR1
    have B1 := hid b1
    have B2 := hid b2
    have B4 := hid b4
    clear b1 b2 b4 hR1
    go_wp2_with fail
    have hZ1 : BigAt ((w1.alloc (.cells #[.int .u64 1] 23)).alloc (.cells #[.slice a1 ws1.length ca1, .slice (some ⟨w1.heap.size, 0, none⟩) 1 1] 91)) (.slice (some ⟨w1.heap.size, 0, none⟩) 1 1) [1] :=
      BigAt.fr ⟨ownsRow_base (row_one w1 (.int .u64 1) 23), Limbs.one (by omega)⟩ ((Fr.refl _ _).alloc _)
    have hA1 := B1.out.fr (((Fr.refl (fun _ => False) w1).alloc (.cells #[.int .u64 1] 23)).alloc (.cells #[.slice a1 ws1.length ca1, .slice (some ⟨w1.heap.size, 0, none⟩) 1 1] 91))
    have B1' := hid hA1
    refine (btens_int _ ws1 X X.toNat _ hx.out (by omega) B1'.out).mono ?_
    rintro r w2 ⟨v2, ws2, rfl, c1, c2, c3, c4⟩
    obtain ⟨a2, ca2, rfl⟩ := big_shape c1
    have hbF : w2.heap[w1.heap.size + 1]? = some (.cells #[.slice a1 ws1.length ca1, .slice (some ⟨w1.heap.size, 0, none⟩) 1 1] 91 (0, 0)) := (c4.block (w1.heap.size + 1) (by simp) id).trans (by have := heap_alloc_new (w1.alloc (.cells #[.int .u64 1] 23)) (.cells #[.slice a1 ws1.length ca1, .slice (some ⟨w1.heap.size, 0, none⟩) 1 1] 91); rwa [World.size_alloc] at this)
    have hbR : w2.heap[w.heap.size + 1]? = some (.cells #[.slice none 0 0, .slice none 0 0] 91 (0, 0)) := (c4.block (w.heap.size + 1) (by simp; omega) id).trans ((Below.heap_alloc _ _ _ (by simp; omega)).trans ((Below.heap_alloc _ _ _ (by omega)).trans HR1.out))
    have g0 := two_cell0 hbF
    have g1 := two_cell1 hbF
    have gf0 := two_free (j := 0) hbF
    have gf1 := two_free (j := 1) hbF
    have d0 := two_cell0 hbR
    have d1 := two_cell1 hbR
    have df0 := two_free (j := 0) hbR
    have df1 := two_free (j := 1) hbR
    have hne : w.heap.size + 1 ≠ w1.heap.size + 1 := by omega
    have HBR := hid hbR
    have HBF := hid hbF
    have C1 := hid c1
    have C2 := hid c2
    have HZ := hid (hZ1.fr c4)
    have HA := hid (hA1.fr c4)
    have HF2 := hid ((((((Fr.refl (fun _ => False) w).alloc _).alloc _).trans B4.out).alloc _).alloc _ |>.trans c4)
    clear c1 c2 c4 hbF hbR hcX hcX2 hZ1 hA1 B1'
    go_wp2
    have hfin := two_set1 (u := (.slice (some ⟨w1.heap.size, 0, none⟩) 1 1)) (two_set0 (u := (.slice a2 ws2.length ca2)) ((Below.heap_setCell (w2) ⟨w1.heap.size + 1, 0, none⟩ (.slice a2 ws2.length ca2) (w.heap.size + 1) (by simpa using hne)).trans HBR.out))
    have e0 := two_cell0 hfin
    have e1 := two_cell1 hfin
    refine bodyPost_ret (v := .agg #[.slice a2 ws2.length ca2, .slice (some ⟨w1.heap.size, 0, none⟩) 1 1]) (by simp [results, Try.results52, go_sem, e0, e1]) rfl ?_
    have HF3 : Fr (fun _ => False) w (((w2.setCell ⟨w1.heap.size + 1, 0, none⟩ (.slice a2 ws2.length ca2)).setCell ⟨w.heap.size + 1, 0, none⟩ (.slice a2 ws2.length ca2)).setCell ⟨w.heap.size + 1, 1, none⟩ (.slice (some ⟨w1.heap.size, 0, none⟩) 1 1)) :=
      ((HF2.out.setCell (.inr (by simp; omega)) _).setCell (.inr (by simp)) _).setCell (.inr (by simp)) _
    refine ⟨_, rfl, ⟨_, _, ws2, [1], rfl, C1.out.set3 HBF.out HBR.out, HZ.out.set3 HBF.out HBR.out, ?_, ?_, by have := HL.out; omega, by have := HL.out; simp; omega⟩, HF3⟩
    · rw [C2.out, B2.out]
    · rw [show (-X).toNat = 0 by omega]; rfl
  · have hx := hid (show -X = (((-X).toNat : Nat) : Int) by omega)
    go_enter Try.func52, Try.ntmps52
    go_wp2_with fail
    refine (bwhole_any l _ (by omega) hD).mono ?_
    rintro r w1 ⟨v1, ws1, rfl, b1, b2, b3, b4⟩
    obtain ⟨a1, ca1, rfl⟩ := big_shape b1
    have hT1 : w1.heap[w.heap.size]? = some (.cells #[.bool mi, .string (ofL l), .int .i64 X] 60 (0, 0)) := (b4.block w.heap.size (by simp; omega) id).trans ((Below.heap_alloc _ _ _ (by simp)).trans (heap_alloc_new w _))
    have hcX : w1.cell? ⟨w.heap.size, 2, none⟩ = some (.int .i64 X) := by simp [World.cell?, hT1]
    have hcX2 : ∀ o1 o2, ((w1.alloc o1).alloc o2).cell? ⟨w.heap.size, 2, none⟩ = some (.int .i64 X) := by
      intro o1 o2
      have hl := lt_of_block hT1
      rw [World.cell?_of_block (w := w1.alloc o1) (Below.heap_alloc _ _ _ (by simp; omega)), World.cell?_of_block (w := w1) (Below.heap_alloc _ _ _ hl)]
      exact hcX
    clear hT1
    have hR1 : w1.heap[w.heap.size + 1]? = some (.cells #[.slice none 0 0, .slice none 0 0] 91 (0, 0)) := (b4.block (w.heap.size + 1) (by simp) id).trans (by have := heap_alloc_new (w.alloc (.cells #[.bool mi, .string (ofL l), .int .i64 X] 60)) (.cells #[.slice none 0 0, .slice none 0 0] 91); rwa [World.size_alloc] at this)
    have hws : w.heap.size + 2 ≤ w1.heap.size := by have := b4.size; simp at this; omega
    have HR1 := hid hR1
    have B1 := hid b1
    have B2 := hid b2
    have B4 := hid b4
    clear b1 b2 b4 hR1
    go_wp2_with fail
    have hZ1 : BigAt ((w1.alloc (.cells #[.int .u64 1] 23)).alloc (.cells #[.slice a1 ws1.length ca1, .slice (some ⟨w1.heap.size, 0, none⟩) 1 1] 91)) (.slice (some ⟨w1.heap.size, 0, none⟩) 1 1) [1] :=
      BigAt.fr ⟨ownsRow_base (row_one w1 (.int .u64 1) 23), Limbs.one (by omega)⟩ ((Fr.refl _ _).alloc _)
    have hA1 := B1.out.fr (((Fr.refl (fun _ => False) w1).alloc (.cells #[.int .u64 1] 23)).alloc (.cells #[.slice a1 ws1.length ca1, .slice (some ⟨w1.heap.size, 0, none⟩) 1 1] 91))
    have B1' := hid hZ1
    refine (btens_int _ [1] (-X) (-X).toNat _ hx.out (by simp; omega) B1'.out).mono ?_
    rintro r w2 ⟨v2, ws2, rfl, c1, c2, c3, c4⟩
    obtain ⟨a2, ca2, rfl⟩ := big_shape c1
    have hbF : w2.heap[w1.heap.size + 1]? = some (.cells #[.slice a1 ws1.length ca1, .slice (some ⟨w1.heap.size, 0, none⟩) 1 1] 91 (0, 0)) := (c4.block (w1.heap.size + 1) (by simp) id).trans (by have := heap_alloc_new (w1.alloc (.cells #[.int .u64 1] 23)) (.cells #[.slice a1 ws1.length ca1, .slice (some ⟨w1.heap.size, 0, none⟩) 1 1] 91); rwa [World.size_alloc] at this)
    have hbR : w2.heap[w.heap.size + 1]? = some (.cells #[.slice none 0 0, .slice none 0 0] 91 (0, 0)) := (c4.block (w.heap.size + 1) (by simp; omega) id).trans ((Below.heap_alloc _ _ _ (by simp; omega)).trans ((Below.heap_alloc _ _ _ (by omega)).trans HR1.out))
    have g0 := two_cell0 hbF
    have g1 := two_cell1 hbF
    have gf0 := two_free (j := 0) hbF
    have gf1 := two_free (j := 1) hbF
    have d0 := two_cell0 hbR
    have d1 := two_cell1 hbR
    have df0 := two_free (j := 0) hbR
    have df1 := two_free (j := 1) hbR
    have hne : w.heap.size + 1 ≠ w1.heap.size + 1 := by omega
    have HBR := hid hbR
    have HBF := hid hbF
    have C1 := hid c1
    have C2 := hid c2
    have HZ := hid (hZ1.fr c4)
    have HA := hid (hA1.fr c4)
    have HF2 := hid ((((((Fr.refl (fun _ => False) w).alloc _).alloc _).trans B4.out).alloc _).alloc _ |>.trans c4)
    clear c1 c2 c4 hbF hbR hcX hcX2 hZ1 hA1 B1'
    go_wp2
    have hfin := two_set1 (u := (.slice a2 ws2.length ca2)) (two_set0 (u := (.slice a1 ws1.length ca1)) ((Below.heap_setCell (w2) ⟨w1.heap.size + 1, 1, none⟩ (.slice a2 ws2.length ca2) (w.heap.size + 1) (by simpa using hne)).trans HBR.out))
    have e0 := two_cell0 hfin
    have e1 := two_cell1 hfin
    refine bodyPost_ret (v := .agg #[.slice a1 ws1.length ca1, .slice a2 ws2.length ca2]) (by simp [results, Try.results52, go_sem, e0, e1]) rfl ?_
    have HF3 : Fr (fun _ => False) w (((w2.setCell ⟨w1.heap.size + 1, 1, none⟩ (.slice a2 ws2.length ca2)).setCell ⟨w.heap.size + 1, 0, none⟩ (.slice a1 ws1.length ca1)).setCell ⟨w.heap.size + 1, 1, none⟩ (.slice a2 ws2.length ca2)) :=
      ((HF2.out.setCell (.inr (by simp; omega)) _).setCell (.inr (by simp)) _).setCell (.inr (by simp)) _
    refine ⟨_, rfl, ⟨_, _, ws1, ws2, rfl, HA.out.set3 HBF.out HBR.out, C1.out.set3 HBF.out HBR.out, ?_, ?_, by have := HL.out; omega, by have := HL.out; simp at c3; omega⟩, HF3⟩
    · rw [B2.out, show X.toNat = 0 by omega, show p10 0 = 1 from rfl, Nat.mul_one]
    · rw [C2.out, show val [1] = 1 from rfl, Nat.one_mul]
theorem of_any (mi : Bool) (l : List UInt8) (X : Int) (w : World) (hl : l.length ≤ 4000000) (hD : AllD l) (h1 : -4000000 ≤ X) (h2 : X ≤ 4000000) :
    Calls Try.prog 52 #[.agg #[.bool mi, .string (ofL l), .int .i64 X]] w fun e w' => ∃ v, e = .returned v ∧ FracAt w' v (num (dv l) * p10 X.toNat) (p10 (-X).toNat) 9000000 ∧ Fr (fun _ => False) w w' :=
  of_lim mi l X 9000000 w hl hD h1 h2 (by omega)
end Go.Proofs.Ytmkkibaacclhnaa
