/-
  A step of the walk of the numbers, the part named Br: which of two is nearer, by the document's answer. No theorem of the row.
-/
import Derived.Test.YtmkkibaacclhnaaBq
import Derived.Test.YtmkkibaacclhnaaBp
import Derived.Deep.DeepCutAuto
import Derived.Deep.RegionHeld3
namespace Go.Proofs.Ytmkkibaacclhnaa
open Go.RowKit

theorem man_less (m : Nat) (hm : m < 9218868437227405312) : (manE m).1 < 9007199254740992 ∧ (manE m).2 ≤ 2046 := by
  unfold manE
  split
  · simp only; omega
  · simp only; omega

/-- the four cells of two fractions -/
structure NearC (w0 w : World) (b1 b2 : Nat) (x0 x1 y0 y1 : Value) : Prop where
  fr : Fr (fun _ => False) w0 w
  c0 : w.cell? ⟨b1, 0, none⟩ = some x0
  c1 : w.cell? ⟨b1, 1, none⟩ = some x1
  d0 : w.cell? ⟨b2, 0, none⟩ = some y0
  d1 : w.cell? ⟨b2, 1, none⟩ = some y1
theorem NearC.next {w0 w w' : World} {b1 b2 : Nat} {x0 x1 y0 y1 : Value} (h : NearC w0 w b1 b2 x0 x1 y0 y1) (hF : Fr (fun _ => False) w w') : NearC w0 w' b1 b2 x0 x1 y0 y1 :=
  ⟨h.fr.trans hF, (hF.cell (p := ⟨b1, 0, none⟩) (lt_of_cell h.c0) id).trans h.c0, (hF.cell (p := ⟨b1, 1, none⟩) (lt_of_cell h.c1) id).trans h.c1, (hF.cell (p := ⟨b2, 0, none⟩) (lt_of_cell h.d0) id).trans h.d0, (hF.cell (p := ⟨b2, 1, none⟩) (lt_of_cell h.d1) id).trans h.d1⟩

set_option maxRecDepth 100000 in
set_option maxHeartbeats 8000000 in
theorem nearer_any (v u : Value) (A B C D L m : Nat) (w : World) (hL : L ≤ 1000000) (hm : m < 9218868437227405312) (hf : FracAt w v A B L) (hg : FracAt w u C D L) :
    Calls Try.prog 64 #[v, u, .int .u64 (m : Int)] w fun r w' => r = .returned (.int .i64 (-(bcmp ((A * D + C * B) * 2 ^ (-(((manE m).2 : Int) - 1074)).toNat) (B * D * (2 * (manE m).1) * 2 ^ (((manE m).2 : Int) - 1074).toNat)))) ∧ Fr (fun _ => False) w w' := by
  obtain ⟨va, vb, xs, ys, rfl, a1, a2, a3, a4, a5, a6⟩ := hf
  obtain ⟨ua, ub, zs, ts, rfl, b1, b2, b3, b4, b5, b6⟩ := hg
  obtain ⟨p1, q1, rfl⟩ := big_shape a1
  obtain ⟨p2, q2, rfl⟩ := big_shape a2
  obtain ⟨p3, q3, rfl⟩ := big_shape b1
  obtain ⟨p4, q4, rfl⟩ := big_shape b2
  have A1 := hid a1
  have A2 := hid a2
  have B1 := hid b1
  have B2 := hid b2
  have HM := hid hm
  clear a1 a2 b1 b2
  go_enter Try.func64, Try.ntmps64
  go_wp2_with fail
  refine (parts_man m _ (by have := HM.out; omega)).mono ?_
  rintro e w1 ⟨rfl, rfl⟩
  clear hm
  have hN0 : NearC w ((w.alloc (.cells #[.slice p1 xs.length q1, .slice p2 ys.length q2] 91)).alloc (.cells #[.slice p3 zs.length q3, .slice p4 ts.length q4] 91)) w.heap.size (w.heap.size + 1) (.slice p1 xs.length q1) (.slice p2 ys.length q2) (.slice p3 zs.length q3) (.slice p4 ts.length q4) := by
    have h1 : ((w.alloc (.cells #[.slice p1 xs.length q1, .slice p2 ys.length q2] 91)).alloc (.cells #[.slice p3 zs.length q3, .slice p4 ts.length q4] 91)).heap[w.heap.size]? = some (.cells #[.slice p1 xs.length q1, .slice p2 ys.length q2] 91 (0, 0)) := (Below.heap_alloc _ _ _ (by simp)).trans (heap_alloc_new w _)
    have h2 : ((w.alloc (.cells #[.slice p1 xs.length q1, .slice p2 ys.length q2] 91)).alloc (.cells #[.slice p3 zs.length q3, .slice p4 ts.length q4] 91)).heap[w.heap.size + 1]? = some (.cells #[.slice p3 zs.length q3, .slice p4 ts.length q4] 91 (0, 0)) := by
      have := heap_alloc_new (w.alloc (.cells #[.slice p1 xs.length q1, .slice p2 ys.length q2] 91)) (.cells #[.slice p3 zs.length q3, .slice p4 ts.length q4] 91)
      rwa [World.size_alloc] at this
    exact ⟨((Fr.refl _ w).alloc _).alloc _, two_cell0 h1, two_cell1 h1, two_cell0 h2, two_cell1 h2⟩
  generalize hW0 : (w.alloc (.cells #[.slice p1 xs.length q1, .slice p2 ys.length q2] 91)).alloc (.cells #[.slice p3 zs.length q3, .slice p4 ts.length q4] 91) = W0 at *
  clear hW0
  have n0 := hN0.c0
  have n1 := hN0.c1
  have n2 := hN0.d0
  have n3 := hN0.d1
  have HX := hid (fun (wx : World) (hx : Fr (fun _ => False) w wx) => bprod_any (.slice p1 xs.length q1) (.slice p4 ts.length q4) xs ts wx (by omega) (by omega) (A1.out.fr hx) (B2.out.fr hx))
  have HY := hid (fun (wx : World) (hx : Fr (fun _ => False) w wx) => bprod_any (.slice p3 zs.length q3) (.slice p2 ys.length q2) zs ys wx (by omega) (by omega) (B1.out.fr hx) (A2.out.fr hx))
  have HZ := hid (fun (wx : World) (hx : Fr (fun _ => False) w wx) => bprod_any (.slice p2 ys.length q2) (.slice p4 ts.length q4) ys ts wx (by omega) (by omega) (A2.out.fr hx) (B2.out.fr hx))
  have HN0 := hid hN0
  clear hN0
  go_wp2_with fail
  go_cut [9] (fun xv wc => ∃ ws, Hid (BigAt wc xv ws) ∧ Hid (val ws = A * D + C * B) ∧ ws.length ≤ 5000000 ∧ Hid (NearC w wc w.heap.size (w.heap.size + 1) (.slice p1 xs.length q1) (.slice p2 ys.length q2) (.slice p3 zs.length q3) (.slice p4 ts.length q4)))
  case first =>
    have HNc := hid (HN0.out.next ((Fr.refl (fun _ => False) W0).drew))
    have HLX := hid (show xs.length + 2 * ts.length + 3 ≤ 4000000 by omega)
    have HLY := hid (show zs.length + 2 * ys.length + 3 ≤ 4000000 by omega)
    have h4 := hid (show (4000000 : Nat) ≤ 1000000000 by omega)
    go_region_held3 (fun w' => w'.cell? ⟨w.heap.size, 0, none⟩ = some (.slice p1 xs.length q1) ∧ w'.cell? ⟨w.heap.size, 1, none⟩ = some (.slice p2 ys.length q2) ∧ w'.cell? ⟨w.heap.size + 1, 0, none⟩ = some (.slice p3 zs.length q3) ∧ w'.cell? ⟨w.heap.size + 1, 1, none⟩ = some (.slice p4 ts.length q4)) (first | go_keep | exact ⟨HNc.out.c0, HNc.out.c1, HNc.out.d0, HNc.out.d1⟩) (first
      | (go_at_call_of 92 (Value.slice p1 xs.length q1); refine Calls.mono (HX.out _ HNc.out.fr) ?_; rintro r wX ⟨vX, wsX, rfl, nX, x1, x2, x3, x4⟩; have X1 := hid x1; have X2 := hid x2; have X4 := hid x4; have X3 := hid (Nat.le_trans x3 HLX.out); have HNe := hid (HNc.out.next x4); have nxa := HNe.out.c0; have nxb := HNe.out.c1; have nxc := HNe.out.d0; have nxd := HNe.out.d1; clear HNc; have HNc := HNe; clear HNe; clear x1 x2 x3 x4 nX)
      | (go_at_call_of 92 (Value.slice p3 zs.length q3); refine Calls.mono (HY.out _ HNc.out.fr) ?_; rintro r wY ⟨vY, wsY, rfl, nY, y1, y2, y3, y4⟩; have Y1 := hid y1; have Y2 := hid y2; have Y4 := hid y4; have Y3 := hid (Nat.le_trans y3 HLY.out); have HNe := hid (HNc.out.next y4); have nya := HNe.out.c0; have nyb := HNe.out.c1; have nyc := HNe.out.d0; have nyd := HNe.out.d1; clear HNc; have HNc := HNe; clear HNe; clear y1 y2 y3 y4 nY)
      | (go_at_call 93; (first | refine Calls.mono (bplus_s _ _ wsX wsY _ (Nat.le_trans X3.out h4.out) (Nat.le_trans Y3.out h4.out) (X1.out.fr Y4.out) Y1.out) ?_ | refine Calls.mono (bplus_s _ _ wsX wsY _ (Nat.le_trans X3.out h4.out) (Nat.le_trans Y3.out h4.out) X1.out (Y1.out.fr X4.out)) ?_); rintro r wZ ⟨vZ, wsZ, rfl, nZ, z1, z2, z3, z4⟩; have Z1 := hid z1; have Z2 := hid z2; have Z3 := hid z3; have HNe := hid (HNc.out.next z4); have nza := HNe.out.c0; have nzb := HNe.out.c1; have nzc := HNe.out.d0; have nzd := HNe.out.d1; clear HNc; have HNc := HNe; clear HNe; clear z1 z2 z3 z4 nZ))
    all_goals
      go_wp2
      go_meet
      refine ⟨wsZ, Z1, hid ?_, ?_, HNc⟩
      · rw [Z2.out, X2.out, Y2.out, a3, a4, b3, b4]
      · have := Z3.out
        have := X3.out
        have := Y3.out
        omega
  case rest =>
    obtain ⟨ws, hB, hV, hl, hN⟩ := hcut
    have n0 := hN.out.c0
    have n1 := hN.out.c1
    have n2 := hN.out.d0
    have n3 := hN.out.d1
    have hfr := hid hN.out.fr
    clear HX HY HN0
    obtain ⟨px, qx, rfl⟩ := big_shape hB.out
    have hb := man_less m HM.out
    obtain ⟨n, hn⟩ : ∃ n, (manE m).1 = n := ⟨_, rfl⟩
    obtain ⟨E, hE⟩ : ∃ E, (manE m).2 = E := ⟨_, rfl⟩
    rw [hn, hE] at hb ⊢
    have HNE := hid (And.intro hn hE)
    clear hn hE
    go_wp2_with fail
    refine (HZ.out wc hfr.out).mono ?_
    rintro e w5 ⟨v5, ws5, rfl, n5, z1, z2, z3, z4⟩
    obtain ⟨p5, q5, rfl⟩ := big_some z1 n5
    have HFR := hid (show FracAt w5 (.agg #[.slice px ws.length qx, .slice (some ⟨p5, 0, none⟩) ws5.length q5]) (A * D + C * B) (B * D) 5000000 from
      ⟨_, _, ws, ws5, rfl, hB.out.fr z4, z1, hV.out, by rw [z2, a4, b4], hl, by omega⟩)
    have HF5 := hid (hfr.out.trans z4)
    clear z1 z2 z3 z4 n5 n0 n1 n2 n3
    go_wp2_with fail
    refine (fagainst_int _ (A * D + C * B) (B * D) 5000000 _ (2 * n) ((E : Int) - 1074) _ (by omega) (by omega) (by omega) (by omega) (by omega) (HFR.out.fr ((Fr.refl _ _).alloc _))).mono ?_
    rintro e w6 ⟨rfl, hF6⟩
    have HF6 := hid ((HF5.out.alloc _).trans hF6)
    obtain ⟨cc, hcc⟩ : ∃ cc, bcmp ((A * D + C * B) * 2 ^ (-((E : Int) - 1074)).toNat) (B * D * (2 * n) * 2 ^ ((E : Int) - 1074).toNat) = cc := ⟨_, rfl⟩
    have hcb : -1 ≤ cc ∧ cc ≤ 1 := by rw [← hcc]; rcases bcmp_cases ((A * D + C * B) * 2 ^ (-((E : Int) - 1074)).toNat) (B * D * (2 * n) * 2 ^ ((E : Int) - 1074).toNat) with h | h | h <;> rw [h] <;> omega
    rw [hcc]
    have HCC := hid hcc
    clear hF6 hcc
    go_wp2
    go_ret
    refine ⟨?_, HF6.out⟩
    rw [HNE.out.1, HNE.out.2, HCC.out]
    rfl
end Go.Proofs.Ytmkkibaacclhnaa
