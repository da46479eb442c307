/-
  A step of the walk of the numbers, the part named Bj: whole numbers of the document's answer, by twos and by each other. No theorem of the row.
-/
import Derived.Test.YtmkkibaacclhnaaBi
namespace Go.Proofs.Ytmkkibaacclhnaa
open Go.RowKit

theorem us_one {ws : List Nat} : ∀ u ∈ us ws, u.oneCell' = true := by intro u hu; simp [us] at hu; obtain ⟨a, _, rfl⟩ := hu; rfl
theorem us_zeros (n : Nat) : us (List.replicate n 0) = List.replicate n (.int .u64 0) := by simp [us]

theorem big_some {w : World} {v : Value} {ws : List Nat} (h : BigAt w v ws) (hn : v ≠ .slice none 0 0) : ∃ g cap, v = .slice (some ⟨g, 0, none⟩) ws.length cap := by
  rcases h.1.2 with ⟨h1, _⟩ | ⟨g, cap, cur, hv, _⟩
  · exact absurd h1 hn
  · exact ⟨g, cap, hv⟩
theorem row_one (w : World) (x : Value) (e : Nat) : (w.alloc (.cells #[x] e)).ownsRow w.heap.size e 1 (.slice (some ⟨w.heap.size, 0, none⟩) 1 1) 1 [x] :=
  ⟨rfl, .inr ⟨_, _, _, rfl, Nat.le_refl _, heap_alloc_new _ _, by omega, by unfold maxLen; omega, rfl, rfl⟩⟩
/-- a row that lies below a block is not that block's -/
theorem ownsRow_other {w0 w w' : World} {e size : Nat} {v : Value} {n : Nat} {xs : List Value} (h : w.ownsRow 0 e size v n xs) (h0 : w0.ownsRow 0 e size v n xs) (hF : Fr (fun i => i = w0.heap.size) w w') : w'.ownsRow 0 e size v n xs := by
  obtain ⟨h1, h2⟩ := h
  refine ⟨h1, ?_⟩
  rcases h2 with h2 | ⟨g, cap, cur, hv, hg, hh, hr⟩
  · exact .inl h2
  · have hlt : g < w0.heap.size := (h0.lt g (by rw [hv]; rfl)).2
    exact .inr ⟨g, cap, cur, hv, hg, (hF.block g (lt_of_block hh) (by omega)).trans hh, hr⟩

set_option maxRecDepth 100000 in
set_option maxHeartbeats 4000000 in
theorem bby_any (v : Value) (ws : List Nat) (n : Nat) (w : World) (hl : ws.length ≤ 100000000) (hn : n < 18446744073709551616) (hB : BigAt w v ws) :
    Calls Try.prog 76 #[v, .int .u64 (n : Int)] w (BigPost w (val ws * n) (ws.length + 3)) := by
  have h1 : (n : Int) % 4294967296 = ((n % 4294967296 : Nat) : Int) := by omega
  have h2 : (n : Int) / 4294967296 = ((n / 4294967296 : Nat) : Int) := by omega
  have k1 : n % 4294967296 < 4294967296 := by omega
  have k2 : n / 4294967296 < 4294967296 := by omega
  have hval := hid (show val ws * n = (n % 4294967296 * val ws + 0) + 4294967296 * (n / 4294967296 * val ws + 0) from by
    have e : n = n % 4294967296 + 4294967296 * (n / 4294967296) := by omega
    generalize n % 4294967296 = a at *
    generalize n / 4294967296 = b at *
    rw [e, Nat.mul_add, Nat.add_zero, Nat.add_zero, Nat.mul_comm (val ws) a, Nat.mul_comm (val ws), Nat.mul_assoc])
  have H1 := hid h1
  have H2 := hid h2
  obtain ⟨i0, hi, hz0, hz1, hz2⟩ := info_parts Try.info23
  generalize n % 4294967296 = p at *
  generalize n / 4294967296 = q at *
  clear h1 h2 hn
  go_enter Try.func76, Try.ntmps76
  go_wp2_with fail
  rw [H1.out]
  refine (btimes_any v ws p 0 _ (by omega) k1 (by omega) hB).mono ?_
  rintro e w1 ⟨v1, ws1, rfl, b1, b2, b3, b4⟩
  have B1 := hid b1
  have B2 := hid b2
  have B4 := hid b4
  have HB := hid hB
  clear b1 b2 b4 hB
  go_wp2_with fail
  rw [H2.out]
  refine (btimes_s v ws q 0 _ (by omega) k2 (by omega) (HB.out.fr (B4.out.alloc _))).mono ?_
  rintro e w2 ⟨v2, ws2, rfl, n2, c2, c3, c4, c5⟩
  obtain ⟨g2, cap2, rfl⟩ := big_some c2 n2
  have hz : w2.ownsRow w1.heap.size 23 1 (.slice (some ⟨w1.heap.size, 0, none⟩) 1 1) 1 (us [0]) := ownsRow_fr (row_one w1 (.int .u64 0) 23) c5
  have HZ := hid hz
  have C2 := hid c2
  have C3 := hid c3
  have hb2 := c5.size
  simp only [World.size_alloc] at hb2
  have HF2 := hid ((B4.out.alloc (.cells #[.int .u64 0] 23)).trans c5)
  have B1' := hid (B1.out.fr ((Fr.refl (fun _ => False) w1).alloc (.cells #[.int .u64 0] 23) |>.trans c5))
  clear c2 c3 c5 hz n2
  go_wp2_with (first
    | (at_builtin; refine wpList_append_own _ rfl _ _ 89 rfl w1.heap.size 23 i0 (.int .u64 0) 1 8 Try.underlying89 hi hz0 hz1 hz2 rfl (by decide) _ _ _ rfl HZ.out ⟨g2, 0, none⟩ ws2.length cap2 (us ws2) rfl ?c0 ?c1 ?c2 ?c3 ?c4 ?c5 ?_)
    | go_in)
  case c0 => rw [us_length]; omega
  case c1 => exact C2.out.1.cells (g := g2) rfl
  case c2 => exact us_one
  case c3 => unfold maxLen; omega
  case c4 => omega
  case c5 => omega
  intro v3 w3 hown' hgrow _
  have hB3 := hid (show BigAt w3 v3 (0 :: ws2) from ⟨by rw [List.length_cons, Nat.add_comm]; exact ownsRow_base hown', by
    intro x hx
    rcases List.mem_cons.1 hx with rfl | hx
    · omega
    · exact C2.out.2 x hx⟩)
  have hFg : Fr (fun i => i = w1.heap.size) w2 w3 := (Fr.refl _ w2).grown hgrow (fun k hk => .inl (by simpa [Value.ownBlock] using hk.symm))
  have HF3 := hid (HF2.out.trans' hFg (fun i hi => .inr (by rw [hi]; exact B4.out.size)))
  have hB1 := hid (show BigAt w3 v1 ws1 from ⟨ownsRow_other B1'.out.1 B1.out.1 hFg, B1'.out.2⟩)
  have HV3 := hid (show val (0 :: ws2) = 4294967296 * (q * val ws + 0) from by rw [val, C3.out]; omega)
  clear hown' hgrow hFg
  go_wp2_with fail
  refine (bplus_s _ _ ws1 (0 :: ws2) _ (by omega) (by simp; omega) hB1.out hB3.out).mono ?_
  intro e w4 hp
  obtain ⟨v4, ws4, rfl, n4, d1, d2, d3, d4⟩ := hp
  have D := hid (And.intro d1 (And.intro d2 (And.intro d3 d4)))
  clear d1 d2 d3 d4 n4
  go_wp2
  go_ret
  obtain ⟨d1, d2, d3, d4⟩ := D.out
  refine ⟨_, ws4, rfl, d1, ?_, ?_, HF3.out.trans d4⟩
  · rw [d2, B2.out, HV3.out, hval.out]
  · simp only [List.length_cons] at d3; omega

theorem row_made (w : World) (n : Nat) (hn : n ≤ 100000) : (w.alloc (.cells (madeCells #[Value.int .u64 0] n) 23)).ownsRow w.heap.size 23 1 (.slice (some ⟨w.heap.size, 0, none⟩) n n) n (us (List.replicate n 0)) := by
  have := World.ownsRow_lit w (e := 23) (size := 1) (base := w.heap.size) (madeCells #[Value.int .u64 0] n) n (Nat.le_refl _) (by unfold maxLen; omega) (by rw [size_madeCells]; omega)
  rw [toList_madeCells_one] at this
  rw [us_zeros]
  exact this
theorem two_split (n : Nat) : 2 ^ n = 4294967296 ^ (n / 32) * 2 ^ (n % 32) := by
  rw [show (4294967296 : Nat) = 2 ^ 32 from rfl, ← Nat.pow_mul, ← Nat.pow_add, Nat.div_add_mod]

set_option maxRecDepth 100000 in
set_option maxHeartbeats 4000000 in
theorem btwos_any (v : Value) (ws : List Nat) (n : Nat) (w : World) (hl : ws.length ≤ 100000000) (hn : n ≤ 100000) (hB : BigAt w v ws) :
    Calls Try.prog 78 #[v, .int .i64 (n : Int)] w (BigPost w (val ws * 2 ^ n) (ws.length + n / 32 + 1)) := by
  obtain ⟨i0, hi, hz0, hz1, hz2⟩ := info_parts Try.info23
  have hmk := fun wx => run_make (P := Try.prog) wx 89 23 i0 (.int .u64 0) Try.underlying89 hi hz0 .i64 .i64 ((n : Int) / 32) ((n : Int) / 32) (by omega) (Int.le_refl _) (by rw [hz2]; omega) (by omega)
  rw [hz1] at hmk
  have hW : ((n : Int) / 32).toNat = n / 32 := by omega
  have hpart := part_pow n
  go_enter Try.func78, Try.ntmps78
  go_wp2_with fail
  have hpw : IntKind.u64.wrap ((2 : Int) ^ (n % 32)) = ((2 ^ (n % 32) : Nat) : Int) := by
    have h := part_lt n
    have e : ((2 ^ (n % 32) : Nat) : Int) = (2 : Int) ^ (n % 32) := by rw [Int.natCast_pow]; rfl
    rw [← e, IntWalk.u64_in _ (by omega)]
  rw [hpw]
  have HL := hid (part_lt n)
  have hst := row_made w (n / 32) (by omega)
  refine (btimes_s v ws (2 ^ (n % 32)) 0 _ (by omega) HL.out (by omega) (hB.fr ((Fr.refl _ _).alloc _))).mono ?_
  rintro e w2 ⟨v2, ws2, rfl, n2, c2, c3, c4, c5⟩
  obtain ⟨g2, cap2, rfl⟩ := big_some c2 n2
  have HZ := hid (ownsRow_fr hst c5)
  have C2 := hid c2
  have C3 := hid c3
  have hb2 := c5.size
  simp only [World.size_alloc] at hb2
  have HF2 := hid (((Fr.refl (fun _ => False) w).alloc (.cells (madeCells #[.int .u64 0] (n / 32)) 23)).trans c5)
  clear c2 c3 c5 hst n2 hmk hpw hpart hB
  go_wp2_with (first
    | (at_builtin; refine wpList_append_own _ rfl _ _ 89 rfl w.heap.size 23 i0 (.int .u64 0) 1 8 Try.underlying89 hi hz0 hz1 hz2 rfl (by decide) _ _ _ rfl HZ.out ⟨g2, 0, none⟩ ws2.length cap2 (us ws2) rfl ?c0 ?c1 ?c2 ?c3 ?c4 ?c5 ?_)
    | go_in)
  case c0 => rw [us_length]; omega
  case c1 => exact C2.out.1.cells (g := g2) rfl
  case c2 => exact us_one
  case c3 => unfold maxLen; omega
  case c4 => omega
  case c5 => omega
  intro v3 w3 hown' hgrow _
  have hB3 := hid (show BigAt w3 v3 (List.replicate (n / 32) 0 ++ ws2) from ⟨by
      rw [us_append, List.length_append, List.length_replicate]
      exact ownsRow_base hown', (Limbs.zeros _).append C2.out.2⟩)
  have HF3 := hid (HF2.out.trans' ((Fr.refl (fun i => i = w.heap.size) w2).grown hgrow (fun k hk => .inl (by simpa [Value.ownBlock] using hk.symm))) (fun i hi => .inr (by omega)))
  clear hown' hgrow
  go_wp2
  go_ret
  refine ⟨_, _, rfl, hB3.out, ?_, by simp; omega, HF3.out⟩
  rw [val_zeros, C3.out, two_split n, Nat.add_zero, ← Nat.mul_assoc, Nat.mul_comm]
end Go.Proofs.Ytmkkibaacclhnaa
