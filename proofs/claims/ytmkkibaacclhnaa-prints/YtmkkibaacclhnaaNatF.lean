/-
  A step of the walk of the numbers, the part named NatF. No theorem of the row.
-/
import Derived.Test.YtmkkibaacclhnaaNatE
import Derived.Deep.RegionLawGrows
namespace Go.Proofs.Ytmkkibaacclhnaa
open Go.RowKit

theorem row_pos {w : World} {base : Nat} {e : TypeId} {size : Nat} {v : Value} {k : Nat} {xs : List Value} (h : w.ownsRow base e size v k xs) (hk : 0 < k) : ∃ g cap, v = .slice (some ⟨g, 0, none⟩) k cap := by
  rcases h.2 with ⟨_, h2⟩ | ⟨g, cap, _, hv, _⟩
  · omega
  · exact ⟨g, cap, hv⟩

theorem val_zeros (k : Nat) (ws : List Nat) : val (List.replicate k 0 ++ ws) = 4294967296 ^ k * val ws := by
  rw [val_append, val_replicate, List.length_replicate]; omega
theorem Limbs.zeros (k : Nat) : Limbs (List.replicate k 0) := by intro x hx; rw [List.mem_replicate] at hx; omega
theorem top_zeros (k : Nat) (ws : List Nat) (h : Top ws) (h0 : ws ≠ []) : Top (List.replicate k 0 ++ ws) := by
  rcases List.eq_nil_or_concat ws with rfl | ⟨i, x, rfl⟩
  · exact absurd rfl h0
  · rw [List.concat_eq_append] at *
    intro e
    apply h
    rw [← List.append_assoc] at e
    simpa using e
theorem vs_zeros (W : Nat) : vs (List.replicate W 0) = List.replicate W (Value.int .u32 0) := by simp [vs]
theorem made_zeros (W : Nat) : (madeCells #[Value.int .u32 0] W).toList = vs (List.replicate W 0) := by rw [toList_madeCells_one, vs_zeros]

theorem Nt.put {w : World} {b g T : Nat} {u : Value} {cap n : Nat} {ws : List Nat} (hb : w.heap[b]? = some (.cells #[u] T (0, 0))) (hn : ws.length = n) (ho : w.ownsRow 0 127 1 (.slice (some ⟨g, 0, none⟩) n cap) n (vs ws)) (hne : b ≠ g) (h1 : Limbs ws) (h2 : Top ws) :
    Nt (w.setCell ⟨b, 0, none⟩ (.slice (some ⟨g, 0, none⟩) n cap)) b g (val ws) := by
  subst hn
  exact ⟨ws, IsNat.put hb ho hne, h1, h2, rfl⟩

theorem part_lt (k : Nat) : 2 ^ (k % 32) < 4294967296 := Nat.lt_of_lt_of_le (Nat.pow_lt_pow_right (by omega) (Nat.mod_lt k (by omega : 0 < 32))) (by decide)
theorem part_pow (k : Nat) : (2 : Int) ^ (k % 32) % 4294967296 = ((2 ^ (k % 32) : Nat) : Int) := by
  have h := part_lt k
  have e : ((2 ^ (k % 32) : Nat) : Int) = (2 : Int) ^ (k % 32) := by rw [Int.natCast_pow]; rfl
  rw [← e]
  generalize 2 ^ (k % 32) = t at h ⊢
  omega

set_option maxHeartbeats 1000000 in
set_option maxRecDepth 100000 in
theorem shift_whole (b g : Nat) (ws : List Nat) (k : Nat) (w : World) (hl : ws.length ≤ 1000) (hk : k ≤ 30000) (hk32 : 32 ≤ k) (h0 : ws ≠ []) (hN : IsNat w b g ws) (hws : Limbs ws) (htop : Top ws) (hS : Sm (4294967296 ^ (k / 32) * val ws)) :
    Calls Try.prog 83 #[.pointer (some ⟨b, 0, none⟩), .int .i64 k] w fun e w' => e = .returned (.tuple #[]) ∧ ∃ g', Nt w' b g' (2 ^ (k % 32) * (4294967296 ^ (k / 32) * val ws)) ∧ Fr (fun i => i = b ∨ i = g) w w' ∧ (w.heap.size ≤ g') := by
  obtain ⟨cap, T, hb, ho, hne⟩ := hN
  have hbc := cell_of_one hb
  have hbf := free_of_one hb
  have hpos : 0 < ws.length := List.length_pos_iff.2 h0
  have hT : Top (List.replicate (k / 32) 0 ++ ws) := top_zeros _ _ htop h0
  have hL : Limbs (List.replicate (k / 32) 0 ++ ws) := (Limbs.zeros _).append hws
  have HS : Hid _ := hS
  have hlen : (List.replicate (k / 32) 0 ++ ws).length = ((k : Int) / 32).toNat + ws.length := by simp; omega
  have HL : Hid _ := hlen
  obtain ⟨i0, hi, hz0, hz1, hz2⟩ := info_parts Try.info127
  have hmk := fun wx => run_make (P := Try.prog) wx 144 127 i0 (.int .u32 0) Try.underlying144 hi hz0 .i64 .i64 ((k : Int) / 32) ((k : Int) / 32) (by omega) (Int.le_refl _) (by rw [hz2]; omega) (by omega)
  rw [hz1] at hmk
  have hbl := lt_of_block hb
  have hgl := ownsRow_lt ho
  have hW : ((k : Int) / 32).toNat = k / 32 := by omega
  have hlo : (vs (List.replicate (k / 32) 0)).length = ((k : Int) / 32).toNat * 1 := by rw [vs_length, List.length_replicate]; omega
  have hnew : (w.alloc (.cells (madeCells #[Value.int .u32 0] ((k : Int) / 32).toNat) 127)).drew.ownsRow 0 127 1 (.slice (some ⟨w.heap.size, 0, none⟩) (k / 32) (k / 32)) (k / 32) (vs (List.replicate (k / 32) 0)) := by
    have := World.ownsRow_lit w (e := 127) (size := 1) (base := 0) (madeCells #[Value.int .u32 0] ((k : Int) / 32).toNat) (k / 32) (Nat.zero_le _) (by unfold maxLen; omega) (by rw [size_madeCells]; omega)
    rw [made_zeros, hW] at this
    rw [hW]
    exact this.drew
  have holds : ∀ a : Addr, some (⟨w.heap.size, 0, none⟩ : Addr) = some a → ∀ j u, (vs (List.replicate (k / 32) 0))[j]? = some u → (w.alloc (.cells (madeCells #[Value.int .u32 0] ((k : Int) / 32).toNat) 127)).drew.cell? (a.add j) = some u := by
    intro a ha; cases ha; exact hnew.cells (g := w.heap.size) rfl
  have hnews : ∀ j u, (vs ws)[j]? = some u → (w.alloc (.cells (madeCells #[Value.int .u32 0] ((k : Int) / 32).toNat) 127)).drew.cell? ((⟨g, 0, none⟩ : Addr).add j) = some u := (ho.alloc _).drew.cells (g := g) rfl
  have hvl : (vs ws).length = ws.length * 1 := by rw [vs_length]; omega
  have hone : ∀ u ∈ vs ws, u.oneCell' = true := by intro u hu; simp [vs] at hu; obtain ⟨a, _, rfl⟩ := hu; rfl
  have hfull : ((k : Int) / 32).toNat < ((k : Int) / 32).toNat + ws.length := by omega
  have hm1 : ((k : Int) / 32).toNat + ws.length ≤ maxLen := by unfold maxLen; omega
  have hm2 : (((k : Int) / 32).toNat + ws.length) * 4 ≤ 140737488355328 := by omega
  have Hlo : Hid _ := hlo
  have Hnew : Hid _ := hnew
  have Holds : Hid _ := holds
  have Hnews : Hid _ := hnews
  have Hvl : Hid _ := hvl
  have Hone : Hid _ := hone
  have Hf : Fr (fun i => i = b ∨ i = g) w (w.alloc (.cells (madeCells #[Value.int .u32 0] ((k : Int) / 32).toNat) 127)).drew := ((Fr.refl _ w).alloc _).drew
  clear h0 hlo hnew holds hnews hvl hone hW hS hlen
  go_enter Try.func83, Try.ntmps83
  go_wp2
  go_region_law (refine step_append_grows rfl _ _ 144 rfl 127 i0 (.int .u32 0) 1 4 Try.underlying144 hi hz0 hz1 hz2 rfl (by decide) (some ⟨w.heap.size, 0, none⟩) ((k : Int) / 32).toNat ((k : Int) / 32).toNat (vs (List.replicate (k / 32) 0)) rfl (fun h => by cases h) Hlo.out Holds.out ⟨g, 0, none⟩ ws.length cap (vs ws) rfl Hvl.out Hnews.out Hone.out hfull hm1 hm2 ?_; intro v' w1 hown hgrow; obtain ⟨g', cap', rfl⟩ := row_pos hown (by omega); have hb1 : w1.heap[b]? = some (.cells #[.slice (some ⟨g, 0, none⟩) ws.length cap] T (0, 0)) := ((hgrow.block b (by show b < (w.alloc _).heap.size; simp; omega) (by simp)).trans (Below.heap_alloc w _ b hbl)).trans hb; have hc1 := cell_of_one hb1; have hf1 := free_of_one hb1)
  all_goals
    have hgg : w.heap.size + 1 ≤ g' := by have := (hown.lt g' rfl).1; simpa using this
    have hbg : b ≠ g' := by omega
    have hN2 : Nt (w1.setCell ⟨b, 0, none⟩ (.slice (some ⟨g', 0, none⟩) (((k : Int) / 32).toNat + ws.length) cap')) b g' (val (List.replicate (k / 32) 0 ++ ws)) := Nt.put hb1 HL.out (by rw [vs_append]; exact ownsRow_base hown) hbg hL hT
    have hF2 : Fr (fun i => i = b ∨ i = g) w (w1.setCell ⟨b, 0, none⟩ (.slice (some ⟨g', 0, none⟩) (((k : Int) / 32).toNat + ws.length) cap')) := (Hf.grown hgrow (fun i hi => by cases hi)).setCell (.inl (.inl rfl)) _
    rw [val_zeros] at hN2
    clear hb1 hc1 hf1 hown hgrow Hf Hlo Hnew Holds Hnews Hvl Hone hmk hfull hm1 hm2 HL hL hT hbc hbf ho hb htop hws
    generalize w1.setCell ⟨b, 0, none⟩ (.slice (some ⟨g', 0, none⟩) (((k : Int) / 32).toNat + ws.length) cap') = W2 at hN2 hF2 ⊢
    by_cases hpart : k % 32 = 0
    · go_wp2
      go_end0
      exact ⟨rfl, g', by rw [hpart]; simpa using hN2, hF2, by omega⟩
    · have hpp : 0 < k % 32 := by omega
      go_wp2_with fail
      rw [part_pow k]
      refine (timesPlus_nt b g' _ (2 ^ (k % 32)) 0 _ HS.out (part_lt k) (Nat.two_pow_pos _) (by omega) hN2).mono ?_
      rintro e w' ⟨rfl, g2, r1, r2, r3⟩
      go_wp2
      go_end0
      refine ⟨rfl, g2, by rw [Nat.add_zero] at r1; exact r1, hF2.trans' r2 ?_, ?_⟩
      · rintro i (hi | hi)
        · exact .inl (.inl hi)
        · exact .inr (by omega)
      · have := hF2.size; omega

set_option maxHeartbeats 1000000 in
set_option maxRecDepth 100000 in
theorem shift_part (b g N : Nat) (k : Nat) (w : World) (hk : k ≤ 30000) (hN : Nt w b g N) (h0 : k < 32 ∨ N = 0) (hS : Sm N) :
    Calls Try.prog 83 #[.pointer (some ⟨b, 0, none⟩), .int .i64 k] w fun e w' => e = .returned (.tuple #[]) ∧ ∃ g', Nt w' b g' (2 ^ (k % 32) * N) ∧ Fr (fun i => i = b ∨ i = g) w w' ∧ (g' = g ∨ w.heap.size ≤ g') := by
  have HS : Hid _ := hS
  clear hS
  have HN : Hid _ := hN
  obtain ⟨ws, ⟨cap, T, hb, ho, hne⟩, h2, h3, h4⟩ := hN
  have hbc := cell_of_one hb
  have hcases : k < 32 ∨ (32 ≤ k ∧ ws.length ≤ 0) := by
    rcases h0 with h0 | h0
    · exact .inl h0
    · rcases Nat.lt_or_ge k 32 with h | h
      · exact .inl h
      · refine .inr ⟨h, ?_⟩
        rw [val_zero ws h3 (by omega)]; simp
  clear h0 h4 h3 h2 ho
  rcases hcases with hc | ⟨hc, hwl⟩
  all_goals
    by_cases hpart : k % 32 = 0
    · go_enter Try.func83, Try.ntmps83
      go_wp2
      go_end0
      exact ⟨rfl, g, by first | exact HN.out | (rw [hpart, Nat.pow_zero, Nat.one_mul]; exact HN.out), Fr.refl _ _, .inl rfl⟩
    · have hpp : 0 < k % 32 := by omega
      go_enter Try.func83, Try.ntmps83
      go_wp2_with fail
      rw [part_pow k]
      refine (timesPlus_nt b g _ (2 ^ (k % 32)) 0 _ HS.out (part_lt k) (Nat.two_pow_pos _) (by omega) HN.out).mono ?_
      rintro e w' ⟨rfl, g2, r1, r2, r3⟩
      go_wp2
      go_end0
      exact ⟨rfl, g2, by rw [Nat.add_zero] at r1; exact r1, r2, r3⟩

/-- 'shiftLeft': 2^k times as great. -/
theorem shiftLeft_nt (b g N k : Nat) (w : World) (hk : k ≤ 30000) (hN : Nt w b g N) (hS : Sm (2 ^ k * N)) :
    Calls Try.prog 83 #[.pointer (some ⟨b, 0, none⟩), .int .i64 k] w fun e w' => e = .returned (.tuple #[]) ∧ ∃ g', Nt w' b g' (2 ^ k * N) ∧ Fr (fun i => i = b ∨ i = g) w w' ∧ (g' = g ∨ w.heap.size ≤ g') := by
  have e1 : 2 ^ k = 2 ^ (k % 32) * 4294967296 ^ (k / 32) := by rw [pow32, ← Nat.pow_add]; congr 1; omega
  have hNle : N ≤ 2 ^ k * N := Nat.le_mul_of_pos_left _ (Nat.two_pow_pos _)
  by_cases hN0 : N = 0
  · subst hN0
    have := shift_part b g 0 k w hk hN (.inr rfl) (Sm.mono hS (by omega))
    simpa using this
  · by_cases hk32 : k < 32
    · have := shift_part b g N k w hk hN (.inl hk32) (Sm.mono hS hNle)
      rwa [Nat.mod_eq_of_lt hk32] at this
    · obtain ⟨ws, h1, h2, h3, h4⟩ := hN
      have hS2 : Sm (4294967296 ^ (k / 32) * val ws) := by
        refine Sm.mono hS ?_
        rw [e1, h4, Nat.mul_assoc]
        exact Nat.le_mul_of_pos_left _ (Nat.two_pow_pos _)
      have hl : ws.length ≤ 1000 := Sm.len (by rw [h4]; exact Sm.mono hS hNle) h3
      refine (shift_whole b g ws k w hl hk (by omega) (by rintro rfl; exact hN0 h4.symm) h1 h2 h3 hS2).mono ?_
      rintro e w' ⟨rfl, g', r1, r2, r3⟩
      refine ⟨rfl, g', ?_, r2, .inr r3⟩
      rw [← Nat.mul_assoc, ← e1, h4] at r1
      exact r1
end Go.Proofs.Ytmkkibaacclhnaa
