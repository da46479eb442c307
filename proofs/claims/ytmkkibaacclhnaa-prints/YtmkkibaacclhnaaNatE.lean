/-
  A step of the walk of the numbers, the part named NatE. No theorem of the row.
-/
import Derived.Test.YtmkkibaacclhnaaNatC
namespace Go.Proofs.Ytmkkibaacclhnaa
open Go.RowKit

set_option maxRecDepth 100000 in
set_option maxHeartbeats 400000 in
theorem cloneWords_any (g n cap : Nat) (ws : List Nat) (w : World) (hl : ws.length ≤ 1000) (h0 : ws ≠ []) (hn : ws.length = n) (ho : w.ownsRow 0 127 1 (.slice (some ⟨g, 0, none⟩) n cap) n (vs ws)) :
    Calls Try.prog 112 #[.slice (some ⟨g, 0, none⟩) n cap] w fun e w' => ∃ g' cap', e = .returned (.slice (some ⟨g', 0, none⟩) n cap') ∧ w.heap.size ≤ g' ∧ w'.ownsRow 0 127 1 (.slice (some ⟨g', 0, none⟩) n cap') n (vs ws) ∧ Fr (fun _ => False) w w' := by
  have hpos : 0 < n := by rw [← hn]; exact List.length_pos_iff.2 h0
  obtain ⟨i0, hi, hz0, hz1, hz2⟩ := info_parts Try.info127
  have hnil := fun wx => Lib.run_eql_slice_nil (P := Try.prog) wx 144 127 (some ⟨g, 0, none⟩) n cap 0 0 Try.underlying144
  have HN : Hid _ := hn
  have hvl : (vs ws).length = n * 1 := by rw [vs_length, hn]; omega
  clear hn
  have hnn : n ≤ 1000 := by have := HN.out; omega
  have hone : ∀ u ∈ vs ws, u.oneCell' = true := by intro u hu; simp [vs] at hu; obtain ⟨a, _, rfl⟩ := hu; rfl
  have he : (w.alloc (.cells #[] 127)).ownsRow 0 127 1 (.slice (some ⟨w.heap.size, 0, none⟩) 0 0) 0 [] := World.ownsRow_lit w (size := 1) #[] 0 (Nat.zero_le _) (by decide) rfl
  go_enter Try.func112, Try.ntmps112
  go_wp2_with (at_builtin; refine wpList_append_d _ rfl _ _ 144 rfl 127 i0 (.int .u32 0) 1 4 Try.underlying144 hi hz0 hz1 hz2 rfl (by decide) _ _ _ rfl he ⟨g, 0, none⟩ n cap (vs ws) rfl hvl ?c1 hone ?c3 ?c4 ?_)
  case c1 => exact (ho.alloc _).cells (g := g) rfl
  case c3 => unfold maxLen; omega
  case c4 => omega
  intro v' w1 hown' hgrow hwhere
  obtain ⟨n', rfl⟩ : ∃ n', n = n' + 1 := ⟨n - 1, by omega⟩
  obtain ⟨g', cap', rfl⟩ := row_succ hown'
  have hw2 := hwhere g' rfl
  clear hwhere
  go_wp2
  go_ret
  refine ⟨g', cap', rfl, ?_, hown', ((Fr.refl _ w).alloc _).grown hgrow (fun k hk => .inr ?_)⟩
  · rcases hw2 with h | h
    · simp [Value.ownBlock] at h; omega
    · omega
  · simp [Value.ownBlock] at hk; omega

set_option maxHeartbeats 400000 in
/-- 'clone' of a number that is not 0: a new one. -/
theorem clone_nt (b g N : Nat) (w : World) (hS : Sm N) (h0 : N ≠ 0) (hN : Nt w b g N) :
    Calls Try.prog 86 #[.pointer (some ⟨b, 0, none⟩)] w fun e w' => ∃ b' g', e = .returned (.pointer (some ⟨b', 0, none⟩)) ∧ Nt w' b' g' N ∧ Fr (fun _ => False) w w' ∧ w.heap.size ≤ b' ∧ w.heap.size ≤ g' := by
  obtain ⟨ws, ⟨cap, T, hb, ho, hne⟩, h2, h3, rfl⟩ := hN
  have hl := hS.len h3
  clear hS
  have hw0 : ws ≠ [] := by rintro rfl; exact h0 rfl
  have hbc := cell_of_one hb
  go_enter Try.func86, Try.ntmps86
  go_wp2_with (go_at_call 112; refine (cloneWords_any g _ cap ws _ hl hw0 rfl ho).mono ?_; rintro e w' ⟨g', cap', rfl, r1, r2, r3⟩)
  go_ret
  refine ⟨_, g', rfl, ⟨ws, ⟨cap', 146, heap_alloc_new _ _, r2.alloc _, ?_⟩, h2, h3, rfl⟩, r3.alloc _, ?_, r1⟩
  · have := ownsRow_lt r2; omega
  · have := r3.size; omega

def p10 (m : Nat) : Nat := 10 ^ m
theorem p10_succ (m : Nat) : p10 (m + 1) = p10 m * 10 := Nat.pow_succ ..
theorem p10_pos (m : Nat) : 0 < p10 m := Nat.pow_pos (by omega)
theorem p10_le (m n : Nat) (h : m ≤ n) : p10 m ≤ p10 n := Nat.pow_le_pow_right (by omega) h
theorem p10_add (m n : Nat) : p10 (m + n) = p10 m * p10 n := Nat.pow_add ..
theorem Sm.mono {a b : Nat} (h : Sm b) (hl : a ≤ b) : Sm a := Nat.lt_of_le_of_lt hl h

set_option maxHeartbeats 1000000 in
theorem timesPowerOfTen_nt (b g N k : Nat) (w : World) (hS : Sm (N * p10 k)) (hN : Nt w b g N) (hk : k ≤ 100000) :
    Calls Try.prog 101 #[.pointer (some ⟨b, 0, none⟩), .int .i64 k] w fun e w' => e = .returned (.tuple #[]) ∧ ∃ g', Nt w' b g' (N * p10 k) ∧ Fr (fun i => i = b ∨ i = g) w w' ∧ (g' = g ∨ w.heap.size ≤ g') := by
  have HS : Hid _ := hS
  clear hS
  go_enter Try.func101, Try.ntmps101
  go_wp2
  go_loopw [1, 4] (fun p _ wr => ∃ (q : Int) (j g' : Nat), p = .int .i64 q ∧ q ≤ 100000 ∧ -9 < q ∧ Hid (j + q.toNat = k) ∧ Nt wr b g' (N * p10 j) ∧ Fr (fun i => i = b ∨ i = g) w wr ∧ (g' = g ∨ w.heap.size ≤ g')) (fun p _ _ => (intOf p).toNat)
  case atStart => exact ⟨k, 0, g, rfl, by omega, by omega, by simp [Hid], by simpa [p10] using hN, Fr.refl _ _, .inl rfl⟩
  case round =>
    obtain ⟨q, j, g', rfl, hq, hq0, hE, hNt, hF, hg⟩ := hrel
    have hbl := hNt.lt
    have HN : Hid _ := hNt
    have HF : Hid _ := hF
    clear hNt hF
    by_cases hpos : 0 < q
    · go_wp2
      go_loop [4, 9] (fun f i => ∃ m : Nat, (m : Int) ≤ min q 9 ∧ i = .int .i64 m ∧ f = .int .u32 (p10 m : Nat)) (fun _ i => 9 - (intOf i).toNat)
      case atStart => exact ⟨0, by omega, rfl, rfl⟩
      case round =>
        obtain ⟨m, hm, rfl, rfl⟩ := hrel
        by_cases hlt : (m : Int) < min q 9
        · have hp := p10_le m 8 (by omega)
          have h8 : p10 8 = 100000000 := rfl
          rw [h8] at hp
          have hs : Hid (p10 (m + 1) = p10 m * 10) := p10_succ m
          go_wp2
          go_round
          case rel => exact ⟨m + 1, by omega, by go_num, by rw [hs.out]; go_num⟩
          case measure => simp [intOf]; omega
        · have hp := p10_le m 9 (by omega)
          have h9 : p10 9 = 1000000000 := rfl
          rw [h9] at hp
          have hpp := p10_pos m
          have hjk : j + m ≤ k := by have := hE.out; omega
          have hsm : Hid (Sm (N * p10 j)) := Sm.mono (b := N * p10 k) HS.out (Nat.mul_le_mul_left _ (p10_le _ _ (by omega)))
          have hke : Hid ((j + m) + (q - 9).toNat = k) := by have := hE.out; show _ = _; omega
          go_wp2_with (go_at_call 91; refine (timesPlus_nt b g' _ (p10 m) 0 _ hsm.out (by omega) hpp (by omega) HN.out).mono ?_; rintro e w' ⟨rfl, g2, r1, r2, r3⟩)
          go_roundw
          case rel =>
            refine ⟨q - 9, j + m, g2, by go_num, by omega, by omega, hke, ?_, HF.out.trans' r2 ?_, ?_⟩
            · rw [Nat.add_zero] at r1
              rw [p10_add, ← Nat.mul_assoc, Nat.mul_comm _ (p10 m)]
              exact r1
            · rintro i (hi | hi)
              · exact .inl (.inl hi)
              · rcases hg with hg | hg
                · exact .inl (.inr (by omega))
                · exact .inr (by omega)
            · have := HF.out.size
              omega
          case measure => simp [intOf]; omega
    · go_wp2
      go_end0
      have hE' := hE.out
      have e0 : q.toNat = 0 := by omega
      rw [e0, Nat.add_zero] at hE'
      exact ⟨rfl, g', by rw [← hE']; exact HN.out, HF.out, hg⟩
end Go.Proofs.Ytmkkibaacclhnaa
