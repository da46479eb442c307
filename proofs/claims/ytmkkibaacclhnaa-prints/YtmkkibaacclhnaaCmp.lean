/-
  A step of the walk of the numbers, the part named Cmp. No theorem of the row.
-/
import Derived.Test.YtmkkibaacclhnaaSrchB
namespace Go.Proofs.Ytmkkibaacclhnaa
open Go.RowKit

/-- what 'compare' answers -/
def cmpI (ws ms : List Nat) : Int := if ws.length = ms.length then (if val ws < val ms then -1 else if val ms < val ws then 1 else 0) else (ws.length : Int) - ms.length

set_option maxHeartbeats 1000000 in
theorem compare_fn (b g c h : Nat) (ws ms : List Nat) (w : World) (hl : ws.length ≤ 1000000) (hl2 : ms.length ≤ 1000000) (hws : Limbs ws) (hms : Limbs ms) (_htw : Top ws) (_htm : Top ms) (hN : IsNat w b g ws) (hM : IsNat w c h ms) :
    Calls Try.prog 89 #[.pointer (some ⟨b, 0, none⟩), .pointer (some ⟨c, 0, none⟩)] w fun e w' => e = .returned (.int .i64 (cmpI ws ms)) ∧ ∃ m, w' = w.drewN m := by
  obtain ⟨cap, T, hb, ho, hne⟩ := hN
  obtain ⟨cap2, T2, hb2, ho2, hne2⟩ := hM
  have hbc := cell_of_one hb
  have hbc2 := cell_of_one hb2
  by_cases hle : ws.length = ms.length
  · have hd : ((ws.length : Int) != (ms.length : Int)) = false := by simp; omega
    have hle1 : ws.length ≤ ms.length := by omega
    have hle2 : ms.length ≤ ws.length := by omega
    have HL : Hid (ws.length = ms.length) := hle
    clear hle
    go_enter Try.func89, Try.ntmps89
    go_wp2_with fail; go_quiet (fail)
    go_wp2
    go_loopw [5] (fun i wr => ∃ k : Nat, k ≤ ws.length ∧ i = .int .i64 ((k : Int) - 1) ∧ Hid (ws.drop k = ms.drop k) ∧ ∃ m, wr = w.drewN m) (fun i _ => (intOf i + 1).toNat)
    case atStart => exact ⟨ws.length, Nat.le_refl _, rfl, by simp [Hid]; exact (by rw [HL.out]; simp), _, rfl⟩
    case round =>
      obtain ⟨k, hk, rfl, hE, m, rfl⟩ := hrel
      rcases Nat.eq_zero_or_pos k with rfl | hk0
      · go_wp2
        go_ret
        have : ws = ms := by simpa [Hid] using hE
        exact ⟨by rw [show cmpI ws ms = 0 from by unfold cmpI; rw [this]; simp]; rfl, by first | exact ⟨_, rfl⟩ | (simp only [World.drewN_drewN]; exact ⟨_, rfl⟩)⟩
      · obtain ⟨j, rfl⟩ : ∃ j, k = j + 1 := ⟨k - 1, by omega⟩
        have hcx := nat_cell ho j (by omega)
        have hcy := nat_cell ho2 j (by omega)
        have hbd1 : j < ws.length := by omega
        have hbd2 : j < ms.length := by omega
        have hc1 := ownsRow_cap ho
        have hc2 := ownsRow_cap ho2
        rcases Nat.lt_trichotomy ws[j] ms[j] with hx | hx | hx
        · go_wp2_with fail; go_quiet (fail)
          go_wp2
          go_ret
          have := lt_of_word ws ms hws HL.out j hbd1 hE.out hx
          exact ⟨by rw [show cmpI ws ms = -1 from by unfold cmpI; rw [if_pos HL.out, if_pos this]]; rfl, by first | exact ⟨_, rfl⟩ | (simp only [World.drewN_drewN]; exact ⟨_, rfl⟩)⟩
        · have hn1 : ms[j] ≤ ws[j] := by omega
          have hn2 : ws[j] ≤ ms[j] := by omega
          have HX : Hid _ := hx
          clear hx
          go_wp2_with fail; go_quiet (fail)
          go_wp2_with fail; go_quiet (fail)
          go_wp2
          go_roundw
          case rel => exact ⟨j, by omega, by go_num, by show _ = _; rw [List.drop_eq_getElem_cons hbd1, List.drop_eq_getElem_cons hbd2, HX.out, hE.out], by first | exact ⟨_, rfl⟩ | (simp only [World.drewN_drewN]; exact ⟨_, rfl⟩)⟩
          case measure => simp [intOf] <;> omega
        · go_wp2_with fail; go_quiet (fail)
          go_wp2_with fail; go_quiet (fail)
          go_wp2
          go_ret
          have := lt_of_word ms ws hms HL.out.symm j hbd2 hE.out.symm hx
          exact ⟨by rw [show cmpI ws ms = 1 from by unfold cmpI; rw [if_pos HL.out, if_neg (by omega), if_pos this]]; rfl, by first | exact ⟨_, rfl⟩ | (simp only [World.drewN_drewN]; exact ⟨_, rfl⟩)⟩
  · have hd : ((ws.length : Int) != (ms.length : Int)) = true := by simp; omega
    go_enter Try.func89, Try.ntmps89
    go_wp2_with fail; go_quiet (fail)
    go_wp2_with fail; go_quiet (fail)
    go_wp2
    go_ret
    exact ⟨by rw [show cmpI ws ms = (ws.length : Int) - ms.length from if_neg hle]; rfl, by first | exact ⟨_, rfl⟩ | (simp only [World.drewN_drewN]; exact ⟨_, rfl⟩)⟩


theorem compare_q {S A : Nat → Prop} {w0 w : World} {l l2 : List (Nat × Nat)} (b N c M : Nat) (hS : Sm N) (hS2 : Sm M) (h : Sx S A w0 w ((b, N) :: l)) (h2 : Sx S A w0 w ((c, M) :: l2)) :
    ∃ r : Int, (r < 0 ↔ N < M) ∧ (r = 0 ↔ N = M) ∧ -1000000 ≤ r ∧ r ≤ 1000000 ∧ ∀ n, Calls Try.prog 89 #[.pointer (some ⟨b, 0, none⟩), .pointer (some ⟨c, 0, none⟩)] (w.drewN n) fun e w' => e = .returned (.int .i64 r) ∧ ∃ m, w' = (w.drewN n).drewN m := by
  obtain ⟨g, ws, h1, h2', h3, rfl⟩ := h.head
  obtain ⟨g2, ms, k1, k2, k3, rfl⟩ := h2.head
  have a := hS.len h3
  have a2 := hS2.len k3
  clear hS hS2
  refine ⟨cmpI ws ms, ?_, ?_, ?_, ?_, fun n => compare_fn b g c g2 ws ms (w.drewN n) (by omega) (by omega) h2' k2 h3 k3 (h1.drewN n) (k1.drewN n)⟩
  · unfold cmpI
    by_cases hl : ws.length = ms.length
    · rw [if_pos hl]
      split
      · omega
      · split <;> omega
    · rw [if_neg hl]
      rcases Nat.lt_or_gt_of_ne hl with hx | hx
      · have := lt_of_len ws ms h2' k3 hx; omega
      · have := lt_of_len ms ws k2 h3 hx; omega
  · unfold cmpI
    by_cases hl : ws.length = ms.length
    · rw [if_pos hl]
      split
      · omega
      · split <;> omega
    · rw [if_neg hl]
      rcases Nat.lt_or_gt_of_ne hl with hx | hx
      · have := lt_of_len ws ms h2' k3 hx; omega
      · have := lt_of_len ms ws k2 h3 hx; omega
  · unfold cmpI; split
    · split
      · omega
      · split <;> omega
    · omega
  · unfold cmpI; split
    · split
      · omega
      · split <;> omega
    · omega
end Go.Proofs.Ytmkkibaacclhnaa
