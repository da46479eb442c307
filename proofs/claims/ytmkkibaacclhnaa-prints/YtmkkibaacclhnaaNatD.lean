/-
  A step of the walk of the numbers, the part named NatD. No theorem of the row.
-/
import Derived.Test.YtmkkibaacclhnaaNatC
namespace Go.Proofs.Ytmkkibaacclhnaa
open Go.RowKit

theorem bo_le (x y c : Nat) : bo x y c ≤ 1 := by unfold bo; split <;> omega
theorem bo_eq (x m y : Nat) (hx : x < 4294967296) (hm : m < 4294967296) (hy : y ≤ 1) : x + 4294967296 * bo x m y = (x + 8589934592 - m - y) % 4294967296 + m + y := by
  unfold bo; split <;> omega

theorem take_val (ws : List Nat) (k : Nat) : val (ws.take (k + 1)) = val (ws.take k) + 4294967296 ^ k * (ws[k]?.getD 0) := by
  by_cases h : k < ws.length
  · rw [List.take_succ_eq_append_getElem h, val_snoc, List.length_take_of_le (by omega), List.getElem?_eq_getElem h]; rfl
  · rw [List.take_of_length_le (by omega), List.take_of_length_le (by omega), List.getElem?_eq_none (by omega)]; simp

theorem sub_val (ws ms os : List Nat) (k x m y : Nat) (hk : k < ws.length) (hx : ws[k] = x) (hm : ms[k]?.getD 0 = m) (hx2 : x < 4294967296) (hm2 : m < 4294967296) (hy : y ≤ 1) (ho : os.length = k) (h : val (ws.take k) + 4294967296 ^ k * y = val os + val (ms.take k)) :
    val (ws.take (k + 1)) + 4294967296 ^ (k + 1) * bo x m y = val (os ++ [(x + 8589934592 - m - y) % 4294967296]) + val (ms.take (k + 1)) := by
  have hx' : ws[k]?.getD 0 = x := by rw [List.getElem?_eq_getElem hk, Option.getD_some, hx]
  rw [take_val, take_val, val_snoc, ho, hm, hx']
  have e := bo_eq x m y hx2 hm2 hy
  generalize (x + 8589934592 - m - y) % 4294967296 = d at *
  have e2 := congrArg (fun t => 4294967296 ^ k * t) e
  simp only [Nat.mul_add] at e2
  rw [Nat.pow_succ, Nat.mul_assoc]
  omega

theorem sub_step {w wr : World} {b g cap T : Nat} {ws ms os : List Nat} {y k x m : Nat} (hk : k < ws.length) (hx : ws[k] = x) (hm : ms[k]?.getD 0 = m) (hx2 : x < 4294967296) (hm2 : m < 4294967296) (hos : os.length = k) (hlo : Limbs os) (hy : y ≤ 1)
    (hE : val (ws.take k) + 4294967296 ^ k * y = val os + val (ms.take k)) (hb : wr.heap[b]? = some (.cells #[.slice (some ⟨g, 0, none⟩) ws.length cap] T (0, 0)))
    (ho : wr.ownsRow 0 127 1 (.slice (some ⟨g, 0, none⟩) ws.length cap) ws.length (vs (os ++ ws.drop k))) (hF : Fr (fun i => i = b ∨ i = g) w wr) (hne : b ≠ g) :
    ∃ (os' : List Nat), os'.length = k + 1 ∧ Limbs os' ∧ val (ws.take (k + 1)) + 4294967296 ^ (k + 1) * bo x m y = val os' + val (ms.take (k + 1)) ∧
      (wr.setCell ⟨g, k, none⟩ (.int .u32 (((x + 8589934592 - m - y : Nat) : Int) % 4294967296))).heap[b]? = some (.cells #[.slice (some ⟨g, 0, none⟩) ws.length cap] T (0, 0)) ∧
      (wr.setCell ⟨g, k, none⟩ (.int .u32 (((x + 8589934592 - m - y : Nat) : Int) % 4294967296))).ownsRow 0 127 1 (.slice (some ⟨g, 0, none⟩) ws.length cap) ws.length (vs (os' ++ ws.drop (k + 1))) ∧
      Fr (fun i => i = b ∨ i = g) w (wr.setCell ⟨g, k, none⟩ (.int .u32 (((x + 8589934592 - m - y : Nat) : Int) % 4294967296))) := by
  refine ⟨os ++ [(x + 8589934592 - m - y) % 4294967296], by simp [hos], hlo.append (Limbs.one (by omega)), sub_val ws ms os k x m y hk hx hm hx2 hm2 hy hos hE, ?_, ?_, hF.setCell (.inl (.inr rfl)) _⟩
  · rw [Below.heap_setCell _ _ _ _ (by simpa using hne)]; exact hb
  · have := (ho.stored k (.int .u32 (((x + 8589934592 - m - y : Nat) : Int) % 4294967296))).1
    have e : (vs (os ++ ws.drop k)).set k (.int .u32 (((x + 8589934592 - m - y : Nat) : Int) % 4294967296)) = vs (os ++ [(x + 8589934592 - m - y) % 4294967296] ++ ws.drop (k + 1)) := by
      rw [List.drop_eq_getElem_cons hk, vs, vs]
      simp only [List.map_append, List.map_cons, List.append_assoc, List.cons_append, List.nil_append]
      rw [List.set_append_right _ _ (by simp [hos]), List.length_map, hos, Nat.sub_self, List.set_cons_zero]
      rfl
    rwa [e] at this

set_option maxHeartbeats 1000000 in
theorem subtract_any (b g c h : Nat) (ws ms : List Nat) (w : World) (hl : ws.length ≤ 1000) (_hl2 : ms.length ≤ 1000) (hws : Limbs ws) (hms : Limbs ms) (hge : val ms ≤ val ws) (hlen : ms.length ≤ ws.length) (hN : IsNat w b g ws) (hM : IsNat w c h ms) (n1 : c ≠ b) (n2 : c ≠ g) (n3 : h ≠ b) (n4 : h ≠ g) :
    Calls Try.prog 87 #[.pointer (some ⟨b, 0, none⟩), .pointer (some ⟨c, 0, none⟩)] w fun e w' => e = .returned (.tuple #[]) ∧ Nt w' b g (val ws - val ms) ∧ Fr (fun i => i = b ∨ i = g) w w' := by
  obtain ⟨cap, T, hb, ho, hne⟩ := hN
  have hM0 := hM
  obtain ⟨cap2, T2, hb2, ho2, hne2⟩ := hM
  have hbc := cell_of_one hb
  have hcap2 := ownsRow_cap ho2
  have hcap := ownsRow_cap ho
  go_enter Try.func87, Try.ntmps87
  go_wp2
  go_loopw [4, 12] (fun cy i wr => ∃ (k : Nat) (os : List Nat) (y : Nat), k ≤ ws.length ∧ os.length = k ∧ Limbs os ∧ y ≤ 1 ∧ Hid (val (ws.take k) + 4294967296 ^ k * y = val os + val (ms.take k)) ∧ cy = .int .u32 y ∧ i = .int .i64 k ∧
      wr.heap[b]? = some (.cells #[.slice (some ⟨g, 0, none⟩) ws.length cap] T (0, 0)) ∧ wr.ownsRow 0 127 1 (.slice (some ⟨g, 0, none⟩) ws.length cap) ws.length (vs (os ++ ws.drop k)) ∧ Fr (fun i => i = b ∨ i = g) w wr)
    (fun _ i _ => ws.length - (intOf i).toNat)
  case atStart => exact ⟨0, [], 0, Nat.zero_le _, rfl, Limbs.nil, by omega, (by simp [Hid, val]), rfl, rfl, hb, (by simpa using ho), Fr.refl _ _⟩
  case round =>
    obtain ⟨k, os, y, hk, hos, hlo, hy, hE, rfl, rfl, hb1, ho1, hF⟩ := hrel
    have hbc1 := cell_of_one hb1
    by_cases hlt : k < ws.length
    · have hx : ws[k] < 4294967296 := hws _ (List.getElem_mem hlt)
      have hcx : wr.cell? ⟨g, k, none⟩ = some (.int .u32 (ws[k] : Nat)) := by
        rw [ho1.cellAt k (by omega), vs, List.getElem?_map, List.getElem?_append_right (by omega), hos, Nat.sub_self, List.getElem?_drop, Nat.add_zero, List.getElem?_eq_getElem hlt]; rfl
      have hfx := ho1.frozenAt k
      have hb2' := hF.heap hb2 (by omega)
      have hbc2 := cell_of_one hb2'
      have ho2' := ownsRow_heap rfl ho2 (hF.block h (ownsRow_lt ho2) (by omega))
      by_cases hlm : k < ms.length
      · have hm : ms[k] < 4294967296 := hms _ (List.getElem_mem hlm)
        have hcm := nat_cell ho2' k hlm
        obtain ⟨os', r1, r2, r3, r4, r5, r6⟩ := sub_step (ms := ms) (m := ms[k]) hlt rfl (by rw [List.getElem?_eq_getElem hlm]; rfl) hx hm hos hlo hy hE.out hb1 ho1 hF hne
        have R3 : Hid _ := r3
        have R4 : Hid _ := r4
        have R5 : Hid _ := r5
        have R6 : Hid _ := r6
        clear r3 r4 r5 r6 ho1 hF hE ho2' hb2'
        have hbl := bo_le ws[k] ms[k] y
        go_wp2_with fail
        go_region_with (go_at_call 113; refine (sub32_any _ _ _ _ hx hm hy).mono ?_; rintro e w' ⟨rfl, rfl⟩)
        all_goals go_wp2
        all_goals go_roundw
        all_goals first
          | exact ⟨k + 1, os', _, hlt, r1, r2, hbl, R3.out, rfl, by go_num, R4.out, R5.out, R6.out.drew⟩
          | (simp [intOf]; omega)
      · obtain ⟨os', r1, r2, r3, r4, r5, r6⟩ := sub_step (ms := ms) (m := 0) hlt rfl (by rw [List.getElem?_eq_none (by omega)]; rfl) hx (by omega) hos hlo hy hE.out hb1 ho1 hF hne
        have R3 : Hid _ := r3
        have R4 : Hid _ := r4
        have R5 : Hid _ := r5
        have R6 : Hid _ := r6
        clear r3 r4 r5 r6 ho1 hF hE ho2' hb2'
        have hbl := bo_le ws[k] 0 y
        go_wp2_with fail
        go_region_with (go_at_call 113; refine (sub32_any _ 0 _ _ hx (by omega) hy).mono ?_; rintro e w' ⟨rfl, rfl⟩)
        all_goals go_wp2
        all_goals go_roundw
        all_goals first
          | exact ⟨k + 1, os', _, hlt, r1, r2, hbl, R3.out, rfl, by go_num, R4.out, R5.out, R6.out.drew⟩
          | (simp [intOf]; omega)
    · have hkk : k = ws.length := by omega
      have HE : Hid _ := hE
      clear hE
      subst hkk
      simp only [List.drop_length, List.append_nil] at ho1
      rw [List.take_length, List.take_of_length_le hlen] at HE
      have hv : y = 0 ∧ val os = val ws - val ms := by
        have e := HE.out
        have a := val_lt os hlo
        rw [hos] at a
        rcases Nat.le_one_iff_eq_zero_or_eq_one.1 hy with rfl | rfl
        · exact ⟨rfl, by omega⟩
        · exfalso; rw [Nat.mul_one] at e; omega
      have HV : Hid _ := hv
      clear hv
      have hI : IsNat wr b g os := ⟨cap, T, by rw [hos]; exact hb1, by rw [hos]; exact ho1, hne⟩
      have HI : Hid _ := hI
      clear hI
      go_wp2_with (go_at_call 110; refine (trim_nt b g os _ (by omega) hlo HI.out).mono ?_; rintro e w' ⟨rfl, q1, q2⟩)
      go_end0
      exact ⟨rfl, by rw [← HV.out.2]; exact q1, hF.trans' q2 (fun i hi => .inl (.inl hi))⟩

/-- 'subtract': less by m. -/
theorem subtract_nt (b g c h N M : Nat) (w : World) (hS : Sm N) (hS2 : Sm M) (hge : M ≤ N) (hN : Nt w b g N) (hM : Nt w c h M) (n1 : c ≠ b) (n2 : c ≠ g) (n3 : h ≠ b) (n4 : h ≠ g) :
    Calls Try.prog 87 #[.pointer (some ⟨b, 0, none⟩), .pointer (some ⟨c, 0, none⟩)] w fun e w' => e = .returned (.tuple #[]) ∧ Nt w' b g (N - M) ∧ Fr (fun i => i = b ∨ i = g) w w' := by
  obtain ⟨ws, h1, h2, h3, rfl⟩ := hN
  obtain ⟨ms, k1, k2, k3, rfl⟩ := hM
  have a := hS.len h3
  have a2 := hS2.len k3
  clear hS hS2
  refine subtract_any b g c h ws ms w a a2 h2 k2 hge ?_ h1 k1 n1 n2 n3 n4
  rcases Nat.lt_or_ge ws.length ms.length with hx | hx
  · have := lt_of_len ws ms h2 k3 hx; omega
  · exact hx

end Go.Proofs.Ytmkkibaacclhnaa
