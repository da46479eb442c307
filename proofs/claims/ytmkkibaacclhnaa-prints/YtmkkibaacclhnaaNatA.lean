/-
  A step of the walk of the numbers, the part named NatA. No theorem of the row.
-/
import Derived.Test.YtmkkibaacclhnaaBase
namespace Go.Proofs.Ytmkkibaacclhnaa
open Go.RowKit

theorem mul_wrap (x f y : Nat) (hx : x < 4294967296) (hf : f < 4294967296) (hy : y < 4294967296) : IntKind.u64.wrap ((y : Int) + IntKind.u64.wrap ((x : Int) * (f : Int))) = ((y + x * f : Nat) : Int) := by
  have : x * f ≤ 4294967295 * 4294967295 := Nat.mul_le_mul (by omega) (by omega)
  have h2 : ((x * f : Nat) : Int) = (x : Int) * (f : Int) := Int.natCast_mul x f
  rw [← h2, IntWalk.u64_in ((x * f : Nat) : Int) (by omega), IntWalk.u64_in _ (by omega)]; omega

theorem tp_val (os ws : List Nat) (f c y k : Nat) (hk : k < ws.length) (ho : os.length = k) (h : val os + 4294967296 ^ k * y = f * val (ws.take k) + c) :
    val (os ++ [(y + ws[k] * f) % 4294967296]) + 4294967296 ^ (k + 1) * ((y + ws[k] * f) / 4294967296) = f * val (ws.take (k + 1)) + c := by
  have h1 : ws.take (k + 1) = ws.take k ++ [ws[k]] := by rw [List.take_succ_eq_append_getElem hk]
  rw [h1, val_snoc, val_snoc, ho, List.length_take_of_le (by omega), Nat.pow_succ, Nat.mul_assoc, Nat.add_assoc, ← Nat.mul_add, Nat.mod_add_div, Nat.mul_add, Nat.mul_add]
  rw [← Nat.mul_assoc f, Nat.mul_comm f (4294967296 ^ k), Nat.mul_assoc, Nat.mul_comm f ws[k]]
  omega

theorem tp_step {w wr : World} {b g cap T : Nat} {ws os : List Nat} {f c y k : Nat} (hws : Limbs ws) (hk : k < ws.length) (hos : os.length = k) (hlo : Limbs os) (hy : y < 4294967296) (hf : f < 4294967296)
    (hE : val os + 4294967296 ^ k * y = f * val (ws.take k) + c) (hb : wr.heap[b]? = some (.cells #[.slice (some ⟨g, 0, none⟩) ws.length cap] T (0, 0)))
    (ho : wr.ownsRow 0 127 1 (.slice (some ⟨g, 0, none⟩) ws.length cap) ws.length (vs (os ++ ws.drop k))) (hF : Fr (fun i => i = b ∨ i = g) w wr) (hne : b ≠ g) :
    ∃ (os' : List Nat) (y' : Nat), os'.length = k + 1 ∧ Limbs os' ∧ y' < 4294967296 ∧ Hid (val os' + 4294967296 ^ (k + 1) * y' = f * val (ws.take (k + 1)) + c) ∧ (((y + ws[k] * f : Nat) : Int) / 4294967296 = (y' : Int)) ∧
      (wr.setCell ⟨g, k, none⟩ (.int .u32 (((y + ws[k] * f : Nat) : Int) % 4294967296))).heap[b]? = some (.cells #[.slice (some ⟨g, 0, none⟩) ws.length cap] T (0, 0)) ∧
      (wr.setCell ⟨g, k, none⟩ (.int .u32 (((y + ws[k] * f : Nat) : Int) % 4294967296))).ownsRow 0 127 1 (.slice (some ⟨g, 0, none⟩) ws.length cap) ws.length (vs (os' ++ ws.drop (k + 1))) ∧
      Fr (fun i => i = b ∨ i = g) w (wr.setCell ⟨g, k, none⟩ (.int .u32 (((y + ws[k] * f : Nat) : Int) % 4294967296))) := by
  have hx : ws[k] < 4294967296 := hws _ (List.getElem_mem hk)
  have hm : ws[k] * f ≤ 4294967295 * 4294967295 := Nat.mul_le_mul (by omega) (by omega)
  refine ⟨os ++ [(y + ws[k] * f) % 4294967296], (y + ws[k] * f) / 4294967296, by simp [hos], ?_, by omega, tp_val os ws f c y k hk hos hE, by omega, ?_, ?_, hF.setCell (.inl (.inr rfl)) _⟩
  · intro x hx; rw [List.mem_append] at hx; rcases hx with hx | hx
    · exact hlo x hx
    · simp at hx; omega
  · rw [Below.heap_setCell _ _ _ _ (by simpa using hne)]; exact hb
  · have := (ho.stored k (.int .u32 (((y + ws[k] * f : Nat) : Int) % 4294967296))).1
    have e : (vs (os ++ ws.drop k)).set k (.int .u32 (((y + ws[k] * f : Nat) : Int) % 4294967296)) = vs (os ++ [(y + ws[k] * f) % 4294967296] ++ ws.drop (k + 1)) := by
      rw [List.drop_eq_getElem_cons hk, vs, vs]
      simp only [List.map_append, List.map_cons, List.append_assoc, List.cons_append, List.nil_append]
      rw [List.set_append_right _ _ (by simp [hos]), List.length_map, hos, Nat.sub_self, List.set_cons_zero]
      congr 3
    rwa [e] at this

set_option maxHeartbeats 400000 in
theorem timesPlus_any (b g : Nat) (ws : List Nat) (f c : Nat) (w : World) (hl : ws.length ≤ 1000000) (hf : f < 4294967296) (hc : c < 4294967296) (hws : Limbs ws) (hN : IsNat w b g ws) :
    Calls Try.prog 91 #[.pointer (some ⟨b, 0, none⟩), .int .u32 f, .int .u32 c] w fun e w' => e = .returned (.tuple #[]) ∧ ∃ g' os y, IsNat w' b g' (if y = 0 then os else os ++ [y]) ∧ os.length = ws.length ∧ Limbs os ∧ y < 4294967296 ∧ val os + 4294967296 ^ ws.length * y = f * val ws + c ∧ Fr (fun i => i = b ∨ i = g) w w' ∧ (g' = g ∨ w.heap.size ≤ g') := by
  obtain ⟨cap, T, hb, ho, hne⟩ := hN
  have hbc := cell_of_one hb
  go_enter Try.func91, Try.ntmps91
  go_wp2
  go_loopw [6, 16] (fun cy i wr => ∃ (k : Nat) (os : List Nat) (y : Nat), k ≤ ws.length ∧ os.length = k ∧ Limbs os ∧ y < 4294967296 ∧ Hid (val os + 4294967296 ^ k * y = f * val (ws.take k) + c) ∧ cy = .int .u64 y ∧ i = .int .i64 k ∧
      wr.heap[b]? = some (.cells #[.slice (some ⟨g, 0, none⟩) ws.length cap] T (0, 0)) ∧ wr.ownsRow 0 127 1 (.slice (some ⟨g, 0, none⟩) ws.length cap) ws.length (vs (os ++ ws.drop k)) ∧ Fr (fun i => i = b ∨ i = g) w wr)
    (fun _ i _ => ws.length - (intOf i).toNat)
  case atStart => exact ⟨0, [], c, Nat.zero_le _, rfl, (by intro x hx; cases hx), hc, (by simp [Hid, val]), rfl, rfl, hb, (by simpa using ho), Fr.refl _ _⟩
  case round =>
    obtain ⟨k, os, y, hk, hos, hlo, hy, hE, rfl, rfl, hb1, ho1, hF⟩ := hrel
    have hbc1 := cell_of_one hb1
    by_cases hlt : k < ws.length
    · have hx : ws[k] < 4294967296 := hws _ (List.getElem_mem hlt)
      have hcx : wr.cell? ⟨g, k, none⟩ = some (.int .u32 (ws[k] : Nat)) := by
        rw [ho1.cellAt k (by omega), vs, List.getElem?_map, List.getElem?_append_right (by omega), hos, Nat.sub_self, List.getElem?_drop, Nat.add_zero, List.getElem?_eq_getElem hlt]; rfl
      have hfx := ho1.frozenAt k
      obtain ⟨os', y', r1, r2, r3, r4, r5, r6, r7, r8⟩ := tp_step hws hlt hos hlo hy hf hE.out hb1 ho1 hF hne
      have R5 : Hid _ := r5
      have R6 : Hid _ := r6
      have R7 : Hid _ := r7
      have R8 : Hid _ := r8
      clear r5 r6 r7 r8 ho1 hF hE
      go_wp2
      go_roundw
      case rel =>
        rw [mul_wrap _ _ _ hx hf hy]
        exact ⟨k + 1, os', y', hlt, r1, r2, r3, r4, by rw [R5.out], by go_num, R6.out, R7.out, R8.out⟩
      case measure => simp [intOf]; omega
    · have hkk : k = ws.length := by omega
      have HE : Hid _ := hE
      subst hkk
      simp only [List.drop_length, List.append_nil] at ho1
      rw [List.take_length] at HE
      by_cases hy0 : y = 0
      · subst hy0
        go_wp2
        go_end0
        exact ⟨rfl, g, os, 0, ⟨cap, T, by rw [if_pos rfl, hos]; exact hb1, by rw [if_pos rfl, hos]; exact ho1, hne⟩, hos, hlo, by omega, HE.out, hF, .inl rfl⟩
      · have hyn : ((y : Int) != 0) = true := by simp; omega
        obtain ⟨i0, hi, hz0, hz1, hz2⟩ := info_parts Try.info127
        go_wp2_with (first
          | (at_builtin; refine wpList_append_d _ rfl _ _ 144 rfl 127 i0 (.int .u32 0) 1 4 Try.underlying144 hi hz0 hz1 hz2 rfl (by decide) _ _ _ rfl (ho1.alloc _) ⟨wr.heap.size, 0, none⟩ 1 1 [.int .u32 y] rfl rfl ?c1 ?c2 ?c3 ?c4 ?_)
          | go_in)
        case c1 => exact cell_one_new _ _ _
        case c2 => intro u hu; simp at hu; subst hu; rfl
        case c3 => unfold maxLen; omega
        case c4 => omega
        intro v' w1 hown' hgrow hwhere
        obtain ⟨g', cap', rfl⟩ := row_succ hown'
        have hw2 := hwhere g' rfl
        clear hwhere
        have hgz : w1.heap[b]? = some (.cells #[.slice (some ⟨g, 0, none⟩) ws.length cap] T (0, 0)) := by
          rw [hgrow.block b (by have := lt_of_block hb1; simp; omega) (by simpa [Value.ownBlock] using hne), Below.heap_alloc _ _ _ (lt_of_block hb1)]; exact hb1
        have hbc2 := cell_of_one hgz
        have hfz2 := free_of_one hgz
        go_wp2
        go_end0
        have hbg' : b ≠ g' := by
          rcases hw2 with h | h
          · simp [Value.ownBlock] at h; rw [← h]; exact hne
          · have := lt_of_block hb1; omega
        refine ⟨rfl, g', os, y, ?_, hos, hlo, hy, HE.out, ((hF.alloc _).grown hgrow (fun k hk => .inl (.inr (by simpa [Value.ownBlock] using hk.symm)))).setCell (.inl (.inl rfl)) _, ?_⟩
        · rw [if_neg hy0]
          have hle : (os ++ [y]).length = ws.length + 1 := by simp [hos]
          have := IsNat.put (ws := os ++ [y]) (cap := cap') hgz (by rw [hle, vs_append]; exact hown') hbg'
          rwa [hle] at this
        · rcases hw2 with h | h
          · simp [Value.ownBlock] at h; exact .inl h.symm
          · have := hF.size; exact .inr (by omega)

/-- 'timesPlus': factor times as great, and more by plus. -/
theorem timesPlus_nt (b g N f c : Nat) (w : World) (hS : Sm N) (hf : f < 4294967296) (hf0 : 0 < f) (hc : c < 4294967296) (hN : Nt w b g N) :
    Calls Try.prog 91 #[.pointer (some ⟨b, 0, none⟩), .int .u32 f, .int .u32 c] w fun e w' => e = .returned (.tuple #[]) ∧ ∃ g', Nt w' b g' (f * N + c) ∧ Fr (fun i => i = b ∨ i = g) w w' ∧ (g' = g ∨ w.heap.size ≤ g') := by
  obtain ⟨ws, h1, h2, h3, rfl⟩ := hN
  have hl := hS.len h3
  refine (timesPlus_any b g ws f c w (by omega) hf hc h2 h1).mono ?_
  rintro e w' ⟨rfl, g', os, y, r1, r2, r3, r4, r5, r6, r7⟩
  refine ⟨rfl, g', ⟨_, r1, ?_, ?_, ?_⟩, r6, r7⟩
  · by_cases hy : y = 0
    · rw [if_pos hy]; exact r3
    · rw [if_neg hy]; exact r3.append (Limbs.one r4)
  · by_cases hy : y = 0
    · rw [if_pos hy]
      subst hy
      refine top_of_ge os r3 ?_
      by_cases hw : ws = []
      · left; subst hw; exact List.eq_nil_of_length_eq_zero (by simpa using r2)
      · right
        have := ge_of_top ws h3 hw
        rw [r2]
        have h4 : val ws ≤ f * val ws := Nat.le_mul_of_pos_left _ hf0
        omega
    · rw [if_neg hy]; simp [Top, hy]
  · by_cases hy : y = 0
    · rw [if_pos hy]; subst hy; omega
    · rw [if_neg hy, val_snoc, r2]; exact r5

end Go.Proofs.Ytmkkibaacclhnaa
