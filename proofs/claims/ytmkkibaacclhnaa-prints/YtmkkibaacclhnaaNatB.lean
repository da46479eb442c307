/-
  A step of the walk of the numbers, the part named NatB. No theorem of the row.
-/
import Derived.Test.YtmkkibaacclhnaaBase
import Derived.Deep.QuietTactic
import Derived.BigQuiet
import Derived.RegionTactic
namespace Go.Proofs.Ytmkkibaacclhnaa
open Go.RowKit

def natLen (w : World) (b : Nat) : Nat := match w.cell? ⟨b, 0, none⟩ with | some (.slice _ n _) => n | _ => 0
theorem natLen_of {w : World} {b n cap T : Nat} {a : Option Addr} (h : w.heap[b]? = some (.cells #[.slice a n cap] T (0, 0))) : natLen w b = n := by simp [natLen, cell_of_one h]

theorem ownsRow_cut {w : World} {g n cap : Nat} {xs : List Nat} {x : Nat} (h : w.ownsRow 0 127 1 (.slice (some ⟨g, 0, none⟩) (n + 1) cap) (n + 1) (vs (xs ++ [x]))) : w.ownsRow 0 127 1 (.slice (some ⟨g, 0, none⟩) n cap) n (vs xs) := by
  obtain ⟨h1, h2⟩ := h
  simp [vs] at h1
  refine ⟨by simp [vs, h1], ?_⟩
  rcases h2 with ⟨_, h2⟩ | ⟨g', cap', cur, hv, hg, hh, ha, hb, hc, hd⟩
  · omega
  · simp at hv; obtain ⟨rfl, rfl⟩ := hv
    refine .inr ⟨g, cap, cur, rfl, hg, hh, by omega, hb, hc, ?_⟩
    have := congrArg (List.take n) hd
    rw [List.take_take, Nat.min_eq_left (by omega), vs_append, List.take_append_of_le_length (by simp [vs, h1]), List.take_of_length_le (l := vs xs) (by simp [vs, h1])] at this
    simpa using this

set_option maxHeartbeats 400000 in
theorem trim_any (b g : Nat) (ws : List Nat) (w : World) (hl : ws.length ≤ 1000000) (hN : IsNat w b g ws) :
    Calls Try.prog 110 #[.pointer (some ⟨b, 0, none⟩)] w fun e w' => e = .returned (.tuple #[]) ∧ ∃ us, IsNat w' b g us ∧ (∃ k, ws = us ++ List.replicate k 0) ∧ Top us ∧ Fr (fun i => i = b) w w' := by
  obtain ⟨cap, T, hb, ho, hne⟩ := hN
  go_enter Try.func110, Try.ntmps110
  go_wp2
  go_loopw [] (fun wr => ∃ us : List Nat, (∃ k, ws = us ++ List.replicate k 0) ∧ wr.heap[b]? = some (.cells #[.slice (some ⟨g, 0, none⟩) us.length cap] T (0, 0)) ∧ wr.ownsRow 0 127 1 (.slice (some ⟨g, 0, none⟩) us.length cap) us.length (vs us) ∧ Fr (fun i => i = b) w wr)
    (fun wr => natLen wr b)
  case atStart => exact ⟨ws, ⟨0, by simp⟩, hb, ho, Fr.refl _ _⟩
  case round =>
    obtain ⟨us, ⟨k, hk⟩, hb1, ho1, hF⟩ := hrel
    have hbc := cell_of_one hb1
    have hbf := free_of_one hb1
    have hlen : us.length ≤ 1000000 := by have := congrArg List.length hk; simp at this; omega
    rcases List.eq_nil_or_concat us with rfl | ⟨xs, x, rfl⟩
    · have hd : decide ((0 : Int) < ((([] : List Nat).length : Nat) : Int)) = false := by simp
      simp only [List.length_nil] at *
      go_wp2_with fail; go_quiet (fail)
      go_wp2
      go_end0
      exact ⟨rfl, [], ⟨cap, T, hb1, ho1, hne⟩, ⟨k, hk⟩, by simp [Top], hF.drewN nq⟩
    · rw [List.concat_eq_append] at *
      simp only [List.length_append, List.length_cons, List.length_nil, Nat.zero_add] at hb1 ho1 hbc hlen
      have hcap := ownsRow_cap ho1
      have hd : (0 : Int) < ((xs.length + 1 : Nat) : Int) := by omega
      have hcx : wr.cell? ⟨g, xs.length, none⟩ = some (.int .u32 (x : Nat)) := by
        rw [ho1.cellAt xs.length (by omega), vs, List.getElem?_map]; simp
      by_cases hx : x = 0
      · subst hx
        go_wp2_with fail; go_quiet (fail)
        go_wp2
        go_region
        go_wp2
        have hs1 : ((wr.drewN (nq + 1)).setCell ⟨b, 0, none⟩ (.slice (some ⟨g, 0, none⟩) xs.length cap)).heap[b]? = some (.cells #[.slice (some ⟨g, 0, none⟩) xs.length cap] T (0, 0)) := one_setCell (w := wr.drewN (nq + 1)) hb1
        go_roundw
        case rel =>
          exact ⟨xs, ⟨k + 1, by rw [hk, List.append_assoc]; rfl⟩, hs1, ownsRow_heap rfl (ownsRow_cut ho1) (Below.heap_setCell (wr.drewN (nq + 1)) _ _ _ (by simpa using hne.symm)), (hF.drewN _).setCell (.inl rfl) _⟩
        case measure => rw [natLen_of hs1, natLen_of hb1]; omega
      · have hx0 : ((x : Int) == 0) = false := by simp; omega
        go_wp2_with fail; go_quiet (fail)
        go_wp2
        go_end0
        exact ⟨rfl, xs ++ [x], ⟨cap, T, by rw [List.length_append]; exact hb1, by rw [List.length_append]; exact ho1, hne⟩, ⟨k, hk⟩, by simp [Top, hx], hF.drewN nq⟩

theorem val_replicate (k : Nat) : val (List.replicate k 0) = 0 := by induction k with | zero => rfl | succ k ih => simp [List.replicate_succ, val, ih]

/-- 'trim': the words without noughts at the top. -/
theorem trim_nt (b g : Nat) (ws : List Nat) (w : World) (hl : ws.length ≤ 1000000) (hws : Limbs ws) (hN : IsNat w b g ws) :
    Calls Try.prog 110 #[.pointer (some ⟨b, 0, none⟩)] w fun e w' => e = .returned (.tuple #[]) ∧ Nt w' b g (val ws) ∧ Fr (fun i => i = b) w w' := by
  refine (trim_any b g ws w hl hN).mono ?_
  rintro e w' ⟨rfl, us, h1, ⟨k, rfl⟩, h3, h4⟩
  exact ⟨rfl, ⟨us, h1, hws.left, h3, by rw [val_append, val_replicate, Nat.mul_zero, Nat.add_zero]⟩, h4⟩

set_option maxHeartbeats 400000 in
theorem newNatural_nt (n : Nat) (w : World) (hn : n < 18446744073709551616) :
    Calls Try.prog 80 #[.int .u64 n] w fun e w' => ∃ b g, e = .returned (.pointer (some ⟨b, 0, none⟩)) ∧ Nt w' b g n ∧ Fr (fun _ => False) w w' ∧ w.heap.size ≤ b ∧ w.heap.size ≤ g := by
  go_enter Try.func80, Try.ntmps80
  go_wp2_with fail
  have hN : IsNat ((w.alloc (Obj.cells #[Value.int IntKind.u32 ((n : Int) % 4294967296), Value.int IntKind.u32 ((n : Int) / 4294967296)] 127)).alloc (Obj.cells #[Value.slice (some { block := w.heap.size, off := 0 }) 2 2] 146)) (w.heap.size + 1) w.heap.size [n % 4294967296, n / 4294967296] := by
    refine ⟨2, 146, ?_, ?_, by omega⟩
    · have := heap_alloc_new (w.alloc (Obj.cells #[Value.int IntKind.u32 ((n : Int) % 4294967296), Value.int IntKind.u32 ((n : Int) / 4294967296)] 127)) (Obj.cells #[Value.slice (some { block := w.heap.size, off := 0 }) 2 2] 146)
      rw [World.size_alloc] at this
      exact this
    · exact (World.ownsRow_lit w (size := 1) #[Value.int IntKind.u32 ((n : Int) % 4294967296), Value.int IntKind.u32 ((n : Int) / 4294967296)] 2 (Nat.zero_le _) (by decide) rfl).alloc _
  have hF : Fr (fun _ => False) w ((w.alloc (Obj.cells #[Value.int IntKind.u32 ((n : Int) % 4294967296), Value.int IntKind.u32 ((n : Int) / 4294967296)] 127)).alloc (Obj.cells #[Value.slice (some { block := w.heap.size, off := 0 }) 2 2] 146)) := ((Fr.refl _ w).alloc _).alloc _
  refine (trim_nt _ _ _ _ (by simp) ?_ hN).mono ?_
  · intro x hx; simp at hx; omega
  · rintro e w' ⟨rfl, h1, h2⟩
    have hv : val [n % 4294967296, n / 4294967296] = n := by simp only [val]; omega
    rw [hv] at h1
    have H1 : Hid _ := h1
    have H2 : Hid _ := h2
    clear h1 h2 hN hv
    go_wp2
    go_ret
    exact ⟨_, _, rfl, H1.out, hF.trans' H2.out (fun i hi => .inr (by omega)), by omega, Nat.le_refl _⟩

theorem getElem_pred_drop (ws : List Nat) (k : Nat) (h : k < ws.length) : ws.drop k = ws[k] :: ws.drop (k + 1) := List.drop_eq_getElem_cons h

theorem nat_cell {w : World} {g cap : Nat} {ws : List Nat} (ho : w.ownsRow 0 127 1 (.slice (some ⟨g, 0, none⟩) ws.length cap) ws.length (vs ws)) (k : Nat) (hk : k < ws.length) : w.cell? ⟨g, k, none⟩ = some (.int .u32 (ws[k] : Nat)) := by
  rw [ho.cellAt k (by omega), vs, List.getElem?_map, List.getElem?_eq_getElem hk]; rfl

set_option maxHeartbeats 1000000 in
theorem compare_any (b g c h : Nat) (ws ms : List Nat) (w : World) (hl : ws.length ≤ 1000000) (hl2 : ms.length ≤ 1000000) (hws : Limbs ws) (hms : Limbs ms) (htw : Top ws) (htm : Top ms) (hN : IsNat w b g ws) (hM : IsNat w c h ms) :
    Calls Try.prog 89 #[.pointer (some ⟨b, 0, none⟩), .pointer (some ⟨c, 0, none⟩)] w fun e w' => ∃ r : Int, e = .returned (.int .i64 r) ∧ (r < 0 ↔ val ws < val ms) ∧ (r = 0 ↔ val ws = val ms) ∧ -1000000 ≤ r ∧ r ≤ 1000000 ∧ ∃ m, w' = w.drewN m := by
  obtain ⟨cap, T, hb, ho, hne⟩ := hN
  obtain ⟨cap2, T2, hb2, ho2, hne2⟩ := hM
  have hbc := cell_of_one hb
  have hbc2 := cell_of_one hb2
  by_cases hle : ws.length = ms.length
  · have hd : ((ws.length : Int) != (ms.length : Int)) = false := by simp; omega
    have hle1 : ws.length ≤ ms.length := by omega
    have hle2 : ms.length ≤ ws.length := by omega
    have HL : Hid (ws.length = ms.length) := hle
    clear hle
    go_enter Try.func89, Try.ntmps89
    go_wp2_with fail; go_quiet (fail)
    go_wp2
    go_loopw [5] (fun i wr => ∃ k : Nat, k ≤ ws.length ∧ i = .int .i64 ((k : Int) - 1) ∧ Hid (ws.drop k = ms.drop k) ∧ ∃ m, wr = w.drewN m) (fun i _ => (intOf i + 1).toNat)
    case atStart => exact ⟨ws.length, Nat.le_refl _, rfl, by simp [Hid]; exact (by rw [HL.out]; simp), _, rfl⟩
    case round =>
      obtain ⟨k, hk, rfl, hE, m, rfl⟩ := hrel
      rcases Nat.eq_zero_or_pos k with rfl | hk0
      · go_wp2
        go_ret
        have : ws = ms := by simpa [Hid] using hE
        exact ⟨0, rfl, by rw [this]; omega, by simp [this], by omega, by omega, by first | exact ⟨_, rfl⟩ | (simp only [World.drewN_drewN]; exact ⟨_, rfl⟩)⟩
      · obtain ⟨j, rfl⟩ : ∃ j, k = j + 1 := ⟨k - 1, by omega⟩
        have hcx := nat_cell ho j (by omega)
        have hcy := nat_cell ho2 j (by omega)
        have hbd1 : j < ws.length := by omega
        have hbd2 : j < ms.length := by omega
        have hc1 := ownsRow_cap ho
        have hc2 := ownsRow_cap ho2
        rcases Nat.lt_trichotomy ws[j] ms[j] with hx | hx | hx
        · go_wp2_with fail; go_quiet (fail)
          go_wp2
          go_ret
          have := lt_of_word ws ms hws HL.out j hbd1 hE.out hx
          exact ⟨-1, rfl, by omega, by omega, by omega, by omega, by first | exact ⟨_, rfl⟩ | (simp only [World.drewN_drewN]; exact ⟨_, rfl⟩)⟩
        · have hn1 : ms[j] ≤ ws[j] := by omega
          have hn2 : ws[j] ≤ ms[j] := by omega
          have HX : Hid _ := hx
          clear hx
          go_wp2_with fail; go_quiet (fail)
          go_wp2_with fail; go_quiet (fail)
          go_wp2
          go_roundw
          case rel => exact ⟨j, by omega, by go_num, by show _ = _; rw [List.drop_eq_getElem_cons hbd1, List.drop_eq_getElem_cons hbd2, HX.out, hE.out], by first | exact ⟨_, rfl⟩ | (simp only [World.drewN_drewN]; exact ⟨_, rfl⟩)⟩
          case measure => simp [intOf] <;> omega
        · go_wp2_with fail; go_quiet (fail)
          go_wp2_with fail; go_quiet (fail)
          go_wp2
          go_ret
          have := lt_of_word ms ws hms HL.out.symm j hbd2 hE.out.symm hx
          exact ⟨1, rfl, by omega, by omega, by omega, by omega, by first | exact ⟨_, rfl⟩ | (simp only [World.drewN_drewN]; exact ⟨_, rfl⟩)⟩
  · have hd : ((ws.length : Int) != (ms.length : Int)) = true := by simp; omega
    go_enter Try.func89, Try.ntmps89
    go_wp2_with fail; go_quiet (fail)
    go_wp2_with fail; go_quiet (fail)
    go_wp2
    go_ret
    rcases Nat.lt_or_gt_of_ne hle with hx | hx
    · have := lt_of_len ws ms hws htm hx
      exact ⟨_, rfl, by omega, by omega, by omega, by omega, by first | exact ⟨_, rfl⟩ | (simp only [World.drewN_drewN]; exact ⟨_, rfl⟩)⟩
    · have := lt_of_len ms ws hms htw hx
      exact ⟨_, rfl, by omega, by omega, by omega, by omega, by first | exact ⟨_, rfl⟩ | (simp only [World.drewN_drewN]; exact ⟨_, rfl⟩)⟩

theorem compare_nt (b g c h N M : Nat) (w : World) (hS : Sm N) (hS2 : Sm M) (hN : Nt w b g N) (hM : Nt w c h M) :
    Calls Try.prog 89 #[.pointer (some ⟨b, 0, none⟩), .pointer (some ⟨c, 0, none⟩)] w fun e w' => ∃ r : Int, e = .returned (.int .i64 r) ∧ (r < 0 ↔ N < M) ∧ (r = 0 ↔ N = M) ∧ -1000000 ≤ r ∧ r ≤ 1000000 ∧ ∃ m, w' = w.drewN m := by
  obtain ⟨ws, h1, h2, h3, rfl⟩ := hN
  obtain ⟨ms, k1, k2, k3, rfl⟩ := hM
  exact compare_any b g c h ws ms w (by have := hS.len h3; omega) (by have := hS2.len k3; omega) h2 k2 h3 k3 h1 k1

end Go.Proofs.Ytmkkibaacclhnaa
