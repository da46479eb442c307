/-
  A step of the walk of the numbers, the part named Bh: whole numbers of the document's answer, by tens. No theorem of the row.
-/
import Derived.Test.YtmkkibaacclhnaaBg
namespace Go.Proofs.Ytmkkibaacclhnaa
open Go.RowKit

/-- a number by 10, so many times still -/
def TensInv (w : World) (N L : Nat) (v : Value) (k : Nat) (wr : World) : Prop := ∃ ws, BigAt wr v ws ∧ val ws * p10 k = N ∧ ws.length + k ≤ L ∧ Fr (fun _ => False) w wr
theorem tens_step {w wr w1 : World} {N L : Nat} {k j f : Nat} {e : Ending} {ws : List Nat} (h2 : val ws * p10 k = N) (h3 : ws.length + k ≤ L) (hj : j + 1 ≤ k) (hf : p10 k = f * p10 j) (hF : Fr (fun _ => False) w wr) (hp : BigPost wr (f * val ws + 0) (ws.length + 1) e w1) :
    ∃ v', e = .returned v' ∧ TensInv w N L v' j w1 := by
  obtain ⟨v', ws', rfl, b1, b2, b3, b4⟩ := hp
  refine ⟨v', rfl, ws', b1, ?_, by omega, hF.trans b4⟩
  rw [b2, ← h2, hf, Nat.add_zero, Nat.mul_comm f, Nat.mul_assoc]

set_option maxRecDepth 100000 in
set_option maxHeartbeats 4000000 in
theorem btens_any (v : Value) (ws : List Nat) (n : Nat) (w : World) (hl : ws.length + n ≤ 100000000) (hB : BigAt w v ws) :
    Calls Try.prog 75 #[v, .int .i64 (n : Int)] w (BigPost w (val ws * p10 n) (ws.length + n)) := by
  have HB := hid (show TensInv w (val ws * p10 n) (ws.length + n) v n w from ⟨ws, hB, rfl, Nat.le_refl _, Fr.refl _ _⟩)
  clear hB
  go_enter Try.func75, Try.ntmps75
  go_wp2
  go_loopw [0, 1] (fun a i wr => ∃ k : Nat, k ≤ n ∧ i = .int .i64 k ∧ Hid (TensInv w (val ws * p10 n) (ws.length + n) a k wr)) (fun _ i _ => (intOf i).toNat)
  case atStart => exact ⟨n, Nat.le_refl _, rfl, HB⟩
  case round =>
    obtain ⟨k, hk, rfl, hI⟩ := hrel
    clear HB
    by_cases h9 : 9 ≤ k
    · obtain ⟨us, b1, b2, b3, b4⟩ := hI.out
      have B1 := hid b1
      have B2 := hid b2
      have B4 := hid b4
      clear hI b1 b2 b4
      go_wp2_with fail
      refine (btimes_any _ us 1000000000 0 _ (by omega) (by omega) (by omega) B1.out).mono ?_
      intro e w1 hp
      obtain ⟨v', rfl, hI2⟩ := tens_step (j := k - 9) B2.out b3 (by omega) (by rw [show p10 k = p10 (9 + (k - 9)) from by congr 1; omega, p10_add]; rfl) B4.out hp
      have HI2 := hid hI2
      clear hI2 hp
      go_wp2
      go_roundw
      case rel => exact ⟨k - 9, by omega, by go_num, HI2⟩
      case measure => simp [intOf]; omega
    · go_wp2
      go_loopw [0, 1] (fun a i wr => ∃ k : Nat, k ≤ n ∧ i = .int .i64 k ∧ Hid (TensInv w (val ws * p10 n) (ws.length + n) a k wr)) (fun _ i _ => (intOf i).toNat)
      case atStart => exact ⟨k, hk, rfl, hI⟩
      case round =>
        clear hI h9 hk
        obtain ⟨k, hk, rfl, hI⟩ := hrel
        by_cases h0 : k = 0
        · subst h0
          go_wp2
          go_ret
          obtain ⟨us, b1, b2, b3, b4⟩ := hI.out
          exact ⟨_, us, rfl, b1, by rw [← b2, show p10 0 = 1 from rfl, Nat.mul_one], by omega, b4⟩
        · have hpos : 0 < k := by omega
          obtain ⟨us, b1, b2, b3, b4⟩ := hI.out
          have B1 := hid b1
          have B2 := hid b2
          have B4 := hid b4
          clear hI b1 b2 b4 h0
          go_wp2_with fail
          refine (btimes_any _ us 10 0 _ (by omega) (by omega) (by omega) B1.out).mono ?_
          intro e w1 hp
          obtain ⟨v', rfl, hI2⟩ := tens_step (j := k - 1) B2.out b3 (by omega) (by rw [show p10 k = p10 (1 + (k - 1)) from by congr 1; omega, p10_add]; rfl) B4.out hp
          have HI2 := hid hI2
          clear hI2 hp
          go_wp2
          go_roundw
          case rel => exact ⟨k - 1, by omega, by go_num, HI2⟩
          case measure => simp [intOf]; omega

set_option maxRecDepth 100000 in
set_option maxHeartbeats 4000000 in
theorem bwhole_any (l : List UInt8) (w : World) (hl : l.length ≤ 100000000) (hD : AllD l) :
    Calls Try.prog 74 #[.string (ofL l)] w (BigPost w (num (dv l)) l.length) := by
  have hsz := ofL_size l
  go_enter Try.func74, Try.ntmps74
  go_wp2
  go_loopw [3, 4] (fun a i wr => ∃ (k : Nat) (ws : List Nat), k ≤ l.length ∧ i = .int .i64 k ∧ Hid (BigAt wr a ws) ∧ Hid (val ws = num (dv (l.take k))) ∧ ws.length ≤ k ∧ Hid (Fr (fun _ => False) w wr)) (fun _ i _ => l.length - (intOf i).toNat)
  case atStart => exact ⟨0, [], by omega, rfl, hid ⟨World.ownsRow_nil _ _ _ _, by intro x hx; cases hx⟩, hid rfl, by simp, hid (Fr.refl _ _)⟩
  case round =>
    obtain ⟨k, ws, hk, rfl, hB, hN, hwl, hF⟩ := hrel
    by_cases hlt : k < l.length
    · have hg : (ofL l)[k]'(by rw [hsz]; exact hlt) = l[k] := ofL_get l k _
      obtain ⟨ha, hb⟩ := (isD_iff _).1 (hD _ (List.getElem_mem hlt))
      have hst := hid (show num (dv (l.take (k + 1))) = num (dv (l.take k)) * 10 + (l[k].toNat - 48) from by
        rw [List.take_succ_eq_append_getElem hlt, dv_append]
        exact num_snoc _ _)
      generalize hcc : l[k] = c at *
      have hcv := hid (show ((c.toNat : Int) - 48) = ((c.toNat - 48 : Nat) : Int) by omega)
      clear hcc
      go_wp2_with fail
      rw [hcv.out]
      refine (btimes_any _ ws 10 (c.toNat - 48) _ (by omega) (by omega) (by omega) hB.out).mono ?_
      rintro e w1 ⟨v', ws', rfl, b1, b2, b3, b4⟩
      have B1 := hid b1
      have B2 := hid b2
      have B4 := hid b4
      clear b1 b2 b4
      go_wp2
      go_roundw
      case rel => exact ⟨k + 1, ws', by omega, by go_num, B1, hid (by rw [B2.out, hst.out, hN.out, Nat.mul_comm]), by omega, hid (hF.out.trans B4.out)⟩
      case measure => simp [intOf]; omega
    · obtain rfl : k = l.length := by omega
      rw [List.take_length] at hN
      go_wp2
      go_ret
      exact ⟨_, ws, rfl, hB.out, hN.out, hwl, hF.out⟩

theorem plus_step (xs ys os : List Nat) (k y : Nat) (hos : os.length = k) (h : val os + 4294967296 ^ k * y = val (xs.take k) + val (ys.take k)) :
    val (os ++ [(y + xs[k]?.getD 0 + ys[k]?.getD 0) % 4294967296]) + 4294967296 ^ (k + 1) * ((y + xs[k]?.getD 0 + ys[k]?.getD 0) / 4294967296) = val (xs.take (k + 1)) + val (ys.take (k + 1)) := by
  rw [take_val, take_val, val_snoc, hos, Nat.pow_succ, Nat.mul_assoc, Nat.add_assoc, ← Nat.mul_add, Nat.mod_add_div, Nat.mul_add, Nat.mul_add]
  omega

set_option maxRecDepth 100000 in
set_option maxHeartbeats 4000000 in
theorem bplus_s (v u : Value) (xs ys : List Nat) (w : World) (hl1 : xs.length ≤ 1000000000) (hl2 : ys.length ≤ 1000000000) (hA : BigAt w v xs) (hB : BigAt w u ys) :
    Calls Try.prog 93 #[v, u] w (BigPostS w (val xs + val ys) (max xs.length ys.length + 1)) := by
  obtain ⟨a, ca, rfl⟩ := big_shape hA
  obtain ⟨b, cb, rfl⟩ := big_shape hB
  obtain ⟨i0, hi, hz0, hz1, hz2⟩ := info_parts Try.info23
  go_enter Try.func93, Try.ntmps93
  go_wp2
  have HA := hid hA
  have HB := hid hB
  clear hA hB
  go_loopw [5, 6, 7] (fun out cy i wr => ∃ (k : Nat) (os : List Nat) (y : Nat), k ≤ max xs.length ys.length ∧ os.length = k ∧ Limbs os ∧ y ≤ 1 ∧ Hid (val os + 4294967296 ^ k * y = val (xs.take k) + val (ys.take k)) ∧ cy = .int .u64 y ∧ i = .int .i64 k ∧
      Hid (wr.ownsRow w.heap.size 23 1 out k (us os)) ∧ Hid (Fr (fun _ => False) w wr)) (fun _ _ i _ => max xs.length ys.length - (intOf i).toNat)
  case atStart => exact ⟨0, [], 0, Nat.zero_le _, rfl, (by intro x hx; cases hx), by omega, (by simp [Hid, val]), rfl, rfl, hid (World.ownsRow_nil _ _ _ _), hid (Fr.refl _ _)⟩
  case round =>
    obtain ⟨k, os, y, hk, hos, hlo, hy, hE, rfl, rfl, ho, hF⟩ := hrel
    have hbs : w.heap.size ≤ wr.heap.size := hF.out.size
    have hS := plus_step xs ys os k y hos hE.out
    by_cases h1 : k < xs.length
    · by_cases h2 : k < ys.length
      ·
        obtain ⟨ga, rfl, hcx⟩ := big_cell (HA.out.fr hF.out) k h1
        have hxk : xs[k] < 4294967296 := HA.out.2 _ (List.getElem_mem h1)
        have ex : xs[k]?.getD 0 = xs[k] := by rw [List.getElem?_eq_getElem h1]; rfl
        obtain ⟨gb, rfl, hcy⟩ := big_cell (HB.out.fr hF.out) k h2
        have hyk : ys[k] < 4294967296 := HB.out.2 _ (List.getElem_mem h2)
        have ey : ys[k]?.getD 0 = ys[k] := by rw [List.getElem?_eq_getElem h2]; rfl
        rw [ex, ey] at hS
        have HS := hid hS
        clear hS hE ex ey
        generalize xs[k] = p at *
        generalize ys[k] = q at *
        have hd1 := hid (show ((y : Int) + (p : Int) + (q : Int)) / 4294967296 = (((y + p + q) / 4294967296 : Nat) : Int) by omega)
        have hd2 := hid (show ((y : Int) + (p : Int) + (q : Int)) % 4294967296 = (((y + p + q) % 4294967296 : Nat) : Int) by omega)
        go_wp2_with (first
          | (at_builtin; refine wpList_append_own _ rfl _ _ 89 rfl w.heap.size 23 i0 (.int .u64 0) 1 8 Try.underlying89 hi hz0 hz1 hz2 rfl (by decide) _ _ _ rfl (ho.out.alloc _) ⟨wr.heap.size, 0, none⟩ 1 1 [.int .u64 (((y : Int) + (p : Int) + (q : Int)) % 4294967296)] rfl rfl ?c1 ?c2 ?c3 ?c4 ?c5 ?_)
          | go_in)
        case c1 => exact cell_one_new _ _ _
        case c2 => intro u hu; simp at hu; subst hu; rfl
        case c3 => unfold maxLen; omega
        case c4 => omega
        case c5 => simp; omega
        intro v' w1 hown' hgrow _
        have HO1 := hid hown'
        have HF1 := hid ((hF.out.alloc (.cells #[.int .u64 (((y : Int) + (p : Int) + (q : Int)) % 4294967296)] 23)).grown hgrow (fun j hj => .inr (ho.out.lt j hj).1))
        clear hown' hgrow
        go_wp2
        go_roundw
        case rel =>
          refine ⟨k + 1, os ++ [(y + p + q) % 4294967296], (y + p + q) / 4294967296, by omega, by simp [hos], hlo.append (Limbs.one (by omega)), by omega, HS, by rw [hd1.out], by go_num, hid ?_, HF1⟩
          have := HO1.out
          rw [hd2.out] at this
          rw [us_append]
          exact this
        case measure => simp [intOf]; omega
      ·
        obtain ⟨ga, rfl, hcx⟩ := big_cell (HA.out.fr hF.out) k h1
        have hxk : xs[k] < 4294967296 := HA.out.2 _ (List.getElem_mem h1)
        have ex : xs[k]?.getD 0 = xs[k] := by rw [List.getElem?_eq_getElem h1]; rfl
        have ey : ys[k]?.getD 0 = 0 := by rw [List.getElem?_eq_none (by omega)]; rfl
        rw [ex, ey] at hS
        have HS := hid hS
        clear hS hE ex ey
        generalize xs[k] = p at *
        have hd1 := hid (show ((y : Int) + (p : Int)) / 4294967296 = (((y + p + 0) / 4294967296 : Nat) : Int) by omega)
        have hd2 := hid (show ((y : Int) + (p : Int)) % 4294967296 = (((y + p + 0) % 4294967296 : Nat) : Int) by omega)
        go_wp2_with (first
          | (at_builtin; refine wpList_append_own _ rfl _ _ 89 rfl w.heap.size 23 i0 (.int .u64 0) 1 8 Try.underlying89 hi hz0 hz1 hz2 rfl (by decide) _ _ _ rfl (ho.out.alloc _) ⟨wr.heap.size, 0, none⟩ 1 1 [.int .u64 (((y : Int) + (p : Int)) % 4294967296)] rfl rfl ?c1 ?c2 ?c3 ?c4 ?c5 ?_)
          | go_in)
        case c1 => exact cell_one_new _ _ _
        case c2 => intro u hu; simp at hu; subst hu; rfl
        case c3 => unfold maxLen; omega
        case c4 => omega
        case c5 => simp; omega
        intro v' w1 hown' hgrow _
        have HO1 := hid hown'
        have HF1 := hid ((hF.out.alloc (.cells #[.int .u64 (((y : Int) + (p : Int)) % 4294967296)] 23)).grown hgrow (fun j hj => .inr (ho.out.lt j hj).1))
        clear hown' hgrow
        go_wp2
        go_roundw
        case rel =>
          refine ⟨k + 1, os ++ [(y + p + 0) % 4294967296], (y + p + 0) / 4294967296, by omega, by simp [hos], hlo.append (Limbs.one (by omega)), by omega, HS, by rw [hd1.out], by go_num, hid ?_, HF1⟩
          have := HO1.out
          rw [hd2.out] at this
          rw [us_append]
          exact this
        case measure => simp [intOf]; omega
    · by_cases h2 : k < ys.length
      ·
        have ex : xs[k]?.getD 0 = 0 := by rw [List.getElem?_eq_none (by omega)]; rfl
        obtain ⟨gb, rfl, hcy⟩ := big_cell (HB.out.fr hF.out) k h2
        have hyk : ys[k] < 4294967296 := HB.out.2 _ (List.getElem_mem h2)
        have ey : ys[k]?.getD 0 = ys[k] := by rw [List.getElem?_eq_getElem h2]; rfl
        rw [ex, ey] at hS
        have HS := hid hS
        clear hS hE ex ey
        generalize ys[k] = q at *
        have hd1 := hid (show ((y : Int) + (q : Int)) / 4294967296 = (((y + 0 + q) / 4294967296 : Nat) : Int) by omega)
        have hd2 := hid (show ((y : Int) + (q : Int)) % 4294967296 = (((y + 0 + q) % 4294967296 : Nat) : Int) by omega)
        go_wp2_with (first
          | (at_builtin; refine wpList_append_own _ rfl _ _ 89 rfl w.heap.size 23 i0 (.int .u64 0) 1 8 Try.underlying89 hi hz0 hz1 hz2 rfl (by decide) _ _ _ rfl (ho.out.alloc _) ⟨wr.heap.size, 0, none⟩ 1 1 [.int .u64 (((y : Int) + (q : Int)) % 4294967296)] rfl rfl ?c1 ?c2 ?c3 ?c4 ?c5 ?_)
          | go_in)
        case c1 => exact cell_one_new _ _ _
        case c2 => intro u hu; simp at hu; subst hu; rfl
        case c3 => unfold maxLen; omega
        case c4 => omega
        case c5 => simp; omega
        intro v' w1 hown' hgrow _
        have HO1 := hid hown'
        have HF1 := hid ((hF.out.alloc (.cells #[.int .u64 (((y : Int) + (q : Int)) % 4294967296)] 23)).grown hgrow (fun j hj => .inr (ho.out.lt j hj).1))
        clear hown' hgrow
        go_wp2
        go_roundw
        case rel =>
          refine ⟨k + 1, os ++ [(y + 0 + q) % 4294967296], (y + 0 + q) / 4294967296, by omega, by simp [hos], hlo.append (Limbs.one (by omega)), by omega, HS, by rw [hd1.out], by go_num, hid ?_, HF1⟩
          have := HO1.out
          rw [hd2.out] at this
          rw [us_append]
          exact this
        case measure => simp [intOf]; omega
      · have ex : xs.take k = xs := List.take_of_length_le (by omega)
        have ey : ys.take k = ys := List.take_of_length_le (by omega)
        have HS := hid hE.out
        rw [ex, ey] at HS
        clear hS hE ex ey
        go_wp2_with (first
          | (at_builtin; refine wpList_append_own _ rfl _ _ 89 rfl w.heap.size 23 i0 (.int .u64 0) 1 8 Try.underlying89 hi hz0 hz1 hz2 rfl (by decide) _ _ _ rfl (ho.out.alloc _) ⟨wr.heap.size, 0, none⟩ 1 1 [.int .u64 (y : Int)] rfl rfl ?c1 ?c2 ?c3 ?c4 ?c5 ?_)
          | go_in)
        case c1 => exact cell_one_new _ _ _
        case c2 => intro u hu; simp at hu; subst hu; rfl
        case c3 => unfold maxLen; omega
        case c4 => omega
        case c5 => simp; omega
        intro v' w1 hown' hgrow _
        have HNIL := hid (show v' ≠ .slice none 0 0 from by obtain ⟨g', cap', rfl⟩ := row_succ hown'; simp)
        have HO1 := hid hown'
        have HF1 := hid ((hF.out.alloc (.cells #[.int .u64 (y : Int)] 23)).grown hgrow (fun j hj => .inr (ho.out.lt j hj).1))
        clear hown' hgrow
        go_wp2
        go_ret
        refine ⟨_, os ++ [y], rfl, HNIL.out, ⟨?_, hlo.append (Limbs.one (by omega))⟩, ?_, by simp; omega, HF1.out⟩
        · rw [us_append, List.length_append, hos]; exact ownsRow_base HO1.out
        · rw [val_snoc, hos]; exact HS.out
end Go.Proofs.Ytmkkibaacclhnaa
