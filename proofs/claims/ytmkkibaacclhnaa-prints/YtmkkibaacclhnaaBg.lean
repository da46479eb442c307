/-
  A step of the walk of the numbers, the part named Bg: whole numbers of the document's answer. No theorem of the row.
-/
import Derived.Test.YtmkkibaacclhnaaKep
namespace Go.Proofs.Ytmkkibaacclhnaa
open Go.RowKit

def us (ws : List Nat) : List Value := ws.map (fun x : Nat => Value.int .u64 (x : Int))
theorem us_length (ws : List Nat) : (us ws).length = ws.length := by simp [us]
theorem us_append (a b : List Nat) : us (a ++ b) = us a ++ us b := by simp [us]
theorem Try.info23 : (Try.prog.info? 23).map (fun i => (i.zero, i.size, i.bytes)) = some (some (.int .u64 0), 1, 8) := by kernel_rfl

/-- a whole number in memory, by its words -/
def BigAt (w : World) (v : Value) (ws : List Nat) : Prop := w.ownsRow 0 23 1 v ws.length (us ws) ∧ Limbs ws
theorem BigAt.fr {w w' : World} {v : Value} {ws : List Nat} (h : BigAt w v ws) (hF : Fr (fun _ => False) w w') : BigAt w' v ws := ⟨ownsRow_fr h.1 hF, h.2⟩
theorem big_shape {w : World} {v : Value} {ws : List Nat} (h : BigAt w v ws) : ∃ a cap, v = .slice a ws.length cap := by
  rcases h.1.2 with ⟨h1, h2⟩ | ⟨g, cap, cur, hv, _⟩
  · exact ⟨none, 0, by rw [h1, h2]⟩
  · exact ⟨_, cap, hv⟩
theorem big_cell {w : World} {a : Option Addr} {cap : Nat} {ws : List Nat} (h : BigAt w (.slice a ws.length cap) ws) (k : Nat) (hk : k < ws.length) : ∃ g, a = some ⟨g, 0, none⟩ ∧ w.cell? ⟨g, k, none⟩ = some (.int .u64 (ws[k] : Nat)) := by
  obtain ⟨g, cap', hv⟩ := row_pos h.1 (by omega)
  simp at hv
  obtain ⟨rfl, rfl⟩ := hv
  refine ⟨g, rfl, ?_⟩
  rw [h.1.cellAt k (by omega), us, List.getElem?_map, List.getElem?_eq_getElem hk]; rfl

/-- a new whole number is answered -/
def BigPost (w : World) (N L : Nat) (e : Ending) (w' : World) : Prop := ∃ v' ws', e = .returned v' ∧ BigAt w' v' ws' ∧ val ws' = N ∧ ws'.length ≤ L ∧ Fr (fun _ => False) w w'

/-- the same, and it is not nil -/
def BigPostS (w : World) (N L : Nat) (e : Ending) (w' : World) : Prop := ∃ v' ws', e = .returned v' ∧ v' ≠ .slice none 0 0 ∧ BigAt w' v' ws' ∧ val ws' = N ∧ ws'.length ≤ L ∧ Fr (fun _ => False) w w'
theorem BigPostS.any {w : World} {N L : Nat} {e : Ending} {w' : World} (h : BigPostS w N L e w') : BigPost w N L e w' := by
  obtain ⟨v', ws', h1, _, h2⟩ := h
  exact ⟨v', ws', h1, h2⟩

set_option maxRecDepth 100000 in
set_option maxHeartbeats 4000000 in
theorem btimes_s (v : Value) (ws : List Nat) (m c : Nat) (w : World) (hl : ws.length ≤ 1000000000) (hm : m < 4294967296) (hc : c < 4294967296) (hB : BigAt w v ws) :
    Calls Try.prog 103 #[v, .int .u64 (m : Int), .int .u64 (c : Int)] w (BigPostS w (m * val ws + c) (ws.length + 1)) := by
  obtain ⟨a, cap, rfl⟩ := big_shape hB
  obtain ⟨i0, hi, hz0, hz1, hz2⟩ := info_parts Try.info23
  have hmk := fun wx => run_make (P := Try.prog) wx 89 23 i0 (.int .u64 0) Try.underlying89 hi hz0 .i64 .i64 0 ((ws.length : Int) + 2) (by omega) (by omega) (by rw [hz2]; omega) (by omega)
  rw [hz1] at hmk
  go_enter Try.func103, Try.ntmps103
  go_wp2
  have hst : (w.alloc (.cells (madeCells #[Value.int .u64 0] (ws.length + 2)) 23)).ownsRow w.heap.size 23 1 (.slice (some ⟨w.heap.size, 0, none⟩) 0 (ws.length + 2)) 0 (us []) :=
    ⟨rfl, .inr ⟨_, _, _, rfl, Nat.le_refl _, heap_alloc_new _ _, by omega, by unfold maxLen; omega, by rw [size_madeCells]; omega, by simp [us]⟩⟩
  have HST := hid hst
  have HB := hid hB
  clear hst hmk
  go_loopw [2, 7, 8] (fun cy out i wr => ∃ (k : Nat) (os : List Nat) (y : Nat), k ≤ ws.length ∧ os.length = k ∧ Limbs os ∧ y < 4294967296 ∧ Hid (val os + 4294967296 ^ k * y = m * val (ws.take k) + c) ∧ cy = .int .u64 y ∧ i = .int .i64 k ∧
      Hid (wr.ownsRow w.heap.size 23 1 out k (us os)) ∧ Hid (out ≠ .slice none 0 0) ∧ Hid (Fr (fun _ => False) w wr)) (fun _ _ i _ => ws.length - (intOf i).toNat)
  case atStart => exact ⟨0, [], c, Nat.zero_le _, rfl, (by intro x hx; cases hx), hc, (by simp [Hid, val]), rfl, rfl, HST, hid (by simp), hid ((Fr.refl _ _).alloc _)⟩
  case round =>
    obtain ⟨k, os, y, hk, hos, hlo, hy, hE, rfl, rfl, ho, hnil, hF⟩ := hrel
    by_cases hlt : k < ws.length
    · have hx : ws[k] < 4294967296 := hB.2 _ (List.getElem_mem hlt)
      obtain ⟨g, rfl, hcx⟩ := big_cell (hB.fr hF.out) k hlt
      have hm1 : ws[k] * m ≤ 4294967295 * 4294967295 := Nat.mul_le_mul (by omega) (by omega)
      have hm2 : ((ws[k] * m : Nat) : Int) = (ws[k] : Int) * (m : Int) := Int.natCast_mul _ _
      have hw1 : IntKind.u64.wrap ((ws[k] : Int) * (m : Int)) = ((ws[k] * m : Nat) : Int) := by rw [← hm2, IntWalk.u64_in _ (by omega)]
      have hw2 : IntKind.u64.wrap (((ws[k] * m : Nat) : Int) + (y : Int)) = ((y + ws[k] * m : Nat) : Int) := by rw [IntWalk.u64_in _ (by omega)]; omega
      have hE2 := hid (tp_val os ws m c y k hlt hos hE.out)
      have hbs : w.heap.size ≤ wr.heap.size := hF.out.size
      clear hE hm2
      generalize ws[k] * m = q at *
      have HO := ho
      have hd1 := hid (show ((y + q : Nat) : Int) / 4294967296 = (((y + q) / 4294967296 : Nat) : Int) by omega)
      have hd2 := hid (show ((y + q : Nat) : Int) % 4294967296 = (((y + q) % 4294967296 : Nat) : Int) by omega)
      have hs64 := hid (show y + q < 18446744073709551616 by omega)
      clear hm1
      generalize y + q = s at *
      clear ho
      go_wp2_with (first
        | (at_builtin; refine wpList_append_own _ rfl _ _ 89 rfl w.heap.size 23 i0 (.int .u64 0) 1 8 Try.underlying89 hi hz0 hz1 hz2 rfl (by decide) _ _ _ rfl (HO.out.alloc _) ⟨wr.heap.size, 0, none⟩ 1 1 [.int .u64 ((s : Int) % 4294967296)] rfl rfl ?c1 ?c2 ?c3 ?c4 ?c5 ?_)
        | go_in)
      case c1 => exact cell_one_new _ _ _
      case c2 => intro u hu; simp at hu; subst hu; rfl
      case c3 => unfold maxLen; omega
      case c4 => omega
      case c5 => simp; omega
      intro v' w1 hown' hgrow _
      have HNIL := hid (show v' ≠ .slice none 0 0 from by obtain ⟨g', cap', rfl⟩ := row_succ hown'; simp)
      have HO1 := hid hown'
      have HF1 := hid ((hF.out.alloc (.cells #[.int .u64 ((s : Int) % 4294967296)] 23)).grown hgrow (fun j hj => .inr (HO.out.lt j hj).1))
      clear hown' hgrow
      go_wp2
      go_roundw
      case rel =>
        refine ⟨k + 1, os ++ [s % 4294967296], s / 4294967296, hlt, by simp [hos], hlo.append (Limbs.one (by omega)), by have := hs64.out; omega, hE2, by rw [hd1.out], by go_num, hid ?_, HNIL, HF1⟩
        rw [us_append]
        have := HO1.out
        rw [hd2.out] at this
        exact this
      case measure => simp [intOf]; omega
    · obtain rfl : k = ws.length := by omega
      rw [List.take_length] at hE
      go_wp2
      go_loopw [2, 7] (fun cy out wr => ∃ (os : List Nat) (y : Nat), Limbs os ∧ y < 4294967296 ∧ Hid (val os + 4294967296 ^ os.length * y = m * val ws + c) ∧ (os.length = ws.length ∨ (y = 0 ∧ os.length = ws.length + 1)) ∧ cy = .int .u64 y ∧
          Hid (wr.ownsRow w.heap.size 23 1 out os.length (us os)) ∧ Hid (out ≠ .slice none 0 0) ∧ Hid (Fr (fun _ => False) w wr)) (fun cy _ _ => (intOf cy).toNat)
      case atStart => exact ⟨os, y, hlo, hy, by rw [hos]; exact hE, .inl hos, rfl, by rw [hos]; exact ho, hnil, hF⟩
      case round =>
        clear hE ho hF hlo hy hos hnil
        obtain ⟨os, y, hlo, hy, hE, hd, rfl, ho, hnil, hF⟩ := hrel
        by_cases hy0 : y = 0
        · subst hy0
          go_wp2
          go_ret
          refine ⟨_, os, rfl, hnil.out, ⟨ownsRow_base ho.out, hlo⟩, ?_, by omega, hF.out⟩
          have := hE.out
          rw [Nat.mul_zero, Nat.add_zero] at this
          exact this
        · have hpos : 0 < y := by omega
          have hol : os.length = ws.length := by omega
          have hd1 : (y : Int) / 4294967296 = 0 := by omega
          have hd2 : (y : Int) % 4294967296 = y := by omega
          have hbs : w.heap.size ≤ wr.heap.size := hF.out.size
          have HY0 := hid hy0
          clear hd hy0
          go_wp2_with (first
            | (at_builtin; refine wpList_append_own _ rfl _ _ 89 rfl w.heap.size 23 i0 (.int .u64 0) 1 8 Try.underlying89 hi hz0 hz1 hz2 rfl (by decide) _ _ _ rfl (ho.out.alloc _) ⟨wr.heap.size, 0, none⟩ 1 1 [.int .u64 (y : Int)] rfl rfl ?c1 ?c2 ?c3 ?c4 ?c5 ?_)
            | go_in)
          case c1 => exact cell_one_new _ _ _
          case c2 => intro u hu; simp at hu; subst hu; rfl
          case c3 => unfold maxLen; omega
          case c4 => omega
          case c5 => simp; omega
          intro v' w1 hown' hgrow _
          have HNIL := hid (show v' ≠ .slice none 0 0 from by obtain ⟨g', cap', rfl⟩ := row_succ hown'; simp)
          have HO1 := hid hown'
          have HF1 := hid ((hF.out.alloc (.cells #[.int .u64 (y : Int)] 23)).grown hgrow (fun j hj => .inr (ho.out.lt j hj).1))
          clear hown' hgrow
          go_wp2
          go_roundw
          case rel =>
            refine ⟨os ++ [y], 0, hlo.append (Limbs.one hy), by omega, hid ?_, .inr ⟨rfl, by simp [hol]⟩, rfl, hid ?_, HNIL, HF1⟩
            · rw [val_snoc, Nat.mul_zero, Nat.add_zero]; exact hE.out
            · rw [us_append, List.length_append, hol]; exact HO1.out
          case measure => simp [intOf]; have := HY0.out; omega

theorem btimes_any (v : Value) (ws : List Nat) (m c : Nat) (w : World) (hl : ws.length ≤ 1000000000) (hm : m < 4294967296) (hc : c < 4294967296) (hB : BigAt w v ws) :
    Calls Try.prog 103 #[v, .int .u64 (m : Int), .int .u64 (c : Int)] w (BigPost w (m * val ws + c) (ws.length + 1)) :=
  (btimes_s v ws m c w hl hm hc hB).mono (fun _ _ h => h.any)
end Go.Proofs.Ytmkkibaacclhnaa
