/-
  A step of the walk of the numbers, the part named Bq: products of the document's answer. No theorem of the row.
-/
import Derived.Test.YtmkkibaacclhnaaBk
namespace Go.Proofs.Ytmkkibaacclhnaa
open Go.RowKit

/-- a product, so far -/
def ProdInv (w : World) (xs ys : List Nat) (j : Nat) (v : Value) (wr : World) : Prop :=
  ∃ ws, v ≠ .slice none 0 0 ∧ BigAt wr v ws ∧ val ws = val xs * val (ys.drop j) ∧ ws.length ≤ xs.length + 2 * (ys.length - j) + 3 ∧ Fr (fun _ => False) w wr

set_option maxRecDepth 100000 in
set_option maxHeartbeats 4000000 in
theorem bprod_any (v u : Value) (xs ys : List Nat) (w : World) (hl1 : xs.length ≤ 20000000) (hl2 : ys.length ≤ 20000000) (hA : BigAt w v xs) (hB : BigAt w u ys) :
    Calls Try.prog 92 #[v, u] w (BigPostS w (val xs * val ys) (xs.length + 2 * ys.length + 3)) := by
  obtain ⟨a, ca, rfl⟩ := big_shape hA
  obtain ⟨b, cb, rfl⟩ := big_shape hB
  obtain ⟨i0, hi, hz0, hz1, hz2⟩ := info_parts Try.info23
  have HA := hid hA
  have HB := hid hB
  clear hA hB
  go_enter Try.func92, Try.ntmps92
  go_wp2
  have hst := hid (show ProdInv w xs ys ys.length (.slice (some ⟨w.heap.size, 0, none⟩) 1 1) (w.alloc (.cells #[.int .u64 0] 23)) from
    ⟨[0], by simp, ⟨ownsRow_base (row_one w (.int .u64 0) 23), Limbs.one (by omega)⟩, by rw [List.drop_length]; simp [val], by simp, (Fr.refl _ _).alloc _⟩)
  go_loopw [5, 6] (fun out i wr => ∃ j : Nat, j ≤ ys.length ∧ i = .int .i64 ((j : Int) - 1) ∧ Hid (ProdInv w xs ys j out wr)) (fun _ i _ => (intOf i + 1).toNat)
  case atStart => exact ⟨ys.length, Nat.le_refl _, rfl, hst⟩
  case round =>
    clear hst
    obtain ⟨j, hj, rfl, hI⟩ := hrel
    cases j with
    | zero =>
      go_wp2
      go_ret
      obtain ⟨ws, c1, c2, c3, c4, c5⟩ := hI.out
      exact ⟨_, ws, rfl, c1, c2, by rw [c3, List.drop_zero], by omega, c5⟩
    | succ j =>
      obtain ⟨ws, c1, c2, c3, c4, c5⟩ := hI.out
      obtain ⟨g2, cap2, rfl⟩ := big_some c2 c1
      obtain ⟨gb, hgb, hcy⟩ := big_cell (HB.out.fr c5) j (by omega)
      subst hgb
      have hyk : ys[j] < 4294967296 := HB.out.2 _ (List.getElem_mem (by omega))
      have C2 := hid c2
      have C3 := hid c3
      have C5 := hid c5
      have hcy2 : ∀ w2, Fr (fun _ => False) w w2 → w2.cell? ⟨gb, j, none⟩ = some (.int .u64 (ys[j] : Nat)) := fun w2 hF => by
        obtain ⟨g', hg', hc'⟩ := big_cell (HB.out.fr hF) j (by omega)
        cases hg'
        exact hc'
      have HCY := hid hcy2
      have hbs := c5.size
      have HZ := hid (row_one wr (.int .u64 0) 23)
      clear hI c1 c2 c3 c5 hcy2
      go_wp2_with (first
        | (at_builtin; refine wpList_append_own _ rfl _ _ 89 rfl wr.heap.size 23 i0 (.int .u64 0) 1 8 Try.underlying89 hi hz0 hz1 hz2 rfl (by decide) _ _ _ rfl HZ.out ⟨g2, 0, none⟩ ws.length cap2 (us ws) rfl ?c0 ?c1 ?c2 ?c3 ?c4 ?c5 ?_)
        | go_in)
      case c0 => rw [us_length]; omega
      case c1 => exact (C2.out.1.alloc _).cells (g := g2) rfl
      case c2 => exact us_one
      case c3 => unfold maxLen; omega
      case c4 => omega
      case c5 => simp
      intro v3 w3 hown' hgrow _
      have hn3 : v3 ≠ .slice none 0 0 := by
        rw [Nat.add_comm] at hown'
        obtain ⟨g', cap', rfl⟩ := row_succ hown'
        simp
      have hB3 := hid (show BigAt w3 v3 (0 :: ws) from ⟨by rw [List.length_cons, Nat.add_comm]; exact ownsRow_base hown', by
        intro x hx
        rcases List.mem_cons.1 hx with rfl | hx
        · omega
        · exact C2.out.2 x hx⟩)
      have HF3 := hid (((C5.out.alloc (.cells #[.int .u64 0] 23)).trans' ((Fr.refl (fun i => i = wr.heap.size) (wr.alloc (.cells #[.int .u64 0] 23))).grown hgrow (fun k hk => .inl (by simpa [Value.ownBlock] using hk.symm))) (fun i hi => .inr (by omega))))
      have hcz := HCY.out w3 HF3.out
      clear hown' hgrow hcy
      go_wp2_with fail
      refine (btimes_any _ xs ys[j] 0 _ (by omega) hyk (by omega) (HA.out.fr HF3.out)).mono ?_
      rintro e w4 ⟨v4, ws4, rfl, d1, d2, d3, d4⟩
      have D1 := hid d1
      have D2 := hid d2
      have D4 := hid d4
      clear d1 d2 d4 hcz
      go_wp2_with fail
      refine (bplus_s _ _ (0 :: ws) ws4 _ (by simp; omega) (by omega) (hB3.out.fr D4.out) D1.out).mono ?_
      rintro e w5 ⟨v5, ws5, rfl, n5, e1, e2, e3, e4⟩
      have HI := hid (show ProdInv w xs ys j v5 w5 from by
        refine ⟨ws5, n5, e1, ?_, ?_, (HF3.out.trans D4.out).trans e4⟩
        · have hdr : val (ys.drop j) = ys[j] + 4294967296 * val (ys.drop (j + 1)) := by rw [List.drop_eq_getElem_cons (by omega)]; rfl
          have h1 : val (0 :: ws) = 4294967296 * (val xs * val (ys.drop (j + 1))) := by rw [val, C3.out, Nat.zero_add]
          rw [e2, h1, D2.out, hdr, Nat.mul_add, Nat.add_zero, Nat.mul_comm ys[j], Nat.mul_left_comm 4294967296]
          exact Nat.add_comm _ _
        · simp only [List.length_cons] at e3
          omega)
      clear n5 e1 e2 e3 e4
      go_wp2
      go_roundw
      case rel => exact ⟨j, by omega, by go_num, HI⟩
      case measure => simp [intOf]
end Go.Proofs.Ytmkkibaacclhnaa
