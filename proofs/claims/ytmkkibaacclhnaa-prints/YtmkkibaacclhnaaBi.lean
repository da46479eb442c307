/-
  A step of the walk of the numbers, the part named Bi: whole numbers of the document's answer, held against each other. No theorem of the row.
-/
import Derived.Test.YtmkkibaacclhnaaBh
namespace Go.Proofs.Ytmkkibaacclhnaa
open Go.RowKit

/-- below, the same, above -/
def bcmp (a b : Nat) : Int := if a < b then -1 else if a = b then 0 else 1
def bpad (xs : List Nat) (n : Nat) : List Nat := xs ++ List.replicate n 0
theorem bpad_len (xs : List Nat) (n : Nat) : (bpad xs n).length = xs.length + n := by simp [bpad]
theorem bval_zeros (n : Nat) : val (List.replicate n 0) = 0 := by
  induction n with
  | zero => rfl
  | succ n ih => rw [List.replicate_succ, val, ih]
theorem bpad_val (xs : List Nat) (n : Nat) : val (bpad xs n) = val xs := by rw [bpad, val_append, bval_zeros]; omega
theorem bpad_limbs {xs : List Nat} (h : Limbs xs) (n : Nat) : Limbs (bpad xs n) := by
  intro x hx
  rw [bpad, List.mem_append] at hx
  rcases hx with hx | hx
  · exact h x hx
  · rw [List.mem_replicate] at hx; omega
theorem bpad_get (xs : List Nat) (n j : Nat) (h : j < (bpad xs n).length) : (bpad xs n)[j] = xs[j]?.getD 0 := by
  rcases Nat.lt_or_ge j xs.length with h1 | h1
  · rw [List.getElem?_eq_getElem h1]
    simp only [bpad]
    rw [List.getElem_append_left h1]
    rfl
  · rw [List.getElem?_eq_none h1]
    simp only [bpad]
    rw [List.getElem_append_right h1]
    simp

theorem against_lt {xs ys : List Nat} {j : Nat} (hx : Limbs xs) (hj : j < xs.length + ys.length) (h : (bpad xs ys.length).drop (j + 1) = (bpad ys xs.length).drop (j + 1)) (hlt : xs[j]?.getD 0 < ys[j]?.getD 0) : val xs < val ys := by
  rw [← bpad_val xs ys.length, ← bpad_val ys xs.length]
  exact lt_of_word _ _ (bpad_limbs hx _) (by rw [bpad_len, bpad_len]; omega) j (by rw [bpad_len]; omega) h (by rw [bpad_get, bpad_get]; exact hlt)
theorem against_eq {xs ys : List Nat} (h : (bpad xs ys.length).drop 0 = (bpad ys xs.length).drop 0) : val xs = val ys := by
  rw [← bpad_val xs ys.length, ← bpad_val ys xs.length]
  rw [List.drop_zero, List.drop_zero] at h
  rw [h]
theorem against_next {xs ys : List Nat} {j : Nat} (hj : j < xs.length + ys.length) (h : (bpad xs ys.length).drop (j + 1) = (bpad ys xs.length).drop (j + 1)) (he : xs[j]?.getD 0 = ys[j]?.getD 0) : (bpad xs ys.length).drop j = (bpad ys xs.length).drop j := by
  rw [List.drop_eq_getElem_cons (i := j) (l := bpad xs ys.length) (by rw [bpad_len]; omega), List.drop_eq_getElem_cons (i := j) (l := bpad ys xs.length) (by rw [bpad_len]; omega), h, bpad_get, bpad_get, he]

set_option maxRecDepth 100000 in
set_option maxHeartbeats 4000000 in
theorem bagainst_any (v u : Value) (xs ys : List Nat) (w : World) (hl1 : xs.length ≤ 1000000000) (hl2 : ys.length ≤ 1000000000) (hA : BigAt w v xs) (hB : BigAt w u ys) :
    Calls Try.prog 77 #[v, u] w fun e w' => e = .returned (.int .i64 (bcmp (val xs) (val ys))) ∧ w' = w := by
  obtain ⟨a, ca, rfl⟩ := big_shape hA
  obtain ⟨b, cb, rfl⟩ := big_shape hB
  have HA := hid hA
  have HB := hid hB
  clear hA hB
  go_enter Try.func77, Try.ntmps77
  go_wp2
  go_loop [5] (fun i => ∃ j : Nat, j ≤ xs.length + ys.length ∧ i = .int .i64 ((j : Int) - 1) ∧ Hid ((bpad xs ys.length).drop j = (bpad ys xs.length).drop j)) (fun i => (intOf i + 1).toNat)
  case atStart => exact ⟨xs.length + ys.length, Nat.le_refl _, by go_num, hid (by rw [List.drop_of_length_le (l := bpad xs ys.length) (by rw [bpad_len]; omega), List.drop_of_length_le (l := bpad ys xs.length) (by rw [bpad_len]; omega)])⟩
  case round =>
    obtain ⟨j, hj, rfl, hE⟩ := hrel
    cases j with
    | zero =>
      have HR := hid (show bcmp (val xs) (val ys) = 0 from by rw [bcmp, if_neg (by rw [against_eq hE.out]; omega), if_pos (against_eq hE.out)])
      go_wp2
      go_ret
      exact ⟨by rw [HR.out]; rfl, rfl⟩
    | succ j =>
      by_cases h1 : j < xs.length
      · by_cases h2 : j < ys.length
        ·
          obtain ⟨ga, rfl, hcx⟩ := big_cell HA.out j h1
          have ex : xs[j]?.getD 0 = xs[j] := by rw [List.getElem?_eq_getElem h1]; rfl
          have hxk : xs[j] < 4294967296 := HA.out.2 _ (List.getElem_mem h1)
          obtain ⟨gb, rfl, hcy⟩ := big_cell HB.out j h2
          have ey : ys[j]?.getD 0 = ys[j] := by rw [List.getElem?_eq_getElem h2]; rfl
          have hyk : ys[j] < 4294967296 := HB.out.2 _ (List.getElem_mem h2)
          have H0 := hid hE.out
          have HX := hid ex
          have HY := hid ey
          clear hE ex ey
          generalize xs[j] = p at *
          generalize ys[j] = q at *
          by_cases hlt : p < q
          · have HR := hid (show bcmp (val xs) (val ys) = -1 from if_pos (against_lt HA.out.2 (by omega) H0.out (by rw [HX.out, HY.out]; exact hlt)))
            go_wp2
            go_ret
            exact ⟨by rw [HR.out]; rfl, rfl⟩
          by_cases hgt : q < p
          · have hgx := against_lt HB.out.2 (by omega) (xs := ys) (ys := xs) H0.out.symm (by rw [HX.out, HY.out]; exact hgt)
            have HR := hid (show bcmp (val xs) (val ys) = 1 from by rw [bcmp, if_neg (by omega), if_neg (by omega)])
            clear hgx
            go_wp2
            go_ret
            exact ⟨by rw [HR.out]; rfl, rfl⟩
          have HN := hid (against_next (by omega) H0.out (by rw [HX.out, HY.out]; omega))
          obtain rfl : p = q := by omega
          clear hlt hgt
          go_wp2
          go_round
          case rel => exact ⟨j, by omega, by go_num, HN⟩
          case measure => simp [intOf]
        ·
          obtain ⟨ga, rfl, hcx⟩ := big_cell HA.out j h1
          have ex : xs[j]?.getD 0 = xs[j] := by rw [List.getElem?_eq_getElem h1]; rfl
          have hxk : xs[j] < 4294967296 := HA.out.2 _ (List.getElem_mem h1)
          have ey : ys[j]?.getD 0 = 0 := by rw [List.getElem?_eq_none (by omega)]; rfl
          have H0 := hid hE.out
          have HX := hid ex
          have HY := hid ey
          clear hE ex ey
          generalize xs[j] = p at *
          by_cases hgt : 0 < p
          · have hgx := against_lt HB.out.2 (by omega) (xs := ys) (ys := xs) H0.out.symm (by rw [HX.out, HY.out]; exact hgt)
            have HR := hid (show bcmp (val xs) (val ys) = 1 from by rw [bcmp, if_neg (by omega), if_neg (by omega)])
            clear hgx
            go_wp2
            go_ret
            exact ⟨by rw [HR.out]; rfl, rfl⟩
          have HN := hid (against_next (by omega) H0.out (by rw [HX.out, HY.out]; omega))
          obtain rfl : p = 0 := by omega
          clear hgt
          go_wp2
          go_round
          case rel => exact ⟨j, by omega, by go_num, HN⟩
          case measure => simp [intOf]
      · by_cases h2 : j < ys.length
        ·
          have ex : xs[j]?.getD 0 = 0 := by rw [List.getElem?_eq_none (by omega)]; rfl
          obtain ⟨gb, rfl, hcy⟩ := big_cell HB.out j h2
          have ey : ys[j]?.getD 0 = ys[j] := by rw [List.getElem?_eq_getElem h2]; rfl
          have hyk : ys[j] < 4294967296 := HB.out.2 _ (List.getElem_mem h2)
          have H0 := hid hE.out
          have HX := hid ex
          have HY := hid ey
          clear hE ex ey
          generalize ys[j] = q at *
          by_cases hlt : 0 < q
          · have HR := hid (show bcmp (val xs) (val ys) = -1 from if_pos (against_lt HA.out.2 (by omega) H0.out (by rw [HX.out, HY.out]; exact hlt)))
            go_wp2
            go_ret
            exact ⟨by rw [HR.out]; rfl, rfl⟩
          have HN := hid (against_next (by omega) H0.out (by rw [HX.out, HY.out]; omega))
          obtain rfl : q = 0 := by omega
          clear hlt
          go_wp2
          go_round
          case rel => exact ⟨j, by omega, by go_num, HN⟩
          case measure => simp [intOf]
        ·
          have ex : xs[j]?.getD 0 = 0 := by rw [List.getElem?_eq_none (by omega)]; rfl
          have ey : ys[j]?.getD 0 = 0 := by rw [List.getElem?_eq_none (by omega)]; rfl
          have H0 := hid hE.out
          have HX := hid ex
          have HY := hid ey
          clear hE ex ey
          have HN := hid (against_next (by omega) H0.out (by rw [HX.out, HY.out]))
          go_wp2
          go_round
          case rel => exact ⟨j, by omega, by go_num, HN⟩
          case measure => simp [intOf]
end Go.Proofs.Ytmkkibaacclhnaa
