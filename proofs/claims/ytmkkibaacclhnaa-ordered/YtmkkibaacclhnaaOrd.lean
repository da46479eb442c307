/-
  A step of the walk of the numbers, the part named Ord. No theorem of the row.
-/
import Derived.Test.YtmkkibaacclhnaaKep
namespace Go.Proofs.Ytmkkibaacclhnaa
open Go.RowKit

theorem pick_any53 (c : Int) (w : World) (h1 : -9223372036854775808 ≤ c) (h2 : c < 9223372036854775808) :
    Calls Try.prog 22 #[.int .i64 c, .int .i64 9007199254740992] w fun e w' => ∃ k : Nat, k < 9007199254740992 ∧ e = .returned (.int .i64 k) ∧ w' = w := by
  rcases Int.lt_or_le c 0 with h | h
  · refine (pick_neg c w h1 h).mono ?_
    rintro e w' ⟨he, hw⟩
    exact ⟨((-(c + 1)) % 9007199254740992).toNat, by omega, by rw [he]; congr 2; omega, hw⟩
  · refine (pick_pos c w h h2).mono ?_
    rintro e w' ⟨he, hw⟩
    exact ⟨(c % 9007199254740992).toNat, by omega, by rw [he]; congr 2; omega, hw⟩

theorem ofL_ne {a b : List UInt8} (h : a ≠ b) : ((ofL a).toList == (ofL b).toList) = false := by
  rw [ofL_toList, ofL_toList, beq_eq_false_iff_ne]; exact h

/-- what is printed for a whole number -/
theorem whole_pt {k n : Nat} {X : List UInt8} (hk : k < 9007199254740992) (h0 : k = 0 ↔ n = 0) (hv : k ≠ 0 → V n = k * p2 1074 ∧ (manE n).2 ≤ 1074) (h : PT n X) : X = dgs k := by
  rcases h with ⟨hz, rfl⟩ | ⟨hz, D, pw, h1, h2, h3, h4, rfl⟩
  · rw [h0.2 hz, dgs_lt (by omega)]; rfl
  · have hk0 : k ≠ 0 := fun h => hz (h0.1 h)
    exact whole_print hk0 hk hz (hv hk0).1 (hv hk0).2 h1

set_option maxRecDepth 100000 in
set_option maxHeartbeats 4000000 in
theorem ordered_any (bits : Nat) (c : Int) (w : World) (hb : bits < 18446744073709551616) (h1 : -9223372036854775808 ≤ c) (h2 : c < 9223372036854775808) :
    Calls Try.prog 6 #[.int .u64 bits, .int .i64 c] w fun e w' => e = .returned (.bool true) ∧ Fr (fun _ => False) w w' := by
  have hB := hid hb
  have HC := hid (And.intro h1 h2)
  clear hb h1 h2
  go_enter Try.func6, Try.ntmps6
  go_wp2_with fail
  refine (known_any _).mono ?_
  rintro e w1 ⟨rfl, hF1⟩
  have H1 := hid hF1
  clear hF1
  go_wp2_with fail
  refine (pick_any53 c _ HC.out.1 HC.out.2).mono ?_
  rintro e w2 ⟨k, hk, rfl, rfl⟩
  have HK := hid hk
  clear hk
  go_wp2_with fail
  refine (decimal_nat k HK.out _).mono ?_
  rintro e w3 ⟨rfl, rfl⟩
  go_wp2_with fail
  refine (parse_whole k HK.out _).mono ?_
  rintro e w4 ⟨n, hn, h0, hv, rfl, hF4⟩
  have HN := hid hn
  have H0 := hid h0
  have HV := hid hv
  have H4 := hid hF4
  clear hn h0 hv hF4
  go_wp2_with fail
  refine (print_pt n (by have := HN.out; omega) _).mono ?_
  rintro e w5 ⟨X, hX, rfl, hF5⟩
  have hX := whole_pt HK.out H0.out HV.out hX
  subst hX
  have H5 := hid hF5
  clear hF5
  go_wp2_with fail
  refine (decimal_nat k HK.out _).mono ?_
  rintro e w6 ⟨rfl, rfl⟩
  have hkd : decide ((k : Int) < 9007199254740992) = true := decide_eq_true (by have := HK.out; omega)
  obtain ⟨q, hq⟩ : ∃ q, (ofL (dgs k)).size = q := ⟨_, rfl⟩
  have hq2 : q ≤ 21 := by rw [← hq, ofL_size]; have := dgs_len20 k (by have := HK.out; omega); omega
  have hkb : ((0 : Int) < (k : Int)) → (((n : Int) == 0)) = false := by
    intro hz
    have : n ≠ 0 := fun h => by have := H0.out.2 h; omega
    exact beq_eq_false_iff_ne.2 (by omega : (n : Int) ≠ 0)
  have hnn : (0 : Int) ≤ (k : Int) := by omega
  obtain ⟨low, hlow, hl63⟩ : ∃ low : Nat, Int.tmod (bits : Int) 9223372036854775808 = low ∧ low < 9223372036854775808 := ⟨bits % 9223372036854775808, by rw [Int.tmod_eq_emod_of_nonneg (by omega)]; omega, by omega⟩
  have HL := hid hl63
  have HW := hid ((H1.out.trans H4.out).trans H5.out)
  clear hl63
  generalize ofL (dgs k) = T at *
  generalize (k : Int) = K at *
  generalize (n : Int) = N at *
  generalize (bits : Int) = BB at *
  clear H1 H4 H5 HV H0 HN HK hB HC hX
  by_cases hd : 9218868437227405311 ≤ low
  · have hd' : decide ((9218868437227405311 : Int) ≤ (low : Int)) = true := decide_eq_true (by omega)
    clear hd
    generalize (low : Int) = LL at *
    by_cases hK0 : (0 : Int) < K
    · have hN := hkb hK0
      clear hkb
      go_wp2_with fail
      go_ret
      exact ⟨rfl, HW.out⟩
    · clear hkb
      go_wp2_with fail
      go_ret
      exact ⟨rfl, HW.out⟩
  · have hd' : decide ((9218868437227405311 : Int) ≤ (low : Int)) = false := decide_eq_false (by omega)
    have HD := hid hd
    clear hd
    obtain ⟨LL, hLL⟩ : ∃ LL : Int, (low : Int) = LL := ⟨_, rfl⟩
    rw [hLL] at hlow hd'
    have HLL := hid hLL
    clear hLL
    by_cases hK0 : (0 : Int) < K
    · have hN := hkb hK0
      clear hkb
      go_wp2_with fail
      obtain rfl : (low : Int) = LL := HLL.out
      clear hkd hnn hq hq2 hlow hd'
      have hlt : (low : Int) < 9218868437227405311 := by have := HD.out; omega
      refine (print_pt low (by have := HD.out; omega) _).mono ?_
      rintro e w7 ⟨X, hX, rfl, hF7⟩
      have HX := hid hX
      have H7 := hid hF7
      clear hX hF7
      go_wp2_with fail
      rw [show (low : Int) + 1 = ((low + 1 : Nat) : Int) by omega]
      refine (print_pt (low + 1) (by have := HD.out; omega) _).mono ?_
      rintro e w8 ⟨Y, hY, rfl, hF8⟩
      have HY := hid hY
      have H8 := hid hF8
      clear hY hF8
      go_wp2_with fail
      refine (same_true _ low _ (HX.out.parse (by have := HD.out; omega) _)).mono ?_
      rintro e w9 ⟨rfl, hF9⟩
      have H9 := hid hF9
      clear hF9
      go_wp2_with fail
      rw [show (low : Int) + 1 = ((low + 1 : Nat) : Int) by omega]
      refine (same_true _ (low + 1) _ (HY.out.parse (by have := HD.out; omega) _)).mono ?_
      rintro e w10 ⟨rfl, hF10⟩
      have H10 := hid hF10
      clear hF10
      go_wp2_with fail
      refine (tail_any X _ (by have := HX.out.len; omega)).mono ?_
      rintro e w11 ⟨rfl, rfl⟩
      have hz1 : (ofL X).size ≤ 100 := by rw [ofL_size]; exact HX.out.len
      have hz2 : (ofL (tailL X)).size ≤ 41 := by rw [ofL_size]; exact tailL_len X
      go_wp2_with fail
      rw [ofL_append]
      refine (HX.out.parse_tail (by have := HD.out; omega) _).mono ?_
      rintro e w12 ⟨rfl, hF12⟩
      have HF := hid (((((HW.out.trans H7.out).trans H8.out).trans H9.out).trans H10.out).trans hF12)
      have hne : ((ofL X).toList == (ofL Y).toList) = false := ofL_ne (fun h => PT.apart (by have := HD.out; omega) HX.out (h ▸ HY.out))
      clear hF12 HW H7 H8 H9 H10
      clear hlt
      generalize ofL X = XX at *
      generalize ofL Y = YY at *
      generalize (low : Int) = LL at *
      go_wp2
      go_ret
      exact ⟨rfl, HF.out⟩
    · clear hkb
      go_wp2_with fail
      obtain rfl : (low : Int) = LL := HLL.out
      clear hkd hnn hq hq2 hlow hd'
      have hlt : (low : Int) < 9218868437227405311 := by have := HD.out; omega
      refine (print_pt low (by have := HD.out; omega) _).mono ?_
      rintro e w7 ⟨X, hX, rfl, hF7⟩
      have HX := hid hX
      have H7 := hid hF7
      clear hX hF7
      go_wp2_with fail
      rw [show (low : Int) + 1 = ((low + 1 : Nat) : Int) by omega]
      refine (print_pt (low + 1) (by have := HD.out; omega) _).mono ?_
      rintro e w8 ⟨Y, hY, rfl, hF8⟩
      have HY := hid hY
      have H8 := hid hF8
      clear hY hF8
      go_wp2_with fail
      refine (same_true _ low _ (HX.out.parse (by have := HD.out; omega) _)).mono ?_
      rintro e w9 ⟨rfl, hF9⟩
      have H9 := hid hF9
      clear hF9
      go_wp2_with fail
      rw [show (low : Int) + 1 = ((low + 1 : Nat) : Int) by omega]
      refine (same_true _ (low + 1) _ (HY.out.parse (by have := HD.out; omega) _)).mono ?_
      rintro e w10 ⟨rfl, hF10⟩
      have H10 := hid hF10
      clear hF10
      go_wp2_with fail
      refine (tail_any X _ (by have := HX.out.len; omega)).mono ?_
      rintro e w11 ⟨rfl, rfl⟩
      have hz1 : (ofL X).size ≤ 100 := by rw [ofL_size]; exact HX.out.len
      have hz2 : (ofL (tailL X)).size ≤ 41 := by rw [ofL_size]; exact tailL_len X
      go_wp2_with fail
      rw [ofL_append]
      refine (HX.out.parse_tail (by have := HD.out; omega) _).mono ?_
      rintro e w12 ⟨rfl, hF12⟩
      have HF := hid (((((HW.out.trans H7.out).trans H8.out).trans H9.out).trans H10.out).trans hF12)
      have hne : ((ofL X).toList == (ofL Y).toList) = false := ofL_ne (fun h => PT.apart (by have := HD.out; omega) HX.out (h ▸ HY.out))
      clear hF12 HW H7 H8 H9 H10
      clear hlt
      generalize ofL X = XX at *
      generalize ofL Y = YY at *
      generalize (low : Int) = LL at *
      go_wp2
      go_ret
      exact ⟨rfl, HF.out⟩
end Go.Proofs.Ytmkkibaacclhnaa
