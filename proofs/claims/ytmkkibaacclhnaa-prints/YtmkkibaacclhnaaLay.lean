/-
  A step of the walk of the numbers, the part named Lay. No theorem of the row.
-/
import Derived.Test.YtmkkibaacclhnaaDgs
namespace Go.Proofs.Ytmkkibaacclhnaa
open Go.RowKit

theorem ofL_append (a b : List UInt8) : ofL a ++ ofL b = ofL (a ++ b) := by
  apply ByteArray.ext; simp [ofL]

def expL (l : List UInt8) (e : Int) : List UInt8 := l.take 1 ++ (if 1 < l.length then 46 :: l.drop 1 else []) ++ (if e < 0 then [101, 45] ++ dgs (-e).toNat else [101, 43] ++ dgs e.toNat)

set_option maxRecDepth 100000 in
set_option maxHeartbeats 2000000 in
theorem withExponent_any (l : List UInt8) (x : Int) (w : World) (hl0 : 0 < l.length) (hl : l.length ≤ 20) (hx1 : -6000 ≤ x) (hx2 : x ≤ 6000) :
    Calls Try.prog 56 #[.string (ofL l), .int .i64 x] w fun e w' => e = .returned (.string (ofL (expL l x))) ∧ Fr (fun _ => False) w w' := by
  have hsz := ofL_size l
  have z1 : (ofL (l.take 1)).size = 1 := by rw [ofL_size, List.length_take]; omega
  have z2 : (ofL l.tail).size = l.length - 1 := by rw [ofL_size, List.length_tail]
  have z3 : (ByteArray.mk #[46]).size = 1 := rfl
  have e1 : (ofL l).extract 0 1 = ofL (l.take 1) := by rw [ofL_extract, List.drop_zero]
  have e2 : (ofL l).extract 1 l.length = ofL (l.drop 1) := by rw [ofL_extract, List.take_length]
  by_cases h1 : 1 < l.length
  · by_cases hn : x < 0
    · obtain ⟨k, rfl⟩ : ∃ k : Nat, x = -(k : Int) := ⟨(-x).toNat, by omega⟩
      have z4 : (ofL (dgs k)).size ≤ 20 := by rw [ofL_size]; exact dgs_len20 k (by omega)
      go_enter Try.func56, Try.ntmps56
      go_wp2_with fail
      refine (digitsOf_any k _ (by omega)).mono ?_
      rintro e w' ⟨rfl, hF⟩
      go_wp2
      go_ret
      refine ⟨?_, hF⟩
      have hn' : (-(k : Int) < 0) := by omega
      show Ending.returned (Value.string (ofL (l.take 1) ++ (ofL [46] ++ ofL l.tail) ++ ofL [101, 45] ++ ofL (dgs k))) = _
      simp only [ofL_append]
      unfold expL
      rw [if_pos h1, if_pos hn', show (-(-(k : Int))).toNat = k from by omega]
      simp
    · obtain ⟨k, rfl⟩ : ∃ k : Nat, x = (k : Int) := ⟨x.toNat, by omega⟩
      have z4 : (ofL (dgs k)).size ≤ 20 := by rw [ofL_size]; exact dgs_len20 k (by omega)
      go_enter Try.func56, Try.ntmps56
      go_wp2_with fail
      refine (digitsOf_any k _ (by omega)).mono ?_
      rintro e w' ⟨rfl, hF⟩
      go_wp2
      go_ret
      refine ⟨?_, hF⟩
      have hn' : ¬ ((k : Int) < 0) := by omega
      show Ending.returned (Value.string (ofL (l.take 1) ++ (ofL [46] ++ ofL l.tail) ++ ofL [101, 43] ++ ofL (dgs k))) = _
      simp only [ofL_append]
      unfold expL
      rw [if_pos h1, if_neg hn', show ((k : Int)).toNat = k from by omega]
      simp
  · by_cases hn : x < 0
    · obtain ⟨k, rfl⟩ : ∃ k : Nat, x = -(k : Int) := ⟨(-x).toNat, by omega⟩
      have z4 : (ofL (dgs k)).size ≤ 20 := by rw [ofL_size]; exact dgs_len20 k (by omega)
      go_enter Try.func56, Try.ntmps56
      go_wp2_with fail
      refine (digitsOf_any k _ (by omega)).mono ?_
      rintro e w' ⟨rfl, hF⟩
      go_wp2
      go_ret
      refine ⟨?_, hF⟩
      have hn' : (-(k : Int) < 0) := by omega
      show Ending.returned (Value.string (ofL (l.take 1) ++ ofL [101, 45] ++ ofL (dgs k))) = _
      simp only [ofL_append]
      unfold expL
      rw [if_neg h1, if_pos hn', show (-(-(k : Int))).toNat = k from by omega]
      simp
    · obtain ⟨k, rfl⟩ : ∃ k : Nat, x = (k : Int) := ⟨x.toNat, by omega⟩
      have z4 : (ofL (dgs k)).size ≤ 20 := by rw [ofL_size]; exact dgs_len20 k (by omega)
      go_enter Try.func56, Try.ntmps56
      go_wp2_with fail
      refine (digitsOf_any k _ (by omega)).mono ?_
      rintro e w' ⟨rfl, hF⟩
      go_wp2
      go_ret
      refine ⟨?_, hF⟩
      have hn' : ¬ ((k : Int) < 0) := by omega
      show Ending.returned (Value.string (ofL (l.take 1) ++ ofL [101, 43] ++ ofL (dgs k))) = _
      simp only [ofL_append]
      unfold expL
      rw [if_neg h1, if_neg hn', show ((k : Int)).toNat = k from by omega]
      simp

/-- the token of digits l times 10^pw -/
def layL (l : List UInt8) (pw : Int) : List UInt8 :=
  if (l.length : Int) + pw > 21 ∨ (l.length : Int) + pw < -5 then expL l ((l.length : Int) + pw - 1)
  else if (l.length : Int) + pw ≤ 0 then [48, 46] ++ List.replicate (-((l.length : Int) + pw)).toNat 48 ++ l
  else if 0 ≤ pw then l ++ List.replicate pw.toNat 48
  else l.take ((l.length : Int) + pw).toNat ++ [46] ++ l.drop ((l.length : Int) + pw).toNat

set_option maxRecDepth 100000 in
set_option maxHeartbeats 2000000 in
theorem layOut_any (D : Nat) (pw : Int) (w : World) (hD : D < 18446744073709551616) (h1 : -5000 ≤ pw) (h2 : pw ≤ 5000) :
    Calls Try.prog 35 #[.int .u64 D, .int .i64 pw] w fun e w' => e = .returned (.string (ofL (layL (dgs D) pw))) ∧ Fr (fun _ => False) w w' := by
  have hl := dgs_len20 D hD
  have hl0 := dgs_pos D
  have hdg := digitsOf_any D w hD
  generalize dgs D = l at *
  have hsz := ofL_size l
  by_cases c1 : 21 < (l.length : Int) + pw
  · go_enter Try.func35, Try.ntmps35
    go_wp2_with fail
    refine hdg.mono ?_
    rintro e w1 ⟨rfl, hF⟩
    go_wp2_with fail
    refine (withExponent_any l _ _ hl0 hl (by omega) (by omega)).mono ?_
    rintro e w2 ⟨rfl, hF2⟩
    go_wp2
    go_ret
    exact ⟨by unfold layL; rw [if_pos (.inl c1)]; rfl, hF.trans hF2⟩
  · by_cases c2 : (l.length : Int) + pw < -5
    · go_enter Try.func35, Try.ntmps35
      go_wp2_with fail
      refine hdg.mono ?_
      rintro e w1 ⟨rfl, hF⟩
      go_wp2_with fail
      refine (withExponent_any l _ _ hl0 hl (by omega) (by omega)).mono ?_
      rintro e w2 ⟨rfl, hF2⟩
      go_wp2
      go_ret
      exact ⟨by unfold layL; rw [if_pos (.inr c2)]; rfl, hF.trans hF2⟩
    · by_cases c3 : (l.length : Int) + pw ≤ 0
      · obtain ⟨k, hk⟩ : ∃ k : Nat, (l.length : Int) + pw = -(k : Int) := ⟨(-((l.length : Int) + pw)).toNat, by omega⟩
        have z1 : (ofL (List.replicate k 48)).size = k := by rw [ofL_size, List.length_replicate]
        go_enter Try.func35, Try.ntmps35
        go_wp2_with fail
        refine hdg.mono ?_
        rintro e w1 ⟨rfl, hF⟩
        go_wp2_with fail
        refine (noughts_any k _ (by omega)).mono ?_
        rintro e w2 ⟨rfl, rfl⟩
        go_wp2
        go_ret
        refine ⟨?_, hF⟩
        show Ending.returned (Value.string (ofL [48, 46] ++ ofL (List.replicate k 48) ++ ofL l)) = _
        simp only [ofL_append]
        unfold layL
        rw [if_neg (by omega), if_pos c3, show (-((l.length : Int) + pw)).toNat = k from by omega]
      · by_cases c4 : 0 ≤ pw
        · obtain ⟨k, rfl⟩ : ∃ k : Nat, pw = (k : Int) := ⟨pw.toNat, by omega⟩
          have z1 : (ofL (List.replicate k 48)).size = k := by rw [ofL_size, List.length_replicate]
          go_enter Try.func35, Try.ntmps35
          go_wp2_with fail
          refine hdg.mono ?_
          rintro e w1 ⟨rfl, hF⟩
          go_wp2_with fail
          refine (noughts_any k _ (by omega)).mono ?_
          rintro e w2 ⟨rfl, rfl⟩
          go_wp2
          go_ret
          refine ⟨?_, hF⟩
          show Ending.returned (Value.string (ofL l ++ ofL (List.replicate k 48))) = _
          simp only [ofL_append]
          unfold layL
          rw [if_neg (by omega), if_neg (by omega), if_pos (by omega), show (k : Int).toNat = k from by omega]
        · obtain ⟨k, hk⟩ : ∃ k : Nat, (l.length : Int) + pw = (k : Int) := ⟨((l.length : Int) + pw).toNat, by omega⟩
          have z1 : (ofL (l.take k)).size = k := by rw [ofL_size, List.length_take]; omega
          have z2 : (ofL (l.drop k)).size = l.length - k := by rw [ofL_size, List.length_drop]
          have e1 : (ofL l).extract 0 k = ofL (l.take k) := by rw [ofL_extract, List.drop_zero]
          have e2 : (ofL l).extract k l.length = ofL (l.drop k) := by rw [ofL_extract, List.take_length]
          go_enter Try.func35, Try.ntmps35
          go_wp2_with fail
          refine hdg.mono ?_
          rintro e w1 ⟨rfl, hF⟩
          go_wp2
          go_region
          go_wp2
          go_ret
          refine ⟨?_, hF.drewN _⟩
          show Ending.returned (Value.string (ofL (l.take k) ++ ofL [46] ++ ofL (l.drop k))) = _
          simp only [ofL_append]
          unfold layL
          rw [if_neg (by omega), if_neg (by omega), if_neg (by omega), show ((l.length : Int) + pw).toNat = k from by omega]
end Go.Proofs.Ytmkkibaacclhnaa
