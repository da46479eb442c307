/-
  A step of the walk of the numbers, the part named Power. No theorem of the row.
-/
import Derived.Test.YtldihimiblndcaaAdd
namespace Go.Proofs.Ytldihimiblndcaa
open Go.RowKit

/-- the pieces of a token as a value -/
def partsV (neg : Bool) (wh fr : ByteArray) (en : Bool) (ex : ByteArray) : Array Value := #[.bool neg, .string wh, .string fr, .bool en, .string ex]

theorem num_le_step (ds : List Nat) (d L : Nat) : min (min (num ds) L * 10 + d) L = min (num (ds ++ [d])) L := by
  rw [num_snoc]
  omega

/-- the exponent, drawn in to a bound -/
def powN (wh fr ex : ByteArray) : Nat := min (num (dig ex)) (wh.size + fr.size + 632)
def powI (wh fr : ByteArray) (en : Bool) (ex : ByteArray) : Int := if en then -(powN wh fr ex : Int) else (powN wh fr ex : Int)

set_option maxRecDepth 100000 in
set_option maxHeartbeats 2000000 in
theorem power_any (neg : Bool) (wh fr : ByteArray) (en : Bool) (ex : ByteArray) (w : World) (h1 : wh.size ≤ 140737488355328) (h2 : fr.size ≤ 140737488355328) (h3 : ex.size ≤ 140737488355328) (hd : AllDig ex) :
    Calls Try.prog 37 #[.agg #[.bool neg, .string wh, .string fr, .bool en, .string ex]] w fun e w' => e = .returned (.int .i64 (powI wh fr en ex)) ∧ w' = w.alloc (.cells #[.bool neg, .string wh, .string fr, .bool en, .string ex] 40) := by
  go_enter Try.func37, Try.ntmps37
  go_wp2
  go_loop [4, 5, 18] (fun p _ i => ∃ k : Nat, k ≤ ex.size ∧ i = .int .i64 k ∧ p = .int .i64 (min (num ((dig ex).take k)) (wh.size + fr.size + 632) : Nat)) (fun _ _ i => ex.size - (intOf i).toNat)
  case atStart => exact ⟨0, by omega, rfl, rfl⟩
  case round =>
    obtain ⟨k, hk, rfl, rfl⟩ := hrel
    by_cases hlt : k < ex.size
    · have hc := hd.at k hlt
      have hst := num_le_step ((dig ex).take k) (ex[k].toNat - 48) (wh.size + fr.size + 632)
      rw [← dig_take ex k hlt] at hst
      have HS := hid hst
      have hle : min (num ((dig ex).take k)) (wh.size + fr.size + 632) ≤ wh.size + fr.size + 632 := Nat.min_le_right _ _
      clear hst
      generalize min (num ((dig ex).take k)) (wh.size + fr.size + 632) = p at *
      go_wp2
      go_round
      case rel => exact ⟨k + 1, by omega, by go_num, by rw [← HS.out]; go_num⟩
      case measure => simp [intOf]; omega
    · obtain rfl : k = ex.size := by omega
      rw [List.take_of_length_le (by rw [dig_length]; omega)]
      have hle : min (num (dig ex)) (wh.size + fr.size + 632) ≤ wh.size + fr.size + 632 := Nat.min_le_right _ _
      have hp : Hid (powN wh fr ex = min (num (dig ex)) (wh.size + fr.size + 632)) := rfl
      generalize min (num (dig ex)) (wh.size + fr.size + 632) = p at *
      cases en
      · go_wp2
        go_ret
        exact ⟨by rw [powI, hp.out]; rfl, rfl⟩
      · go_wp2
        go_ret
        exact ⟨by rw [powI, hp.out]; rfl, rfl⟩
end Go.Proofs.Ytldihimiblndcaa
