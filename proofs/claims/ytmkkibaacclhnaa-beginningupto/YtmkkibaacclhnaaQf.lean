/-
  A step of the walk of the parser, the part named Qf: a number picked; two lists of items that are the same. No theorem of the row.
-/
import Derived.Test.YtmkkibaacclhnaaPop
namespace Go.Proofs.Ytmkkibaacclhnaa
open Go.RowKit

set_option maxRecDepth 100000 in
set_option maxHeartbeats 4000000 in
theorem pick_gen (c : Int) (n : Nat) (w : World) (h1 : -9223372036854775808 ≤ c) (h2 : c < 9223372036854775808) (hn : 1 ≤ n) (hn2 : n ≤ 2000000000) :
    Calls Try.prog 22 #[.int .i64 c, .int .i64 (n : Int)] w fun e w' => ∃ k : Nat, k < n ∧ e = .returned (.int .i64 (k : Int)) ∧ w' = w := by
  rcases Int.lt_or_le c 0 with h | h
  · have hm := Int.emod_lt_of_pos (-(c + 1)) (show (0 : Int) < n by omega)
    have hp := Int.emod_nonneg (-(c + 1)) (show (n : Int) ≠ 0 by omega)
    have e : Int.tmod (-(c + 1)) n = (-(c + 1)) % n := Int.tmod_eq_emod_of_nonneg (by omega)
    obtain ⟨k, hk⟩ : ∃ k : Nat, (-(c + 1)) % (n : Int) = (k : Int) := ⟨((-(c + 1)) % (n : Int)).toNat, by omega⟩
    rw [hk] at e hm hp
    have HK := hid (show k < n by omega)
    clear hm hp hk
    go_enter Try.func22, Try.ntmps22
    go_wp2
    go_ret
    exact ⟨k, HK.out, rfl, rfl⟩
  · have hm := Int.emod_lt_of_pos c (show (0 : Int) < n by omega)
    have hp := Int.emod_nonneg c (show (n : Int) ≠ 0 by omega)
    have e : Int.tmod c n = c % n := Int.tmod_eq_emod_of_nonneg (by omega)
    obtain ⟨k, hk⟩ : ∃ k : Nat, c % (n : Int) = (k : Int) := ⟨(c % (n : Int)).toNat, by omega⟩
    rw [hk] at e hm hp
    have HK := hid (show k < n by omega)
    clear hm hp hk
    go_enter Try.func22, Try.ntmps22
    go_wp2
    go_ret
    exact ⟨k, HK.out, rfl, rfl⟩

theorem slice_len {w : World} {e n k cap : Nat} {a : Option Addr} {size : Nat} {xs : List Value} (h : w.ownsRow 0 e size (.slice a n cap) k xs) : n = k := by
  rcases h.2 with ⟨h, h2⟩ | ⟨_, _, _, h, _⟩
  · simp at h; omega
  · simp at h; exact h.2.1
theorem row_some {w : World} {e n k cap : Nat} {a : Option Addr} {size : Nat} {xs : List Value} (h : w.ownsRow 0 e size (.slice a n cap) k xs) (hk : 0 < k) : ∃ g, a = some ⟨g, 0, none⟩ := by
  rcases h.2 with ⟨_, h2⟩ | ⟨g, _, _, h, _⟩
  · omega
  · simp at h; exact ⟨g, h.1⟩

set_option maxRecDepth 100000 in
set_option maxHeartbeats 8000000 in
theorem same_any (l : List It) (V U : Value) (w : World) (hl : l.length ≤ 10000000) (h1 : w.ownsRow 0 81 4 V l.length (itsV l)) (h2 : w.ownsRow 0 81 4 U l.length (itsV l)) :
    Calls Try.prog 28 #[V, U] w fun e w' => e = .returned (.bool true) ∧ Fr (fun _ => False) w w' := by
  obtain ⟨a, n, ca, rfl⟩ := row_shape3 h1
  obtain ⟨b, n', cb, rfl⟩ := row_shape3 h2
  obtain rfl := slice_len h1
  obtain rfl := slice_len h2
  have H1 := hid h1
  have H2 := hid h2
  clear h1 h2
  go_enter Try.func28, Try.ntmps28
  go_wp2
  go_loopw [5] (fun i wr => ∃ k : Nat, k ≤ l.length ∧ i = .int .i64 k ∧ Hid (Fr (fun _ => False) w wr)) (fun i _ => l.length - (intOf i).toNat)
  case atStart => exact ⟨0, by omega, rfl, hid (Fr.refl _ _)⟩
  case round =>
    obtain ⟨k, hk, rfl, hF⟩ := hrel
    by_cases hlt : k < l.length
    · have r1 := rowFr H1.out hF.out (fun _ _ => id)
      have r2 := rowFr H2.out hF.out (fun _ _ => id)
      obtain ⟨ga, rfl⟩ := row_some r1 (by omega)
      obtain ⟨gb, rfl⟩ := row_some r2 (by omega)
      obtain ⟨x, hx⟩ : ∃ x, l[k]? = some x := ⟨l[k], List.getElem?_eq_getElem hlt⟩
      have c10 := rowCell r1 (k * 4 + 0) _ (itsV_get l k 0 x hx (by omega))
      have c11 := rowCell r1 (k * 4 + 1) _ (itsV_get l k 1 x hx (by omega))
      have c12 := rowCell r1 (k * 4 + 2) _ (itsV_get l k 2 x hx (by omega))
      have c13 := rowCell r1 (k * 4 + 3) _ (itsV_get l k 3 x hx (by omega))
      have c20 := rowCell r2 (k * 4 + 0) _ (itsV_get l k 0 x hx (by omega))
      have c21 := rowCell r2 (k * 4 + 1) _ (itsV_get l k 1 x hx (by omega))
      have c22 := rowCell r2 (k * 4 + 2) _ (itsV_get l k 2 x hx (by omega))
      have c23 := rowCell r2 (k * 4 + 3) _ (itsV_get l k 3 x hx (by omega))
      obtain ⟨xk, xn, xb, xs⟩ := x
      simp only [Nat.add_zero] at c10 c11 c12 c13 c20 c21 c22 c23
      clear r1 r2 hx
      go_wp2
      go_region
      all_goals
        go_wp2
        go_roundw
        case rel => exact ⟨k + 1, by omega, by go_num, hid hF.out.drew⟩
        case measure => simp [intOf]; omega
    · obtain rfl : k = l.length := by omega
      go_wp2
      go_ret
      exact ⟨rfl, hF.out⟩
end Go.Proofs.Ytmkkibaacclhnaa
