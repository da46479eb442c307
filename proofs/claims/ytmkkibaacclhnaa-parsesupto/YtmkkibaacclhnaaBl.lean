/-
  A step of the walk of the numbers, the part named Bl: the digits of a text, and noughts at either end left out, by the document's answer. No theorem of the row.
-/
import Derived.Test.YtmkkibaacclhnaaXab
namespace Go.Proofs.Ytmkkibaacclhnaa
open Go.RowKit

set_option maxRecDepth 100000 in
set_option maxHeartbeats 2000000 in
theorem isDigit_any (c : UInt8) (w : World) : Calls Try.prog 73 #[.int .u8 (c.toNat : Int)] w fun e w' => e = .returned (.bool (isD c)) ∧ w' = w := by
  cases hd : isD c
  · have hr := mt (isD_iff c).2 (by rw [hd]; simp)
    by_cases ha : 48 ≤ c.toNat
    · have hb : 57 < c.toNat := by omega
      clear hr hd
      generalize c.toNat = x at *
      go_enter Try.func73, Try.ntmps73
      go_wp2
      go_ret
      exact ⟨by simp; omega, rfl⟩
    · clear hr hd
      generalize c.toNat = x at *
      go_enter Try.func73, Try.ntmps73
      go_wp2
      go_ret
      exact ⟨rfl, rfl⟩
  · obtain ⟨ha, hb⟩ := (isD_iff c).1 hd
    clear hd
    generalize c.toNat = x at *
    go_enter Try.func73, Try.ntmps73
    go_wp2
    go_ret
    exact ⟨by simp; omega, rfl⟩

/-- where the digits end that stand at a place -/
def dend (l : List UInt8) (k : Nat) : Nat := k + ((l.drop k).takeWhile isD).length
theorem dend_no (l : List UInt8) (k : Nat) (h : l.length ≤ k ∨ ∃ h : k < l.length, isD l[k] = false) : dend l k = k := by
  unfold dend
  rcases h with h | ⟨h, h2⟩
  · rw [List.drop_of_length_le h]; rfl
  · rw [List.drop_eq_getElem_cons h, List.takeWhile_cons, h2]; rfl
theorem dend_yes (l : List UInt8) (k : Nat) (h : k < l.length) (h2 : isD l[k] = true) : dend l k = dend l (k + 1) := by
  unfold dend
  rw [List.drop_eq_getElem_cons h, List.takeWhile_cons, h2, if_pos rfl, List.length_cons]
  omega

set_option maxRecDepth 100000 in
set_option maxHeartbeats 2000000 in
theorem rdigits_any (l : List UInt8) (k : Nat) (w : World) (hl : l.length ≤ 100000000) (hk : k ≤ l.length) :
    Calls Try.prog 50 #[.string (ofL l), .int .i64 (k : Int)] w fun e w' => e = .returned (.int .i64 (dend l k : Nat)) ∧ w' = w := by
  have hsz := ofL_size l
  go_enter Try.func50, Try.ntmps50
  go_wp2
  go_loop [1] (fun i => ∃ j : Nat, j ≤ l.length ∧ i = .int .i64 j ∧ Hid (dend l k = dend l j)) (fun i => l.length - (intOf i).toNat)
  case atStart => exact ⟨k, hk, rfl, hid rfl⟩
  case round =>
    obtain ⟨j, hj, rfl, hE⟩ := hrel
    by_cases hlt : j < l.length
    · have hg : (ofL l)[j]'(by rw [hsz]; exact hlt) = l[j] := ofL_get l j _
      cases hd : isD l[j]
      · have HE := hid (hE.out.trans (dend_no l j (.inr ⟨hlt, hd⟩)))
        clear hE
        generalize l[j] = c at *
        have hd' : isD c = false := hd
        go_wp2_with (go_at_call 73; refine (isDigit_any c _).mono ?_; rintro e w' ⟨rfl, rfl⟩; rw [hd'])
        go_ret
        exact ⟨by rw [HE.out]; rfl, rfl⟩
      · have HE := hid (hE.out.trans (dend_yes l j hlt hd))
        clear hE
        generalize l[j] = c at *
        have hd' : isD c = true := hd
        go_wp2_with (go_at_call 73; refine (isDigit_any c _).mono ?_; rintro e w' ⟨rfl, rfl⟩; rw [hd'])
        go_round
        case rel => exact ⟨j + 1, by omega, by go_num, HE⟩
        case measure => simp [intOf]; omega
    · have HE := hid (hE.out.trans (dend_no l j (.inl (by omega))))
      clear hE
      go_wp2
      go_ret
      exact ⟨by rw [HE.out]; rfl, rfl⟩
end Go.Proofs.Ytmkkibaacclhnaa
