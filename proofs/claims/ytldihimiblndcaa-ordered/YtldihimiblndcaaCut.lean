/-
  A step of the walk of the numbers, the part named Cut. No theorem of the row.
-/
import Derived.Test.YtldihimiblndcaaPower
import Derived.Lib.Strings
namespace Go.Proofs.Ytldihimiblndcaa
open Go.RowKit

def ofL (l : List UInt8) : ByteArray := ⟨l.toArray⟩
theorem ofL_size (l : List UInt8) : (ofL l).size = l.length := by simp [ofL, ByteArray.size]
theorem ofL_data (s : ByteArray) : ofL s.data.toList = s := by cases s; simp [ofL]
theorem ofL_extract (l : List UInt8) (a b : Nat) : (ofL l).extract a b = ofL ((l.take b).drop a) := by
  apply ByteArray.ext
  simp [ofL, List.drop_take]
theorem ofL_toList (l : List UInt8) : (ofL l).toList = l := by rw [Lib.toList_data]; simp [ofL]
theorem ofL_get (l : List UInt8) (k : Nat) (h : k < (ofL l).size) : (ofL l)[k] = l[k]'(by rw [ofL_size] at h; exact h) := by
  show (ofL l).data[k] = _
  simp [ofL]

set_option maxRecDepth 100000 in
set_option maxHeartbeats 1000000 in
theorem hasPrefix_any (l : List UInt8) (c : UInt8) (w : World) (hl : l.length ≤ 9000000000000000000) :
    Calls Try.prog 81 #[.string (ofL l), .string ⟨#[c]⟩] w fun e w' => e = .returned (.bool (l.head? == some c)) ∧ w' = w := by
  cases l with
  | nil =>
    go_enter Try.func81, Try.ntmps81
    go_wp2
    go_ret
    exact ⟨rfl, rfl⟩
  | cons x r =>
    have hsz := ofL_size (x :: r)
    have hx := ofL_extract (x :: r) 0 1
    have hlen : (x :: r).length = r.length + 1 := rfl
    rw [hlen] at hsz hl
    clear hlen
    go_enter Try.func81, Try.ntmps81
    go_wp2
    go_ret
    refine ⟨?_, rfl⟩
    show Ending.returned (.bool ((ofL [x]).toList == [c])) = _
    rw [ofL_toList]
    simp

/-- what stands behind a first byte -/
def cutP (c : UInt8) (l : List UInt8) : List UInt8 × Bool := if l.head? = some c then (l.tail, true) else (l, false)

set_option maxRecDepth 100000 in
set_option maxHeartbeats 1000000 in
theorem cutPrefix0_any (l : List UInt8) (c : UInt8) (w : World) (hl : l.length ≤ 9000000000000000000) :
    Calls Try.prog 56 #[.string (ofL l), .string ⟨#[c]⟩] w fun e w' => e = .returned (.tuple #[.string (ofL (cutP c l).1), .bool (cutP c l).2]) ∧ w' = w := by
  by_cases hh : l.head? = some c
  · have hb : (l.head? == some c) = true := by simp [hh]
    have hc : Hid (cutP c l = (l.tail, true)) := if_pos hh
    have hx : (ofL l).extract 1 (ofL l).size = ofL l.tail := by rw [ofL_size, ofL_extract, List.take_length, List.drop_one]
    have hsz := ofL_size l
    have hpos : 1 ≤ l.length := by cases l with | nil => simp at hh | cons x r => simp
    clear hh
    rw [hsz] at hx
    go_enter Try.func56, Try.ntmps56
    go_wp2_with (go_at_call 81; refine (hasPrefix_any _ _ _ hl).mono ?_; rintro e w' ⟨rfl, rfl⟩)
    go_ret2
    exact ⟨by rw [hc.out]; rfl, rfl⟩
  · have hb : (l.head? == some c) = false := by simp [hh]
    have hc : Hid (cutP c l = (l, false)) := if_neg hh
    clear hh
    go_enter Try.func56, Try.ntmps56
    go_wp2_with (go_at_call 81; refine (hasPrefix_any _ _ _ hl).mono ?_; rintro e w' ⟨rfl, rfl⟩)
    go_ret2
    exact ⟨by rw [hc.out]; rfl, rfl⟩

set_option maxRecDepth 100000 in
set_option maxHeartbeats 1000000 in
theorem cutPrefix_any (l : List UInt8) (c : UInt8) (w : World) (hl : l.length ≤ 9000000000000000000) :
    Calls Try.prog 33 #[.string (ofL l), .string ⟨#[c]⟩] w fun e w' => e = .returned (.tuple #[.string (ofL (cutP c l).1), .bool (cutP c l).2]) ∧ w' = w := by
  go_enter Try.func33, Try.ntmps33
  go_wp2_with (go_at_call 56; refine (cutPrefix0_any _ _ _ hl).mono ?_; rintro e w' ⟨rfl, rfl⟩)
  go_ret2
  exact ⟨rfl, rfl⟩

theorem cutP_len (c : UInt8) (l : List UInt8) : (cutP c l).1.length ≤ l.length := by unfold cutP; split <;> simp

/-- the mark of an exponent -/
def cutE (l : List UInt8) : List UInt8 × Bool := if (cutP 101 l).2 then ((cutP 101 l).1, true) else cutP 69 l
/-- a sign -/
def cutS (l : List UInt8) : List UInt8 × Bool := if (cutP 43 l).2 then ((cutP 43 l).1, false) else cutP 45 l

set_option maxRecDepth 100000 in
set_option maxHeartbeats 1000000 in
theorem cutMark_any (l : List UInt8) (w : World) (hl : l.length ≤ 9000000000000000000) :
    Calls Try.prog 35 #[.string (ofL l)] w fun e w' => e = .returned (.tuple #[.string (ofL (cutE l).1), .bool (cutE l).2]) ∧ w' = w := by
  cases hb : (cutP 101 l).2
  · have hc : Hid (cutE l = cutP 69 l) := by unfold cutE; rw [hb]; rfl
    go_enter Try.func35, Try.ntmps35
    go_wp2_with fail
    refine (cutPrefix_any l 101 _ hl).mono ?_
    rintro e w' ⟨rfl, rfl⟩
    go_wp2_with fail
    refine (cutPrefix_any l 69 _ hl).mono ?_
    rintro e w' ⟨rfl, rfl⟩
    go_wp2
    go_ret2
    exact ⟨by rw [hc.out]; rfl, rfl⟩
  · have hc : Hid (cutE l = ((cutP 101 l).1, true)) := by unfold cutE; rw [hb]; rfl
    go_enter Try.func35, Try.ntmps35
    go_wp2_with fail
    refine (cutPrefix_any l 101 _ hl).mono ?_
    rintro e w' ⟨rfl, rfl⟩
    go_wp2
    go_ret2
    exact ⟨by rw [hc.out]; rfl, rfl⟩

set_option maxRecDepth 100000 in
set_option maxHeartbeats 1000000 in
theorem cutSign_any (l : List UInt8) (w : World) (hl : l.length ≤ 9000000000000000000) :
    Calls Try.prog 36 #[.string (ofL l)] w fun e w' => e = .returned (.tuple #[.string (ofL (cutS l).1), .bool (cutS l).2]) ∧ w' = w := by
  cases hb : (cutP 43 l).2
  · have hc : Hid (cutS l = cutP 45 l) := by unfold cutS; rw [hb]; rfl
    go_enter Try.func36, Try.ntmps36
    go_wp2_with fail
    refine (cutPrefix_any l 43 _ hl).mono ?_
    rintro e w' ⟨rfl, rfl⟩
    go_wp2_with fail
    refine (cutPrefix_any l 45 _ hl).mono ?_
    rintro e w' ⟨rfl, rfl⟩
    go_wp2
    go_ret2
    exact ⟨by rw [hc.out]; rfl, rfl⟩
  · have hc : Hid (cutS l = ((cutP 43 l).1, false)) := by unfold cutS; rw [hb]; rfl
    go_enter Try.func36, Try.ntmps36
    go_wp2_with fail
    refine (cutPrefix_any l 43 _ hl).mono ?_
    rintro e w' ⟨rfl, rfl⟩
    go_wp2
    go_ret2
    exact ⟨by rw [hc.out]; rfl, rfl⟩

def isD (c : UInt8) : Bool := decide (48 ≤ c.toNat ∧ c.toNat ≤ 57)

theorem span_of (l : List UInt8) (k : Nat) (h1 : ∀ c ∈ l.take k, isD c = true) (h2 : l.length ≤ k ∨ ∃ h : k < l.length, isD l[k] = false) : l.takeWhile isD = l.take k ∧ l.dropWhile isD = l.drop k := by
  induction l generalizing k with
  | nil => simp
  | cons x r ih =>
    cases k with
    | zero =>
      rcases h2 with h2 | ⟨h, h2⟩
      · simp at h2
      · simp at h2
        simp [h2]
    | succ k =>
      have hx := h1 x (by simp)
      have := ih k (fun c hc => h1 c (by simp [hc])) (by
        rcases h2 with h2 | ⟨h, h2⟩
        · left; simpa using h2
        · right; exact ⟨by simpa using h, by simpa using h2⟩)
      simp [hx, this.1, this.2]

set_option maxRecDepth 100000 in
set_option maxHeartbeats 2000000 in
theorem cutDigits_any (l : List UInt8) (w : World) (hl : l.length ≤ 9000000000000000000) :
    Calls Try.prog 34 #[.string (ofL l)] w fun e w' => e = .returned (.tuple #[.string (ofL (l.takeWhile isD)), .string (ofL (l.dropWhile isD))]) ∧ ∃ m, w' = w.drewN m := by
  have hsz := ofL_size l
  go_enter Try.func34, Try.ntmps34
  go_wp2
  go_loop [4] (fun i => ∃ k : Nat, k ≤ l.length ∧ i = .int .i64 k ∧ Hid (∀ c ∈ l.take k, isD c = true)) (fun i => l.length - (intOf i).toNat)
  case atStart => exact ⟨0, by omega, rfl, by simp [Hid]⟩
  case round =>
    obtain ⟨k, hk, rfl, hd⟩ := hrel
    by_cases hlt : k < l.length
    · have hg : (ofL l)[k]'(by rw [hsz]; exact hlt) = l[k] := ofL_get l k _
      by_cases hdig : 48 ≤ l[k].toNat ∧ l[k].toNat ≤ 57
      · have hd2 : Hid (∀ c ∈ l.take (k + 1), isD c = true) := by
          rw [Hid, List.take_succ_eq_append_getElem hlt]
          intro c hc
          rcases List.mem_append.1 hc with hc | hc
          · exact hd.out c hc
          · simp at hc; subst hc; simpa [isD] using hdig
        obtain ⟨ha, hb⟩ := hdig
        go_wp2
        go_round
        case rel => exact ⟨k + 1, by omega, by go_num, hd2⟩
        case measure => simp [intOf]; omega
      · have hs := span_of l k hd.out (.inr ⟨hlt, by simp [isD]; omega⟩)
        have HS := hid hs
        have he1 : (ofL l).extract 0 k = ofL (l.take k) := by rw [ofL_extract, List.drop_zero]
        have he2 : (ofL l).extract k l.length = ofL (l.drop k) := by rw [ofL_extract, List.take_length]
        clear hs
        by_cases ha : 48 ≤ l[k].toNat
        · have hb : 57 < l[k].toNat := by omega
          clear hdig
          go_wp2
          go_region
          all_goals
            go_wp2
            go_ret2
            exact ⟨by rw [HS.out.1, HS.out.2]; rfl, 1, rfl⟩
        · clear hdig
          go_wp2
          go_region
          all_goals
            go_wp2
            go_ret2
            exact ⟨by rw [HS.out.1, HS.out.2]; rfl, 1, rfl⟩
    · have hkk : k = l.length := by omega
      subst hkk
      have hs := span_of l l.length hd.out (.inl (Nat.le_refl _))
      have HS := hid hs
      have he1 : (ofL l).extract 0 l.length = ofL (l.take l.length) := by rw [ofL_extract, List.drop_zero]
      have he2 : (ofL l).extract l.length l.length = ofL (l.drop l.length) := by rw [ofL_extract, List.take_length]
      clear hs
      go_wp2
      go_region
      all_goals
        go_wp2
        go_ret2
        exact ⟨by rw [HS.out.1, HS.out.2, List.take_length, List.drop_length]; rfl, 1, rfl⟩
end Go.Proofs.Ytldihimiblndcaa
