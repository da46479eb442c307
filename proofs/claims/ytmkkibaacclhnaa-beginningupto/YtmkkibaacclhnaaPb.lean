/-
  A step of the walk of the parser, the part named Pb: bytes laid behind others, escapes' letters and digits, a character's bytes. No theorem of the row.
-/
import Derived.Test.YtmkkibaacclhnaaPa
namespace Go.Proofs.Ytmkkibaacclhnaa
open Go.RowKit

/-- bytes as they lie in memory -/
def us (l : List UInt8) : List Value := l.map (fun c => Value.int .u8 ((c.toNat : Nat) : Int))
theorem toNat_neP {c d : UInt8} (h : c ≠ d) : c.toNat ≠ d.toNat := fun e => h (UInt8.toNat_inj.1 e)
theorem us_length (l : List UInt8) : (us l).length = l.length := by simp [us]
theorem us_append (a b : List UInt8) : us (a ++ b) = us a ++ us b := by simp [us]

/-- what a state gives up with -/
def gave (n : Nat) : Ending := .panicked [{ v := .iface 105 (.agg #[.int .i64 (n : Int)]), recovered := false }]

set_option maxRecDepth 100000 in
set_option maxHeartbeats 4000000 in
theorem escaped_any (c : UInt8) (w : World) : Calls Try.prog 127 #[.int .u8 (c.toNat : Int)] w fun e w' => (match escV c with | some x => e = .returned (.int .u8 (x.toNat : Int)) | none => e = gave 3) ∧ w' = w := by
  by_cases h34 : c = 34
  · subst h34
    show Calls Try.prog 127 #[.int .u8 (34 : Int)] w fun e w' => e = .returned (.int .u8 (34 : Int)) ∧ w' = w
    go_enter Try.func127, Try.ntmps127
    go_wp2
    go_ret
    exact ⟨rfl, rfl⟩
  have q34 : ((c.toNat : Int) == 34) = false := beq_eq_false_iff_ne.2 (by have := toNat_neP h34; simp at this; omega)
  by_cases h92 : c = 92
  · subst h92
    show Calls Try.prog 127 #[.int .u8 (92 : Int)] w fun e w' => e = .returned (.int .u8 (92 : Int)) ∧ w' = w
    go_enter Try.func127, Try.ntmps127
    go_wp2
    go_ret
    exact ⟨rfl, rfl⟩
  have q92 : ((c.toNat : Int) == 92) = false := beq_eq_false_iff_ne.2 (by have := toNat_neP h92; simp at this; omega)
  by_cases h47 : c = 47
  · subst h47
    show Calls Try.prog 127 #[.int .u8 (47 : Int)] w fun e w' => e = .returned (.int .u8 (47 : Int)) ∧ w' = w
    go_enter Try.func127, Try.ntmps127
    go_wp2
    go_ret
    exact ⟨rfl, rfl⟩
  have q47 : ((c.toNat : Int) == 47) = false := beq_eq_false_iff_ne.2 (by have := toNat_neP h47; simp at this; omega)
  by_cases h98 : c = 98
  · subst h98
    show Calls Try.prog 127 #[.int .u8 (98 : Int)] w fun e w' => e = .returned (.int .u8 (8 : Int)) ∧ w' = w
    go_enter Try.func127, Try.ntmps127
    go_wp2
    go_ret
    exact ⟨rfl, rfl⟩
  have q98 : ((c.toNat : Int) == 98) = false := beq_eq_false_iff_ne.2 (by have := toNat_neP h98; simp at this; omega)
  by_cases h102 : c = 102
  · subst h102
    show Calls Try.prog 127 #[.int .u8 (102 : Int)] w fun e w' => e = .returned (.int .u8 (12 : Int)) ∧ w' = w
    go_enter Try.func127, Try.ntmps127
    go_wp2
    go_ret
    exact ⟨rfl, rfl⟩
  have q102 : ((c.toNat : Int) == 102) = false := beq_eq_false_iff_ne.2 (by have := toNat_neP h102; simp at this; omega)
  by_cases h110 : c = 110
  · subst h110
    show Calls Try.prog 127 #[.int .u8 (110 : Int)] w fun e w' => e = .returned (.int .u8 (10 : Int)) ∧ w' = w
    go_enter Try.func127, Try.ntmps127
    go_wp2
    go_ret
    exact ⟨rfl, rfl⟩
  have q110 : ((c.toNat : Int) == 110) = false := beq_eq_false_iff_ne.2 (by have := toNat_neP h110; simp at this; omega)
  by_cases h114 : c = 114
  · subst h114
    show Calls Try.prog 127 #[.int .u8 (114 : Int)] w fun e w' => e = .returned (.int .u8 (13 : Int)) ∧ w' = w
    go_enter Try.func127, Try.ntmps127
    go_wp2
    go_ret
    exact ⟨rfl, rfl⟩
  have q114 : ((c.toNat : Int) == 114) = false := beq_eq_false_iff_ne.2 (by have := toNat_neP h114; simp at this; omega)
  by_cases h116 : c = 116
  · subst h116
    show Calls Try.prog 127 #[.int .u8 (116 : Int)] w fun e w' => e = .returned (.int .u8 (9 : Int)) ∧ w' = w
    go_enter Try.func127, Try.ntmps127
    go_wp2
    go_ret
    exact ⟨rfl, rfl⟩
  have q116 : ((c.toNat : Int) == 116) = false := beq_eq_false_iff_ne.2 (by have := toNat_neP h116; simp at this; omega)
  have e0 : escV c = none := by simp [escV, h34, h92, h47, h98, h102, h110, h114, h116]
  rw [e0]
  clear e0 h34 h92 h47 h98 h102 h110 h114 h116
  go_enter Try.func127, Try.ntmps127
  go_wp2
  exact ⟨rfl, rfl, rfl⟩

set_option maxRecDepth 100000 in
set_option maxHeartbeats 4000000 in
theorem hex_any (c : UInt8) (w : World) : Calls Try.prog 128 #[.int .u8 (c.toNat : Int)] w fun e w' => (match hexV c with | some x => e = .returned (.int .i32 (x : Int)) | none => e = gave 3) ∧ w' = w := by
  have h256 : c.toNat < 256 := c.toNat_lt
  unfold hexV
  generalize c.toNat = n at *
  by_cases h1 : 48 ≤ n ∧ n ≤ 57
  · rw [if_pos h1]
    obtain ⟨a, b⟩ := h1
    go_enter Try.func128, Try.ntmps128
    go_wp2
    go_ret
    exact ⟨by simp only; go_num, rfl⟩
  rw [if_neg h1]
  by_cases h2 : 97 ≤ n ∧ n ≤ 102
  · rw [if_pos h2]
    obtain ⟨a, b⟩ := h2
    clear h1
    go_enter Try.func128, Try.ntmps128
    go_wp2
    go_ret
    exact ⟨by simp only; go_num, rfl⟩
  rw [if_neg h2]
  by_cases h3 : 65 ≤ n ∧ n ≤ 70
  · rw [if_pos h3]
    obtain ⟨a, b⟩ := h3
    clear h1 h2
    go_enter Try.func128, Try.ntmps128
    go_wp2
    go_ret
    exact ⟨by simp only; go_num, rfl⟩
  rw [if_neg h3]
  have hor : n < 48 ∨ (57 < n ∧ n < 65) ∨ (70 < n ∧ n < 97) ∨ 102 < n := by omega
  clear h1 h2 h3
  rcases hor with h | ⟨h, h'⟩ | ⟨h, h'⟩ | h
  all_goals
    go_enter Try.func128, Try.ntmps128
    go_wp2
    exact ⟨rfl, rfl, rfl⟩
end Go.Proofs.Ytmkkibaacclhnaa
