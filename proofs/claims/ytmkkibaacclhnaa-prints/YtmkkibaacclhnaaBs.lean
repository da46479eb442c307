/-
  A step of the walk of the numbers, the part named Bs: the document's examples. No theorem of the row.
-/
import Derived.Test.YtmkkibaacclhnaaKep
import Derived.Test.YtmkkibaacclhnaaBp
namespace Go.Proofs.Ytmkkibaacclhnaa
open Go.RowKit

theorem tenth_rnd : RndAt 1 (-1) 4591870180066957722 := by
  show Rnd (1 * pP (-1)) (p10 1) 4591870180066957722
  unfold Rnd
  decide +kernel
theorem tenth_a : mid 4591870180066957722 < 2 * p2 1074 := by decide +kernel
theorem tenth_b : mid 4591870180066957722 * 10 < 4 * p2 1074 := by decide +kernel
theorem tenth_c : 2 * p2 1074 < mid 4591870180066957721 * 100 := by decide +kernel

theorem tenth_pred : 4591870180066957722 - 1 = 4591870180066957721 := by omega

theorem tenth_short {D : Nat} {pw : Int} (h : Short 4591870180066957722 D pw) : D = 1 ∧ pw = -1 := by
  have hr := h.rnd (by omega)
  have hpos := hr.pos (by omega)
  have e2 : D * pP pw = D * p10 pw.toNat * p2 1074 := by rw [pP, Nat.mul_assoc]
  have hp := p2_pos 1074
  have hup : pw ≤ -1 := by
    rcases Int.lt_or_le (-1) pw with h1 | h1
    · exfalso
      obtain ⟨_, b⟩ := hr
      rw [e2, show (-pw).toNat = 0 by omega, show p10 0 = 1 from rfl, Nat.mul_one] at b
      have h2 : 1 * p2 1074 ≤ D * p10 pw.toNat * p2 1074 := Nat.mul_le_mul_right _ (Nat.mul_pos hpos (p10_pos _))
      have := tenth_a
      omega
    · exact h1
  have hlo : -1 ≤ pw := by
    rcases Int.lt_or_le pw (-1) with h1 | h1
    · exfalso
      obtain ⟨dg, R, L, H, U, hI, hpk, hd⟩ := h
      rcases hd with rfl | hd
      · have hD1 : D = 1 := by rcases pick_true hpk with rfl | rfl <;> omega
        obtain ⟨a, _⟩ := hr
        have hk : mid (4591870180066957722 - 1) * p10 (-pw).toNat ≤ 2 * (D * pP pw) := by
          rcases a with a | a | ⟨a, _⟩
          · exact absurd a (by decide)
          · exact Nat.le_of_lt a
          · exact Nat.le_of_eq a
        rw [tenth_pred] at hk
        have hz : D * pP pw = p2 1074 := by
          rw [e2, hD1, show pw.toNat = 0 by omega, show p10 0 = 1 from rfl, Nat.one_mul]
        rw [hz] at hk
        have h3 := p10_le 2 (-pw).toNat (by omega)
        have h4 : p10 2 = 100 := rfl
        rw [h4] at h3
        have h5 := Nat.mul_le_mul_left (mid 4591870180066957721) h3
        exact absurd tenth_c (Nat.not_lt.2 (Nat.le_trans h5 hk))
      · refine hd.none (by omega) (1 * p10 (-2 - pw).toNat) ?_
        have := tenth_rnd.same (SameV.shift 1 (-2 - pw).toNat (-1))
        rwa [show (-1 : Int) - ((-2 - pw).toNat : Int) = pw + 1 by omega] at this
    · exact h1
  obtain rfl : pw = -1 := by omega
  refine ⟨?_, rfl⟩
  obtain ⟨_, b⟩ := hr
  rw [e2, show (-1 : Int).toNat = 0 from rfl, show p10 0 = 1 from rfl, Nat.mul_one, show (-(-1 : Int)).toNat = 1 from rfl, show p10 1 = 10 from rfl] at b
  have := tenth_b
  rcases Nat.lt_or_ge D 2 with h1 | h1
  · omega
  · exfalso
    have h2 : 2 * p2 1074 ≤ D * p2 1074 := Nat.mul_le_mul_right _ h1
    omega

theorem tenth_tok : Tok [48, 46, 49] [48] [49] [] [] false :=
  ⟨rfl, by intro c hc; simp at hc; subst hc; decide, by intro c hc; simp at hc; subst hc; decide, allD_nil, .inl ⟨rfl, rfl⟩, fun _ => rfl, by simp, by simp⟩

theorem shown_p1 (w : World) : Calls Try.prog 10 #[.string ⟨#[48, 46, 49]⟩] w fun e w' => e = .returned (.tuple #[.int .u64 4591870180066957722, .int .i64 0]) ∧ Fr (fun _ => False) w w' := by
  refine parse_val (m := 4591870180066957722) tenth_tok (by decide) (by decide) (by omega) (fun h => by omega) (fun _ => ?_) w
  rw [powI_nil]
  exact tenth_rnd
theorem shown_p2 (w : World) : Calls Try.prog 10 #[.string ⟨#[49, 46]⟩] w fun e w' => e = .returned (.tuple #[.int .u64 0, .int .i64 3]) ∧ Fr (fun _ => False) w w' := by
  have := parse_run [49, 46] w (by decide)
  refine Calls.mono this ?_
  rintro e w' ⟨⟨_, h2⟩, hF⟩
  refine ⟨h2 ?_, hF⟩
  intro t ht
  have hr : run t0 [49, 46] = some ⟨4, false, [1], 1, 0, false⟩ := rfl
  rw [hr] at ht
  cases ht
  unfold Ends
  simp
theorem shown_p3 (w : World) : Calls Try.prog 13 #[.int .u64 4591870180066957722] w fun e w' => e = .returned (.tuple #[.string ⟨#[48, 46, 49]⟩, .int .i64 0]) ∧ Fr (fun _ => False) w w' := by
  refine (print_num 4591870180066957722 4591870180066957722 w (u64_andNot_sign 4591870180066957722 (by omega)) (by omega) (by omega)).mono ?_
  rintro e w' ⟨D, pw, hs, _, _, _, he, hF⟩
  obtain ⟨rfl, rfl⟩ := tenth_short hs
  have h1 : dgs 1 = [49] := by rw [dgs_lt (by omega)]; rfl
  rw [h1] at he
  exact ⟨he, hF⟩

set_option maxRecDepth 100000 in
set_option maxHeartbeats 2000000 in
theorem shown_any (w : World) : Calls Try.prog 9 #[] w fun e w' => e = .returned (.bool true) ∧ Fr (fun _ => False) w w' := by
  go_enter Try.func9, Try.ntmps9
  go_wp2_with fail
  refine (shown_p1 _).mono ?_
  rintro e w1 ⟨rfl, hF1⟩
  go_wp2_with fail
  refine (shown_p2 _).mono ?_
  rintro e w2 ⟨rfl, hF2⟩
  go_wp2_with fail
  refine (shown_p3 _).mono ?_
  rintro e w3 ⟨rfl, hF3⟩
  go_wp2_with (go_at_call 12; refine (num_any _ _).mono ?_; rintro e w' ⟨rfl, rfl⟩)
  go_ret
  exact ⟨rfl, (hF1.trans hF2).trans hF3⟩
end Go.Proofs.Ytmkkibaacclhnaa
