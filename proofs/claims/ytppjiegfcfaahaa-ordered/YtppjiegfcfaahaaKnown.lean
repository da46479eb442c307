/-
  A step of the walk of the numbers, the part named Known. No theorem of the row.
-/
import Derived.Test.YtppjiegfcfaahaaOne
namespace Go.Proofs.Ytppjiegfcfaahaa
open Go.RowKit

theorem num_zero_all {ds : List Nat} {p : Int} {r : Nat} (hl : ds.length ≤ 768) (h0 : num ds = 0) (h : NearV (addDs ([], p) ds).1 (addDs ([], p) ds).2 r) : r = 0 := by
  obtain ⟨z, rest, e, hr, ha⟩ := addDs_short p ds hl
  rw [ha] at h
  rcases hr with rfl | ⟨d, rr, rfl, hd⟩
  · exact (h.2 (if_pos (.inl rfl))).1.1 (.inl rfl)
  · exfalso
    have := num_ge d rr hd
    have hp := p10_pos rr.length
    rw [e, num_append, num_zeros] at h0
    omega

theorem parse_zero {t wh fr s ex : List UInt8} {en : Bool} (neg : Bool) (h : Tok t wh fr s ex en) (hl : t.length ≤ 1000) (hd : wh.length + fr.length ≤ 768) (h0 : num (dv wh ++ dv fr) = 0) (w : World) :
    Calls Try.prog 10 #[.string (ofL (sgP neg ++ t))] w fun e w' => e = .returned (.tuple #[.int .u64 ((parseV neg 0).1 : Nat), .int .i64 ((parseV neg 0).2 : Nat)]) ∧ Fr (fun _ => False) w w' := by
  have hlen : (sgP neg ++ (wh ++ (frP fr ++ exP s ex))).length ≤ 1000000000000000 := by
    rw [← h.eq, List.length_append]
    have := sgP_len neg
    omega
  rw [h.eq]
  refine (parse_pieces h.w h.f h.x h.sg h.no h.w0 h.w1 w hlen).mono ?_
  rintro e w' ⟨r, hr, he, hF⟩
  have := num_zero_all (by rw [List.length_append, dv_length, dv_length]; exact hd) h0 hr
  subst this
  exact ⟨he, hF⟩

/-- a whole number in digits, read -/
theorem tok_dgs (k : Nat) : Tok (dgs k) (dgs k) [] [] [] false := by
  refine ⟨by simp [frP, exP], allD_dgs k, allD_nil, allD_nil, .inl ⟨rfl, rfl⟩, fun _ => rfl, by intro h; have := dgs_pos k; rw [h] at this; simp at this, ?_⟩
  by_cases h : k = 0
  · subst h; rw [dgs_lt (by omega)]; simp
  · intro h2; exact dgs_head k h h2.1

theorem known_rnd : RndAt 9007199254740993 0 4845873199050653696 := by
  show Rnd (9007199254740993 * pP 0) (p10 0) 4845873199050653696
  unfold Rnd
  decide +kernel
theorem known_dgs : dgs 9007199254740993 = [57, 48, 48, 55, 49, 57, 57, 50, 53, 52, 55, 52, 48, 57, 57, 51] := by
  simp [dgs_ge, dgs_lt]
theorem known_tok : layL (dgs 5) (-324) = [53, 101, 45, 51, 50, 52] := by
  have h5 : dgs 5 = [53] := by rw [dgs_lt (by omega)]; rfl
  rw [h5]
  unfold layL
  rw [if_pos (by right; decide)]
  unfold expL
  rw [if_neg (by decide), if_pos (by decide)]
  show [53] ++ [] ++ ([101, 45] ++ dgs 324) = _
  rw [dgs_ge (by omega), dgs_ge (by omega), dgs_lt (by omega)]
  rfl

theorem known_p1 (w : World) : Calls Try.prog 10 #[.string ⟨#[57, 48, 48, 55, 49, 57, 57, 50, 53, 52, 55, 52, 48, 57, 57, 51]⟩] w fun e w' => e = .returned (.tuple #[.int .u64 4845873199050653696, .int .i64 0]) ∧ Fr (fun _ => False) w w' := by
  have := parse_tok false (tok_dgs 9007199254740993) (by rw [known_dgs]; decide) (by rw [known_dgs]; decide) w
  rw [known_dgs] at this
  refine Calls.mono this ?_
  rintro e w' ⟨r, hr, he, hF⟩
  have h2 := hr 4845873199050653696 (by omega) (by omega)
  rw [← known_dgs, powI_nil, show dv [] = [] from rfl, List.append_nil, num_dgs] at h2
  have h3 := h2.2 known_rnd
  subst h3
  exact ⟨he, hF⟩
theorem known_p2 (w : World) : Calls Try.prog 10 #[.string ⟨#[45, 48]⟩] w fun e w' => e = .returned (.tuple #[.int .u64 9223372036854775808, .int .i64 0]) ∧ Fr (fun _ => False) w w' := by
  have h0 : dgs 0 = [48] := by rw [dgs_lt (by omega)]; rfl
  have := parse_zero true (tok_dgs 0) (by rw [h0]; decide) (by rw [h0]; decide) (by rw [show dv [] = [] from rfl, List.append_nil, num_dgs]) w
  rw [h0] at this
  exact this
theorem known_p3 (w : World) : Calls Try.prog 13 #[.int .u64 1] w fun e w' => e = .returned (.tuple #[.string ⟨#[53, 101, 45, 51, 50, 52]⟩, .int .i64 0]) ∧ Fr (fun _ => False) w w' := by
  refine (print_num 1 1 w (u64_andNot_sign 1 (by omega)) (by omega) (by omega)).mono ?_
  rintro e w' ⟨D, pw, hs, _, _, _, he, hF⟩
  obtain ⟨rfl, rfl⟩ := one_short hs
  rw [known_tok] at he
  exact ⟨he, hF⟩

set_option maxRecDepth 100000 in
set_option maxHeartbeats 2000000 in
theorem known_any (w : World) : Calls Try.prog 15 #[] w fun e w' => e = .returned (.bool true) ∧ Fr (fun _ => False) w w' := by
  go_enter Try.func15, Try.ntmps15
  go_wp2_with fail
  refine (known_p1 _).mono ?_
  rintro e w1 ⟨rfl, hF1⟩
  go_wp2_with fail
  refine (known_p2 _).mono ?_
  rintro e w2 ⟨rfl, hF2⟩
  go_wp2_with fail
  refine (known_p3 _).mono ?_
  rintro e w3 ⟨rfl, hF3⟩
  go_wp2
  go_ret
  exact ⟨rfl, (hF1.trans hF2).trans hF3⟩
end Go.Proofs.Ytppjiegfcfaahaa
