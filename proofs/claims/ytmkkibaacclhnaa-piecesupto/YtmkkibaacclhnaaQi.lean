/-
  A step of the walk of the parser, the part named Qi: the law Beginning. No theorem of the row.
-/
import Derived.Test.YtmkkibaacclhnaaQgh
namespace Go.Proofs.Ytmkkibaacclhnaa
open Go.RowKit

theorem psEnd_len (s : Ps) : (psEnd s).1.length ≤ s.items.length + 1 := by
  unfold psEnd
  split
  · split
    · split <;> simp
    · rename_i s' h
      unfold psEndTok at h
      split at h
      · cases h
      · cases h
        show (bump _ _).length ≤ _
        rw [bump_len]
        simp
  · split
    · simp
    · simp
theorem psFin_len (d : Nat) (l : List UInt8) (h1 : 1 ≤ d) (h2 : d ≤ 1000) : (psFin (psRun (ps0 d) l)).1.length ≤ 3 * l.length + 1 := by
  cases hx : psRun (ps0 d) l with
  | error x => obtain ⟨n, c⟩ := x; exact Nat.zero_le _
  | ok s =>
    have := (psRun_ok (ps0_ok d h1 h2) hx).c.iln
    have h3 := psEnd_len s
    show (psEnd s).1.length ≤ _
    omega

set_option maxRecDepth 100000 in
set_option maxHeartbeats 16000000 in
theorem beginning_any (l : List UInt8) (c : Int) (w : World) (hl : l.length ≤ 1300000) (h1 : -9223372036854775808 ≤ c) (h2 : c < 9223372036854775808) :
    Calls Try.prog 8 #[.string (ofL l), .int .i64 c] w fun e w' => e = .returned (.bool true) ∧ Fr (fun _ => False) w w' := by
  have HC := hid (And.intro h1 h2)
  have hsz := ofL_size l
  clear h1 h2
  go_enter Try.func8, Try.ntmps8
  go_wp2_with fail
  refine (known_any _).mono ?_
  rintro e w1 ⟨rfl, hF1⟩
  have H1 := hid hF1
  clear hF1
  go_wp2_with fail
  refine Calls.mono (show Calls Try.prog 29 #[.string (ofL l), .int .i64 1000] _ _ from read_any l 1000 _ (by omega) (by omega) (by omega)) ?_
  obtain ⟨r, hr⟩ : ∃ r, psFin (psRun (ps0 9) l) = r := ⟨_, rfl⟩
  have hat := psFin_at 9 l
  have hln := psFin_len 9 l (by omega) (by omega)
  have htk := psFin_take 9 l
  have har := psFin_around 9 l
  rw [hr] at hat hln htk har
  rw [hr]
  obtain ⟨it, er, at'⟩ := r
  simp only at hat hln htk har
  have HTK := hid htk
  have HLN := hid hln
  have HAR := hid har
  have HR := hid hr
  clear htk har hr hln
  rintro e w2 ⟨V, rfl, q1, q2, q3⟩
  simp only at q1 q2 ⊢
  have H2 := hid q3
  clear q1 q2 q3
  go_wp2_with fail
  refine Calls.mono (show Calls Try.prog 25 #[.int .i64 9] _ _ from newParser_any 9 (by omega) (by omega) _) ?_
  rintro e w3 ⟨rfl, hw3⟩
  have HR0 := hid (rd_new 9 w2)
  rw [← hw3] at HR0
  clear hw3
  have hx : (ofL l).extract 0 at' = ofL (l.take at') := by rw [ofL_extract, List.drop_zero]
  have hs2 := ofL_size (l.take at')
  rw [List.length_take, Nat.min_eq_left hat] at hs2
  go_wp2_with fail
  refine Calls.mono (show Calls Try.prog 22 #[.int .i64 c, .int .i64 ((at' : Int) + 1)] _ _ from pick_gen c (at' + 1) _ HC.out.1 HC.out.2 (by omega) (by omega)) ?_
  rintro e w4 ⟨x, hx1, rfl, rfl⟩
  have hx2 : (ofL (l.take at')).extract 0 x = ofL (l.take x) := by rw [ofL_extract, List.drop_zero, List.take_take, Nat.min_eq_left (by omega)]
  have hs3 := ofL_size (l.take x)
  rw [List.length_take, Nat.min_eq_left (by omega)] at hs3
  have hx3 : (ofL (l.take at')).extract x at' = ofL ((l.take at').drop x) := by rw [ofL_extract, List.take_take, Nat.min_self]
  go_wp2_with fail
  refine Calls.mono (feed_any w2.heap.size 9 (fun _ => False) w2 w4 [] (l.take x) (by omega) (by omega) (by rw [List.length_take]; simp; omega) HR0.out) ?_
  rw [List.nil_append, HTK.out x (by omega)]
  rintro e w5 ⟨rfl, hR5⟩
  have HR5 := hid hR5
  clear hR5
  go_wp2_with fail
  refine Calls.mono (feed_any w2.heap.size 9 (fun _ => False) w2 w5 (l.take x) ((l.take at').drop x) (by omega) (by omega) (by rw [List.length_take, List.length_drop, List.length_take]; omega) HR5.out) ?_
  rw [show l.take x ++ (l.take at').drop x = l.take at' by rw [show l.take x = (l.take at').take x by rw [List.take_take, Nat.min_eq_left (by omega)], List.take_append_drop], HTK.out at' (Nat.le_refl _)]
  rintro e w6 ⟨rfl, hR6⟩
  have HR6 := hid hR6
  clear hR6
  have HF6 := hid (show Fr (fun _ => False) w2 w6 from by
    have := HR6.out
    revert this
    cases psRun (ps0 9) (l.take at') with
    | ok s => rintro ⟨_, _, _, _, hC, _⟩; exact hC.fr
    | error x => obtain ⟨n, c⟩ := x; rintro ⟨_, hF⟩; exact hF)
  clear hx hs2 hx1 hx2 hs3 hx3
  by_cases he : er = 0
  · subst he
    go_wp2_with fail
    refine Calls.mono (show Calls Try.prog 29 #[.string (ofL l), .int .i64 3] _ _ from read_any l 3 _ (by omega) (by omega) (by omega)) ?_
    rw [HR.out]
    rintro e w7 ⟨V7, rfl, p1, p2, p3⟩
    have HV7 := hid (show w7.ownsRow 0 81 4 V7 it.length (itsV it) from p1)
    have H7 := hid p3
    clear p1 p2 p3
    have hc1 : (ByteArray.mk #[32, 9]) ++ ofL l = ofL (32 :: 9 :: l) := ofL_append [32, 9] l
    have hc2 : ofL (32 :: 9 :: l) ++ (ByteArray.mk #[13, 10]) = ofL (32 :: 9 :: (l ++ [13, 10])) := ofL_append (32 :: 9 :: l) [13, 10]
    have hs1 : (ofL (32 :: 9 :: l)).size = l.length + 2 := ofL_size _
    simp only
    go_wp2_with fail
    refine Calls.mono (show Calls Try.prog 29 #[.string (ofL (32 :: 9 :: (l ++ [13, 10]))), .int .i64 5] _ _ from read_any (32 :: 9 :: (l ++ [13, 10])) 5 _ (by omega) (by omega) (by simp; omega)) ?_
    rw [HAR.out trivial]
    rintro e w8 ⟨V8, rfl, p1, p2, p3⟩
    have HV8 := hid (show w8.ownsRow 0 81 4 V8 it.length (itsV it) from p1)
    have H8 := hid p3
    clear p1 p2 p3 hc1 hc2 hs1
    simp only
    go_wp2_with fail
    refine Calls.mono (same_any it V7 V8 w8 (by have := HLN.out; omega) (rowFr HV7.out H8.out (fun _ _ => id)) HV8.out) ?_
    rintro e w9 ⟨rfl, hF9⟩
    have H9 := hid hF9
    clear hF9
    go_wp2
    go_ret
    exact ⟨rfl, ((((H1.out.trans H2.out).trans HF6.out).trans H7.out).trans H8.out).trans H9.out⟩
  · have he1 : ((er : Int) != 0) = true := bne_iff_ne.2 (by omega)
    go_wp2
    go_ret
    exact ⟨rfl, (H1.out.trans H2.out).trans HF6.out⟩
end Go.Proofs.Ytmkkibaacclhnaa
