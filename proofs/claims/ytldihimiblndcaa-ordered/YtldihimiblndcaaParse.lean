/-
  A step of the walk of the numbers, the part named Parse. No theorem of the row.
-/
import Derived.Test.YtldihimiblndcaaCutC
import Derived.Test.YtldihimiblndcaaDecOf
namespace Go.Proofs.Ytldihimiblndcaa
open Go.RowKit

theorem takeWhile_dig (l : List UInt8) : AllDig (ofL (l.takeWhile isD)) := by
  intro c hc
  simp [ofL] at hc
  have := List.all_eq_true.1 (List.all_takeWhile (p := isD) (l := l)) c hc
  simpa [isD] using this
theorem allDig_nil : AllDig (ofL []) := by intro c hc; simp [ofL] at hc

/-- the pieces, one behind the other -/
def cutL4 (n : Bool) (wh fr : List UInt8) (en : Bool) (ex r3 : List UInt8) : Option (Bool × List UInt8 × List UInt8 × Bool × List UInt8) := if r3 = [] then some (n, wh, fr, en, ex) else none
def cutL3 (n : Bool) (wh fr r2 : List UInt8) : Option (Bool × List UInt8 × List UInt8 × Bool × List UInt8) :=
  if (cutE r2).2 = true then (if (cutS (cutE r2).1).1.takeWhile isD = [] then none else cutL4 n wh fr (cutS (cutE r2).1).2 ((cutS (cutE r2).1).1.takeWhile isD) ((cutS (cutE r2).1).1.dropWhile isD)) else cutL4 n wh fr false [] r2
def cutL2 (n : Bool) (wh r : List UInt8) : Option (Bool × List UInt8 × List UInt8 × Bool × List UInt8) :=
  if (cutP 46 r).2 = true then (if (cutP 46 r).1.takeWhile isD = [] then none else cutL3 n wh ((cutP 46 r).1.takeWhile isD) ((cutP 46 r).1.dropWhile isD)) else cutL3 n wh [] r
def cutL1 (n : Bool) (wh r : List UInt8) : Option (Bool × List UInt8 × List UInt8 × Bool × List UInt8) :=
  if wh = [] ∨ (wh.head? = some 48 ∧ 1 < wh.length) then none else cutL2 n wh r
theorem cutL_eq (l : List UInt8) : cutL l = cutL1 (cutP 45 l).2 ((cutP 45 l).1.takeWhile isD) ((cutP 45 l).1.dropWhile isD) := by
  unfold cutL cutL1 cutL2 cutL3 cutL4
  simp only
  generalize (cutP 45 l).1.takeWhile isD = wh
  generalize (cutP 45 l).1.dropWhile isD = r
  generalize (cutP 45 l).2 = n
  by_cases h1 : wh = [] ∨ (wh.head? = some 48 ∧ 1 < wh.length)
  · rw [if_pos h1, if_pos h1]
  · rw [if_neg h1, if_neg h1]
    cases hb : (cutP 46 r).2
    · simp only [Bool.false_eq_true, false_and, if_false]
      cases hc : (cutE r).2
      · simp only [Bool.false_eq_true, false_and, if_false]
        by_cases h : r = [] <;> simp [h]
      · simp only [true_and, if_true]
        by_cases h : (cutS (cutE r).1).1.dropWhile isD = [] <;> simp [h]
    · simp only [true_and, if_true]
      by_cases hfr : (cutP 46 r).1.takeWhile isD = []
      · rw [if_pos hfr, if_pos hfr]
      · rw [if_neg hfr, if_neg hfr]
        generalize (cutP 46 r).1.dropWhile isD = r2
        cases hc : (cutE r2).2
        · simp only [Bool.false_eq_true, false_and, if_false]
          by_cases h : r2 = [] <;> simp [h]
        · simp only [true_and, if_true]
          by_cases h : (cutS (cutE r2).1).1.dropWhile isD = [] <;> simp [h]

theorem tw_len (m : List UInt8) : (m.takeWhile isD).length ≤ m.length := (List.takeWhile_sublist _).length_le

theorem cutL3_some {k : Nat} {n' n : Bool} {wh' fr' r2 wh fr : List UInt8} {en : Bool} {ex : List UInt8} (h : cutL3 n' wh' fr' r2 = some (n, wh, fr, en, ex)) (hl : r2.length ≤ k) :
    n' = n ∧ wh' = wh ∧ fr' = fr ∧ AllDig (ofL ex) ∧ ex.length ≤ k := by
  unfold cutL3 at h
  have b1 := cutE_len r2
  have b2 := cutS_len (cutE r2).1
  have b3 := tw_len (cutS (cutE r2).1).1
  cases hc : (cutE r2).2
  · rw [if_neg (by simp [hc])] at h
    unfold cutL4 at h
    by_cases h3 : r2 = []
    · rw [if_pos h3] at h
      simp only [Option.some.injEq, Prod.mk.injEq] at h
      obtain ⟨rfl, rfl, rfl, _, rfl⟩ := h
      exact ⟨rfl, rfl, rfl, allDig_nil, by simp⟩
    · rw [if_neg h3] at h; cases h
  · rw [if_pos hc] at h
    by_cases h1 : (cutS (cutE r2).1).1.takeWhile isD = []
    · rw [if_pos h1] at h; cases h
    · rw [if_neg h1] at h
      unfold cutL4 at h
      by_cases h3 : (cutS (cutE r2).1).1.dropWhile isD = []
      · rw [if_pos h3] at h
        simp only [Option.some.injEq, Prod.mk.injEq] at h
        obtain ⟨rfl, rfl, rfl, _, rfl⟩ := h
        exact ⟨rfl, rfl, rfl, takeWhile_dig _, by omega⟩
      · rw [if_neg h3] at h; cases h

/-- what the pieces of a token are -/
theorem cutL_some {l : List UInt8} {n : Bool} {wh fr : List UInt8} {en : Bool} {ex : List UInt8} (h : cutL l = some (n, wh, fr, en, ex)) :
    AllDig (ofL wh) ∧ AllDig (ofL fr) ∧ AllDig (ofL ex) ∧ wh.length ≤ l.length ∧ fr.length ≤ l.length ∧ ex.length ≤ l.length := by
  have a1 := cutP_len 45 l
  have a2 := dropWhile_len (cutP 45 l).1
  have a3 := cutP_len 46 ((cutP 45 l).1.dropWhile isD)
  have a4 := dropWhile_len (cutP 46 ((cutP 45 l).1.dropWhile isD)).1
  have a5 := tw_len (cutP 45 l).1
  have a6 := tw_len (cutP 46 ((cutP 45 l).1.dropWhile isD)).1
  rw [cutL_eq] at h
  unfold cutL1 at h
  by_cases h1 : (cutP 45 l).1.takeWhile isD = [] ∨ (((cutP 45 l).1.takeWhile isD).head? = some 48 ∧ 1 < ((cutP 45 l).1.takeWhile isD).length)
  · rw [if_pos h1] at h; cases h
  · rw [if_neg h1] at h
    unfold cutL2 at h
    cases hb : (cutP 46 ((cutP 45 l).1.dropWhile isD)).2
    · rw [if_neg (by simp [hb])] at h
      obtain ⟨_, rfl, rfl, h5, h6⟩ := cutL3_some (k := l.length) h (by omega)
      exact ⟨takeWhile_dig _, allDig_nil, h5, by omega, by simp, h6⟩
    · rw [if_pos hb] at h
      by_cases h2 : (cutP 46 ((cutP 45 l).1.dropWhile isD)).1.takeWhile isD = []
      · rw [if_pos h2] at h; cases h
      · rw [if_neg h2] at h
        obtain ⟨_, rfl, rfl, h5, h6⟩ := cutL3_some (k := l.length) h (by omega)
        exact ⟨takeWhile_dig _, takeWhile_dig _, h5, by omega, by omega, h6⟩

theorem addD_digs (x : List Nat × Int) (d : Nat) (hd : d ≤ 9) (h : Digs x.1) (hh : x.1.head? ≠ some 0) : Digs (addD x d).1 ∧ (addD x d).1.head? ≠ some 0 := by
  unfold addD; split
  · exact ⟨h, hh⟩
  · rename_i h1
    split
    · refine ⟨?_, ?_⟩
      · intro y hy; simp only [List.mem_append, List.mem_singleton] at hy; rcases hy with hy | hy
        · exact h y hy
        · omega
      · obtain ⟨D, P⟩ := x
        cases D with
        | nil => simp at h1 ⊢; exact h1
        | cons y r => simpa using hh
    · split
      · rename_i h2
        refine ⟨?_, ?_⟩
        · intro y hy; simp only [List.mem_append, List.mem_singleton] at hy; rcases hy with hy | hy
          · exact h y hy
          · omega
        · obtain ⟨D, P⟩ := x
          cases D with
          | nil => simp at h2
          | cons y r => simpa using hh
      · exact ⟨h, hh⟩
theorem addDs_digs (x : List Nat × Int) (ds : List Nat) (hd : Digs ds) (h : Digs x.1) (hh : x.1.head? ≠ some 0) : Digs (addDs x ds).1 ∧ (addDs x ds).1.head? ≠ some 0 := by
  refine snoc_ind (P := fun ds => Digs ds → Digs (addDs x ds).1 ∧ (addDs x ds).1.head? ≠ some 0) (fun _ => ⟨h, hh⟩) ?_ ds hd
  intro a d ih hd
  have := ih (fun y hy => hd y (List.mem_append_left _ hy))
  rw [addDs_snoc]
  exact addD_digs _ _ (hd d (by simp)) this.1 this.2

theorem decOf_facts (wh fr : ByteArray) (en : Bool) (ex : ByteArray) (hw : AllDig wh) (hf : AllDig fr) :
    Digs (decOf wh fr en ex).1 ∧ (decOf wh fr en ex).1.head? ≠ some 0 ∧ (decOf wh fr en ex).1.length ≤ 769 ∧ -((wh.size : Int) + 2 * fr.size + 632) ≤ (decOf wh fr en ex).2 ∧ (decOf wh fr en ex).2 ≤ 2 * (wh.size : Int) + fr.size + 632 := by
  have h1 := addDs_digs ([], (wh.size : Int) + powI wh fr en ex) (dig wh) hw.digs (by intro d hd; cases hd) (by simp)
  have h2 := addDs_digs _ (dig fr) hf.digs h1.1 h1.2
  have p1 := addDs_P ([], (wh.size : Int) + powI wh fr en ex) (dig wh)
  have p2 := addDs_P (addDs ([], (wh.size : Int) + powI wh fr en ex) (dig wh)) (dig fr)
  rw [dig_length] at p1 p2
  simp only at p1
  have hb := powI_bd wh fr en ex
  refine ⟨h2.1, h2.2, addDs_len _ _ (addDs_len _ _ (by simp)), ?_, ?_⟩
  · unfold decOf; omega
  · unfold decOf; omega

/-- what Parse answers of a number without a sign -/
def parseV (neg : Bool) (r : Nat) : Nat × Nat := if 9218868437227405312 ≤ r then (0, 6) else (if neg then r + 9223372036854775808 else r, 0)

theorem or_sign (r : Nat) (h : r < 9223372036854775808) : bits BinOp.or IntKind.u64 (r : Int) 9223372036854775808 = ((r + 9223372036854775808 : Nat) : Int) := by
  rw [show (9223372036854775808 : Int) = ((9223372036854775808 : Nat) : Int) from rfl, u64_or_nat r _ (by omega) (by omega), Nat.or_comm, nat_join 63 _ r (by decide) h, Nat.add_comm]

set_option maxRecDepth 100000 in
set_option maxHeartbeats 2000000 in
theorem parse_none (l : List UInt8) (w : World) (hl : l.length ≤ 140737488355328) (hc : cutL l = none) :
    Calls Try.prog 8 #[.string (ofL l)] w fun e w' => e = .returned (.tuple #[.int .u64 0, .int .i64 3]) ∧ Fr (fun _ => False) w w' := by
  have hR : cutR l = .tuple #[.agg #[.bool false, .string ⟨#[]⟩, .string ⟨#[]⟩, .bool false, .string ⟨#[]⟩], .bool false] := by rw [cutR, hc]
  have HR := hid hR
  clear hR hc
  go_enter Try.func8, Try.ntmps8
  go_wp2_with fail
  refine (cut_any l _ (by omega)).mono ?_
  rintro e w1 ⟨rfl, hF⟩
  rw [HR.out]
  go_wp2
  go_ret2
  exact ⟨rfl, hF.alloc _⟩

set_option maxRecDepth 100000 in
set_option maxHeartbeats 2000000 in
theorem parse_some (l : List UInt8) (w : World) (hl : l.length ≤ 140737488355328) (n : Bool) (wh fr : List UInt8) (en : Bool) (ex : List UInt8) (hc : cutL l = some (n, wh, fr, en, ex)) :
    Calls Try.prog 8 #[.string (ofL l)] w fun e w' => ∃ r, NearOf (decOf (ofL wh) (ofL fr) en (ofL ex)).1 (decOf (ofL wh) (ofL fr) en (ofL ex)).2 r ∧ e = .returned (.tuple #[.int .u64 ((parseV n r).1 : Nat), .int .i64 ((parseV n r).2 : Nat)]) ∧ Fr (fun _ => False) w w' := by
  have hR : cutR l = .tuple #[.agg #[.bool n, .string (ofL wh), .string (ofL fr), .bool en, .string (ofL ex)], .bool true] := by rw [cutR, hc]
  have HR := hid hR
  obtain ⟨d1, d2, d3, l1, l2, l3⟩ := cutL_some hc
  have z1 : (ofL wh).size ≤ 140737488355328 := by rw [ofL_size]; omega
  have z2 : (ofL fr).size ≤ 140737488355328 := by rw [ofL_size]; omega
  have z3 : (ofL ex).size ≤ 140737488355328 := by rw [ofL_size]; omega
  have hfc := decOf_facts (ofL wh) (ofL fr) en (ofL ex) d1 d2
  obtain ⟨f1, f2, f3, f4, f5⟩ := hfc
  have F1 := hid f1
  have F2 := hid f2
  clear hR hc f1 f2
  go_enter Try.func8, Try.ntmps8
  go_wp2_with fail
  refine (cut_any l _ (by omega)).mono ?_
  rintro e w1 ⟨rfl, hF⟩
  rw [HR.out]
  have HF := hid hF
  clear hF
  go_wp2_with fail
  refine (decimal_any n (ofL wh) (ofL fr) en (ofL ex) _ z1 z2 z3 d1 d2 d3).mono ?_
  rintro e w2 ⟨dv, rfl, ho, hF2⟩
  have HF2 := hid hF2
  have hcell : w2.cell? ⟨w1.heap.size, 0, none⟩ = some (.bool n) := (hF2.cell (p := ⟨w1.heap.size, 0, none⟩) (by simp) id).trans (cell_alloc_at _ _ _ _)
  have hs2 : w1.heap.size < w2.heap.size := by have := hF2.size; simp at this; omega
  have HO := hid ho
  clear hF2 ho
  go_wp2_with fail
  refine (nearest_any dv _ _ _ F1.out (by omega) F2.out (by omega) (by omega) HO.out).mono ?_
  rintro e w3 ⟨r, rfl, hr, hF3⟩
  have HR3 := hid hr
  have HF3 := hid hF3
  have hcell3 := (hF3.cell (p := ⟨w1.heap.size, 0, none⟩) hs2 id).trans hcell
  have HFin := hid (((HF.out.alloc (.cells #[.bool n, .string (ofL wh), .string (ofL fr), .bool en, .string (ofL ex)] 40)).trans' HF2.out (fun i h => h.elim)).trans' HF3.out (fun i h => h.elim))
  clear hr hF3 hcell HF HF2 HF3 HO F1 F2
  clear f3 f4 f5 z1 z2 z3 d1 d2 d3 l1 l2 l3 hl HR
  by_cases hge : 9218868437227405312 ≤ r
  · have hv : Hid (parseV n r = (0, 6)) := if_pos hge
    have hge' : (9218868437227405312 : Int) ≤ (r : Int) := by omega
    clear hge
    go_wp2
    go_ret2
    exact ⟨r, HR3.out, by rw [hv.out]; rfl, HFin.out⟩
  · have hlt : r < 9218868437227405312 := by omega
    cases n
    · have hv : Hid (parseV false r = (r, 0)) := if_neg hge
      have hlt' : decide ((9218868437227405312 : Int) ≤ (r : Int)) = false := by rw [decide_eq_false_iff_not]; omega
      have HLT := hid hlt
      clear hge hlt
      go_wp2
      go_ret2
      exact ⟨r, HR3.out, by rw [hv.out]; rfl, HFin.out⟩
    · have hv : Hid (parseV true r = (r + 9223372036854775808, 0)) := if_neg hge
      have hlt' : decide ((9218868437227405312 : Int) ≤ (r : Int)) = false := by rw [decide_eq_false_iff_not]; omega
      have HLT := hid hlt
      clear hge hlt
      go_wp2
      go_ret2
      refine ⟨r, HR3.out, ?_, HFin.out⟩
      rw [hv.out, ← or_sign r (by have := HLT.out; omega)]
      rfl
end Go.Proofs.Ytldihimiblndcaa
