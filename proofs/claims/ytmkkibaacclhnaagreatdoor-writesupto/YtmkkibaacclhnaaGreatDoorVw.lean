/-
  A step of the walk, the part named Vw. No theorem of the row.
-/
import Derived.Test.YtmkkibaacclhnaaGreatDoorVc
import Derived.Test.YtmkkibaacclhnaaGreatDoorVb
import Derived.Test.YtmkkibaacclhnaaGreatDoorBuv
import Derived.Laws.CopyOwn
namespace Go.Proofs.YtmkkibaacclhnaaGreatDoor
open Go.RowKit

theorem wr_all (d : Nat) : WrOk d := by
  induction d with
  | zero =>
    intro w pa cap inn l indent so hd h hcap hc hlm hs hb hi1 hi2 hsz hwg
    cases l with
    | nil => exact absurd rfl hsz
    | cons x r =>
      obtain ⟨ad, rfl, _⟩ := h (by simp)
      simp only [sizeD] at hsz
      by_cases hg : goodI x = true ∧ x.k < 5
      · rw [show wrD indent so 0 (x :: r) = leafT x from by simp only [wrD]]
        exact wr_leaf w ad cap inn x r indent so h (hs x (by simp)) hg.2 hg.1 (hb x (by simp))
      · rw [if_neg hg] at hsz
        exact absurd rfl hsz
  | succ d ih =>
    intro w pa cap inn l indent so hd h hcap hc hlm hs hb hi1 hi2 hsz hwg
    cases l with
    | nil => exact absurd rfl hsz
    | cons x r =>
      obtain ⟨ad, rfl, _⟩ := h (by simp)
      by_cases hg : goodI x = true
      · by_cases hk : x.k < 5
        · rw [show wrD indent so (d + 1) (x :: r) = leafT x from by simp only [wrD]; rw [if_pos hk]]
          exact wr_leaf w ad cap inn x r indent so h (hs x (by simp)) hk hg (hb x (by simp))
        · obtain ⟨k, n, b, s⟩ := x
          obtain ⟨h56, _⟩ := goodI_nest hg hk
          simp only at h56 hk
          rcases h56 with rfl | rfl
          · exact wr_arr d ih w ad cap inn n b s r indent so hd h hcap hc hlm hs hb hi1 hi2 hg hsz hwg
          · exact wr_obj d ih w ad cap inn n b s r indent so hd h hcap hc hlm hs hb hi1 hi2 hg hsz hwg
      · exfalso
        simp only [sizeD] at hsz
        rw [if_neg hg] at hsz
        exact hsz rfl
/-- Write's answer: what is written, and the error -/
noncomputable def wAns (l : List Im) (indent : Int) (so : Bool) : List UInt8 × Int :=
  if indent < -1 ∨ 16 < indent then ([], 1) else if sizeD 1000 l = 0 ∨ sizeD 1000 l ≠ l.length then ([], 8) else (wrD indent so 1000 l, 0)
set_option maxRecDepth 100000 in
set_option maxHeartbeats 8000000 in
theorem rwrite_any (w : World) (pa : Option Addr) (cap : Nat) (l : List Im) (indent : Int) (so : Bool) (h : LR w pa l) (hcap : l.length ≤ cap) (hc : cap ≤ 1000000000) (hlm : l.length ≤ 10000000) (hs : ∀ x, x ∈ l → x.s.length ≤ 100000000) (hb : Bok l) (hwg : wgt l ≤ 100000000000) :
    Calls Tryz.prog 28 #[.slice pa l.length cap, .int .i64 indent, .bool so] w fun e w' => e = .returned (.tuple #[.string (ofL (wAns l indent so).1), .int .i64 (wAns l indent so).2]) ∧ Fr (fun _ => False) w w' := by
  unfold wAns
  have HF := hid (Fr.refl (fun _ => False) w)
  by_cases h1 : indent < -1
  · rw [if_pos (.inl h1)]
    have hz : decide (indent < -1) = true := decide_eq_true h1
    clear h
    go_enter Tryz.func28, Tryz.ntmps28
    go_wp2
    go_ret2
    exact ⟨rfl, HF.out⟩
  have hz1 : decide (indent < -1) = false := decide_eq_false h1
  by_cases h2 : 16 < indent
  · rw [if_pos (.inr h2)]
    have hz : decide (16 < indent) = true := decide_eq_true h2
    clear h
    go_enter Tryz.func28, Tryz.ntmps28
    go_wp2
    go_ret2
    exact ⟨rfl, HF.out⟩
  have hz2 : decide (16 < indent) = false := decide_eq_false h2
  rw [if_neg (fun hh => hh.elim h1 h2)]
  have HSZ := hid (show Calls Tryz.prog 46 #[.slice pa l.length cap, .int .i64 0] w _ from size_all 1000 w pa cap 0 l rfl h hcap hc hs)
  have HWR := hid (fun (wx : World) (hf : Fr (fun _ => False) w wx) (hsz : sizeD 1000 l ≠ 0) => (show Calls Tryz.prog 47 #[.slice pa l.length cap, .int .i64 indent, .bool so, .int .i64 0] wx _ from wr_all 1000 wx pa cap 0 l indent so rfl (h.fr hf) hcap hc hlm hs hb (by omega) (by omega) hsz hwg))
  have hsl := sizeD_le 1000 l
  generalize sizeD 1000 l = z at *
  generalize wrD indent so 1000 l = T at *
  generalize l.length = L at *
  clear h hs hb hwg h1 h2
  by_cases hz0 : z = 0
  · subst hz0
    rw [if_pos (.inl rfl)]
    go_enter Tryz.func28, Tryz.ntmps28
    go_wp2_with fail
    refine Calls.mono HSZ.out ?_
    rintro e w2 ⟨rfl, hf2⟩
    have HF2 := hid hf2
    clear hf2
    go_wp2
    go_ret2
    exact ⟨rfl, HF2.out⟩
  have hz0b : ((z : Int) == 0) = false := beq_eq_false_iff_ne.2 (by omega)
  by_cases hzL : z = L
  · subst hzL
    rw [if_neg (by omega)]
    go_enter Tryz.func28, Tryz.ntmps28
    go_wp2_with fail
    refine Calls.mono HSZ.out ?_
    rintro e w2 ⟨rfl, hf2⟩
    have HF2 := hid hf2
    clear hf2
    go_wp2_with fail
    refine Calls.mono (HWR.out w2 HF2.out hz0) ?_
    rintro e w3 ⟨rfl, hf3⟩
    have HF3 := hid (HF2.out.trans hf3)
    clear hf3
    go_wp2
    go_ret2
    exact ⟨rfl, HF3.out⟩
  · rw [if_pos (.inr hzL)]
    have hzLb : ((z : Int) != (L : Int)) = true := by simp; omega
    have hzLc : ((z : Int) == (L : Int)) = false := beq_eq_false_iff_ne.2 (by omega)
    go_enter Tryz.func28, Tryz.ntmps28
    go_wp2_with fail
    refine Calls.mono HSZ.out ?_
    rintro e w2 ⟨rfl, hf2⟩
    have HF2 := hid hf2
    clear hf2
    go_wp2
    go_ret2
    exact ⟨rfl, HF2.out⟩
end Go.Proofs.YtmkkibaacclhnaaGreatDoor

namespace Go.Proofs.YtmkkibaacclhnaaGreatDoor
open Go.RowKit

set_option maxRecDepth 100000 in
set_option maxHeartbeats 4000000 in
theorem may_yes (indent : Int) (w : World) (h1 : -1 ≤ indent) (h2 : indent ≤ 16) : Calls Tryz.prog 24 #[.int .i64 indent] w fun e w' => e = .returned (.bool true) ∧ w' = w := by
  have a1 : decide (-1 ≤ indent) = true := decide_eq_true h1
  have a2 : decide (indent ≤ 16) = true := decide_eq_true h2
  go_enter Tryz.func24, Tryz.ntmps24
  go_wp2
  go_ret
  exact ⟨rfl, rfl⟩
set_option maxRecDepth 100000 in
set_option maxHeartbeats 4000000 in
theorem may_no (indent : Int) (w : World) (h : indent < -1 ∨ 16 < indent) : Calls Tryz.prog 24 #[.int .i64 indent] w fun e w' => e = .returned (.bool false) ∧ w' = w := by
  rcases h with h | h
  · have a1 : decide (-1 ≤ indent) = false := decide_eq_false (by omega)
    go_enter Tryz.func24, Tryz.ntmps24
    go_wp2
    go_ret
    exact ⟨rfl, rfl⟩
  · have a1 : decide (-1 ≤ indent) = true := decide_eq_true (by omega)
    have a2 : decide (indent ≤ 16) = false := decide_eq_false (by omega)
    go_enter Tryz.func24, Tryz.ntmps24
    go_wp2
    go_ret
    exact ⟨rfl, rfl⟩
set_option maxRecDepth 100000 in
set_option maxHeartbeats 8000000 in
theorem pwrite_arg (w : World) (v : Value) (indent : Int) (so : Bool) (h : indent < -1 ∨ 16 < indent) :
    Calls Tryz.prog 8 #[v, .int .i64 indent, .bool so] w fun e w' => e = .returned (.tuple #[.string (ofL []), .int .i64 1]) ∧ Fr (fun _ => False) w w' := by
  have HM := hid (fun w => may_no indent w h)
  have HF := hid (Fr.refl (fun _ => False) w)
  clear h
  go_enter Tryz.func8, Tryz.ntmps8
  go_wp2_with (first | (go_at_call 24; refine Calls.mono (HM.out _) ?_; rintro e w2 ⟨rfl, rfl⟩) | fail)
  go_ret2
  exact ⟨rfl, HF.out⟩
set_option maxRecDepth 100000 in
set_option maxHeartbeats 8000000 in
theorem pwrite_val (w : World) (ig cap n : Nat) (indent : Int) (so : Bool) (h1 : -1 ≤ indent) (h2 : indent ≤ 16)
    (HO : Calls Tryz.prog 25 #[.slice (some ⟨ig, 0, none⟩) n cap] w fun e w' => Fr (fun _ => False) w w' ∧ ∃ (k m : Nat), e = .returned (.tuple #[.agg #[.slice (some ⟨ig, 0, none⟩) n cap, .slice (some ⟨k, 0, none⟩) n n, .int .i64 (m : Int)], .bool false])) :
    Calls Tryz.prog 8 #[.slice (some ⟨ig, 0, none⟩) n cap, .int .i64 indent, .bool so] w fun e w' => e = .returned (.tuple #[.string (ofL []), .int .i64 8]) ∧ Fr (fun _ => False) w w' := by
  have HM := hid (fun w => may_yes indent w h1 h2)
  have H := hid HO
  clear HO
  go_enter Tryz.func8, Tryz.ntmps8
  go_wp2_with (first | (go_at_call 24; refine Calls.mono (HM.out _) ?_; rintro e w2 ⟨rfl, rfl⟩) | fail)
  refine Calls.mono H.out ?_
  rintro e w1 ⟨hF, k, m, rfl⟩
  have HF := hid (fun o => hF.alloc o)
  clear hF
  go_wp2
  go_ret2
  exact ⟨rfl, HF.out _⟩
/-- the writer as it is first laid -/
theorem PIn.first {w w1 : World} {ig cap : Nat} {its : List Im} {g : Nat} {beh : List Nat} {v : Value} (hI : ItAt w (.slice (some ⟨ig, 0, none⟩) its.length cap) its) (hF : Fr (fun _ => False) w w1) (h : OutOk w w1 ig cap its v g beh) (o : Obj) (ind : Int) (so : Bool) :
    PIn ((w1.alloc o).alloc (.cells #[.slice (some ⟨ig, 0, none⟩) its.length cap, .slice (some ⟨g, 0, none⟩) its.length its.length, .int .i64 (its.length : Int), .int .i64 ind, .bool so, .int .i64 0, .pointer none, .slice none 0 0] 69)) (w1.heap.size + 1) g ig cap its beh its.length ind so 0 (.pointer none) (.slice none 0 0) [] := by
  have hF2 := ((Fr.refl (fun _ => False) w1).alloc o).alloc (.cells #[.slice (some ⟨ig, 0, none⟩) its.length cap, .slice (some ⟨g, 0, none⟩) its.length its.length, .int .i64 (its.length : Int), .int .i64 ind, .bool so, .int .i64 0, .pointer none, .slice none 0 0] 69)
  have hb := heap_alloc_new (w1.alloc o) (.cells #[.slice (some ⟨ig, 0, none⟩) its.length cap, .slice (some ⟨g, 0, none⟩) its.length its.length, .int .i64 (its.length : Int), .int .i64 ind, .bool so, .int .i64 0, .pointer none, .slice none 0 0] 69)
  rw [show (w1.alloc o).heap.size = w1.heap.size + 1 by simp] at hb
  exact ⟨⟨hb, .inl rfl, ⟨rfl, .inl ⟨rfl, rfl⟩⟩⟩, hI.fr (hF.trans hF2) (fun _ _ => id), rowFr h.row hF2 (fun _ _ => id), h.beh⟩
set_option maxRecDepth 100000 in
set_option maxHeartbeats 8000000 in
theorem pwrite_ok (w : World) (ig cap : Nat) (its : List Im) (indent : Int) (so : Bool) (hI : ItAt w (.slice (some ⟨ig, 0, none⟩) its.length cap) its) (h1 : -1 ≤ indent) (h2 : indent ≤ 16) (hl : its.length ≤ 10000000) (hs : ∀ x, x ∈ its → x.s.length ≤ 100000000) (hb : Bok its) (hw : (wrD indent so 1000 its).length ≤ 90000000000) (hne : wrD indent so 1000 its ≠ []) (hz : sizeD 1000 its = its.length) (hn0 : its.length ≠ 0)
    (HO : Calls Tryz.prog 25 #[.slice (some ⟨ig, 0, none⟩) its.length cap] w fun e w' => Fr (fun _ => False) w w' ∧ ∃ v, e = .returned (.tuple #[v, .bool true]) ∧ ∃ g beh, OutOk w w' ig cap its v g beh) :
    Calls Tryz.prog 8 #[.slice (some ⟨ig, 0, none⟩) its.length cap, .int .i64 indent, .bool so] w fun e w' => e = .returned (.tuple #[.string (ofL (wrD indent so 1000 its)), .int .i64 0]) ∧ Fr (fun _ => False) w w' := by
  have HM := hid (fun w => may_yes indent w h1 h2)
  have H := hid HO
  have HI := hid hI
  have HWR := hid (fun wx B g beh nx ad vo (hx : PIn wx B g ig cap its beh nx indent so 0 ad vo []) => write_all 1000 wx B g ig cap its beh nx indent so 0 ad vo [] 0 hx rfl h1 h2 hl hs hb (by rw [List.drop_zero, hz]; exact hn0) (by rw [List.drop_zero]; simpa using hw))
  simp only [List.drop_zero, List.nil_append] at HWR
  have HST := hid (fun B wx vi vb nx op ad vo (hx : WAt B wx vi vb nx indent so op ad vo (wrD indent so 1000 its)) => string_any B wx vi vb nx indent so op ad vo _ hx hne (by omega))
  clear HO hI hs hb hw hne hz
  obtain ⟨T, hT⟩ : ∃ T, wrD indent so 1000 its = T := ⟨_, rfl⟩
  rw [hT] at HWR HST ⊢
  clear hT
  go_enter Tryz.func8, Tryz.ntmps8
  go_wp2_with (first | (go_at_call 24; refine Calls.mono (HM.out _) ?_; rintro e w2 ⟨rfl, hw2⟩; have hw3 := hw2.symm; subst hw3) | fail)
  refine Calls.mono H.out ?_
  rintro e w1 ⟨hF, v, rfl, g, beh, hO⟩
  have hv := hO.val
  subst hv
  have HP := hid (fun o => PIn.first HI.out hF hO o indent so)
  have HF := hid hF
  have hB : w.heap.size ≤ w1.heap.size := hF.size
  clear hF hO
  generalize its.length = n at *
  go_wp2_with fail
  refine Calls.mono (HWR.out _ _ _ _ _ _ _ (HP.out _)) ?_
  rintro e w2 ⟨rfl, vo2, hW2, hF2, hN2⟩
  have HF2 := hid (((HF.out.alloc _).alloc _).trans' hF2 (by
    rintro i (rfl | h)
    · exact .inr (by omega)
    · simp [Value.ownBlock] at h))
  have HN2 := hid (show ∀ i, vo2.ownBlock = some i → w.heap.size ≤ i from fun i hi => by
    rcases hN2 i hi with h | h
    · simp [Value.ownBlock] at h
    · simp at h; omega)
  have HS := hid (HST.out _ _ _ _ _ _ _ _ hW2)
  clear hW2 hF2 hN2
  go_wp2_with fail
  refine Calls.mono HS.out ?_
  rintro e w3 ⟨rfl, hF3⟩
  have HF3 := hid (HF2.out.trans' hF3 (fun i hi => .inr (HN2.out i hi)))
  clear hF3
  go_wp2
  go_ret2
  exact ⟨rfl, HF3.out⟩
end Go.Proofs.YtmkkibaacclhnaaGreatDoor

namespace Go.Proofs.YtmkkibaacclhnaaGreatDoor
open Go.RowKit

theorem unit_rnd : RndAt 1 0 4607182418800017408 := by
  show Rnd (1 * pP 0) (p10 0) 4607182418800017408
  unfold Rnd
  decide +kernel
theorem unit_a : mid 4607182418800017408 < 4 * p2 1074 := by decide +kernel
theorem unit_c : 2 * p2 1074 < mid 4607182418800017407 * 10 := by decide +kernel
theorem unit_pred : 4607182418800017408 - 1 = 4607182418800017407 := by omega
theorem unit_short {D : Nat} {pw : Int} (h : Short 4607182418800017408 D pw) : D = 1 ∧ pw = 0 := by
  have hr := h.rnd (by omega)
  have hpos := hr.pos (by omega)
  have e2 : D * pP pw = D * p10 pw.toNat * p2 1074 := by rw [pP, Nat.mul_assoc]
  have hp := p2_pos 1074
  have hup : pw ≤ 0 := by
    rcases Int.lt_or_le 0 pw with h1 | h1
    · exfalso
      obtain ⟨_, b⟩ := hr
      rw [e2, show (-pw).toNat = 0 by omega, show p10 0 = 1 from rfl, Nat.mul_one] at b
      have h3 := p10_le 1 pw.toNat (by omega)
      rw [show p10 1 = 10 from rfl] at h3
      have h4 : 1 * 10 ≤ D * p10 pw.toNat := Nat.mul_le_mul hpos h3
      have h2 : 1 * 10 * p2 1074 ≤ D * p10 pw.toNat * p2 1074 := Nat.mul_le_mul_right _ h4
      have := unit_a
      omega
    · exact h1
  have hlo : 0 ≤ pw := by
    rcases Int.lt_or_le pw 0 with h1 | h1
    · exfalso
      obtain ⟨dg, R, L, H, U, hI, hpk, hd⟩ := h
      rcases hd with rfl | hd
      · have hD1 : D = 1 := by rcases pick_true hpk with rfl | rfl <;> omega
        obtain ⟨a, _⟩ := hr
        have hk : mid (4607182418800017408 - 1) * p10 (-pw).toNat ≤ 2 * (D * pP pw) := by
          rcases a with a | a | ⟨a, _⟩
          · exact absurd a (by decide)
          · exact Nat.le_of_lt a
          · exact Nat.le_of_eq a
        rw [unit_pred] at hk
        have hz : D * pP pw = p2 1074 := by
          rw [e2, hD1, show pw.toNat = 0 by omega, show p10 0 = 1 from rfl, Nat.one_mul]
        rw [hz] at hk
        have h3 := p10_le 1 (-pw).toNat (by omega)
        have h4 : p10 1 = 10 := rfl
        rw [h4] at h3
        have h5 := Nat.mul_le_mul_left (mid 4607182418800017407) h3
        exact absurd unit_c (Nat.not_lt.2 (Nat.le_trans h5 hk))
      · refine hd.none (by omega) (1 * p10 (-1 - pw).toNat) ?_
        have := unit_rnd.same (SameV.shift 1 (-1 - pw).toNat 0)
        rwa [show (0 : Int) - ((-1 - pw).toNat : Int) = pw + 1 by omega] at this
    · exact h1
  obtain rfl : pw = 0 := by omega
  refine ⟨?_, rfl⟩
  obtain ⟨_, b⟩ := hr
  rw [e2, show (0 : Int).toNat = 0 from rfl, show p10 0 = 1 from rfl, Nat.mul_one, show (-(0 : Int)).toNat = 0 from rfl, show p10 0 = 1 from rfl, Nat.mul_one] at b
  have := unit_a
  rcases Nat.lt_or_ge D 2 with h1 | h1
  · omega
  · exfalso
    have h2 : 2 * p2 1074 ≤ D * p2 1074 := Nat.mul_le_mul_right _ h1
    omega
/-- two accounts of a call speak of one answer -/
theorem calls_two {P : Program} {f : FuncId} {args : Array Value} {w : World} {b : Value} {R : Value → World → Prop} {S : World → Prop} (hi : P.inits.idxOf? f = none) (h1 : Calls P f args w fun e w' => ∃ a, e = .returned a ∧ R a w') (h2 : Calls P f args w fun e w' => e = .returned b ∧ S w') : ∃ w', R b w' := by
  obtain ⟨e1, w1, f1, ⟨a, rfl, hR⟩, ⟨j1, c1⟩, n1, l1⟩ := h1 []
  obtain ⟨e2, w2, f2, ⟨rfl, _⟩, ⟨j2, c2⟩, n2, l2⟩ := h2 []
  have s1 := step_leave_done l1 (by rw [n1]; exact hi)
  have s2 := step_leave_done l2 (by rw [n2]; exact hi)
  have := run_ended_one c1 s1 c2 s2
  injection this with this
  subst this
  exact ⟨_, hR⟩
theorem printT_unit (w : World) : printT 4607182418800017408 = [49] := by
  have h1 : Calls Tryz.prog 23 #[.int .u64 ((4607182418800017408 : Nat) : Int)] w fun e w' => e = .returned (.tuple #[.string (ofL [49]), .int .i64 0]) ∧ Fr (fun _ => False) w w' := by
    refine (print_num 4607182418800017408 4607182418800017408 w (u64_andNot_sign 4607182418800017408 (by omega)) (by omega) (by omega)).mono ?_
    rintro e w' ⟨D, pw, hs, _, _, _, he, hF⟩
    obtain ⟨rfl, rfl⟩ := unit_short hs
    have h1 : dgs 1 = [49] := by rw [dgs_lt (by omega)]; rfl
    rw [h1] at he
    exact ⟨he, hF⟩
  have := calls_one (by kernel_rfl) h1 (print_T 4607182418800017408 w (by omega) (by omega))
  simp at this
  exact (ofL_inj this).symm
theorem layL_ne (l : List UInt8) (pw : Int) (h : 0 < l.length) : layL l pw ≠ [] := by
  have hl : l ≠ [] := by rintro rfl; simp at h
  unfold layL
  split
  · unfold expL
    simp [hl]
  · split
    · simp
    · split
      · simp [hl]
      · simp
theorem printT_ne (w : World) (bits : Nat) (hb : bits < 18446744073709551616) (hfin : bits % 9223372036854775808 < 9218868437227405312) : printT bits ≠ [] := by
  have h1 : Calls Tryz.prog 23 #[.int .u64 (bits : Int)] w fun e w' => ∃ a, e = .returned a ∧ ∃ t, a = .tuple #[.string (ofL t), .int .i64 0] ∧ t ≠ [] := by
    by_cases h0 : bits % 9223372036854775808 = 0
    · refine (print_zero bits _ w (u64_andNot_sign bits hb) h0).mono ?_
      rintro e w' ⟨rfl, hF⟩
      refine ⟨_, rfl, _, rfl, ?_⟩
      intro h
      unfold printL at h
      split at h <;> cases h
    · refine (print_num bits _ w (u64_andNot_sign bits hb) h0 hfin).mono ?_
      rintro e w' ⟨D, pw, hs, _, _, _, rfl, hF⟩
      refine ⟨_, rfl, _, rfl, ?_⟩
      unfold printL
      split
      · simp
      · exact layL_ne _ _ (dgs_pos D)
  obtain ⟨_, t, ht, hne⟩ := calls_two (by kernel_rfl) h1 (print_T bits w hb hfin)
  simp at ht
  rw [ofL_inj ht]
  exact hne
theorem leafT_ne (w : World) (x : Im) (hg : goodI x = true) (hb : x.b < 18446744073709551616) : leafT x ≠ [] := by
  unfold leafT
  split
  · simp
  · split
    · simp
    · split
      · simp
      · split
        · rename_i h; exact printT_ne w x.b hb (goodI_num hg h)
        · unfold quoteL; simp
theorem wrD_ne (w : World) (indent : Int) (so : Bool) (d : Nat) (l : List Im) (hb : Bok l) (hz : sizeD d l ≠ 0) : wrD indent so d l ≠ [] := by
  cases l with
  | nil => exact absurd (by cases d <;> rfl) hz
  | cons x r =>
    have hg : goodI x = true := by
      by_cases hg : goodI x = true
      · exact hg
      · exfalso
        apply hz
        cases d with
        | zero => rw [sizeD, if_neg (fun h => hg h.1)]
        | succ e => rw [sizeD, if_neg hg]
    have hl := leafT_ne w x hg (hb x (by simp))
    cases d with
    | zero => exact hl
    | succ d =>
      simp only [wrD]
      split
      · exact hl
      · unfold joinL
        split <;> simp
/-- the program writes what the document writes -/
theorem pwrite_any (w : World) (ig cap : Nat) (its : List Im) (indent : Int) (so : Bool) (hI : ItAt w (.slice (some ⟨ig, 0, none⟩) its.length cap) its) (hT : Tabs w) (hl : its.length ≤ 10000000) (hs : ∀ x, x ∈ its → x.s.length ≤ 100000000) (hb : Bok its) (hwg : wgt its ≤ 90000000000) :
    Calls Tryz.prog 8 #[.slice (some ⟨ig, 0, none⟩) its.length cap, .int .i64 indent, .bool so] w fun e w' => e = .returned (.tuple #[.string (ofL (wAns its indent so).1), .int .i64 (wAns its indent so).2]) ∧ Fr (fun _ => False) w w' := by
  unfold wAns
  by_cases h1 : indent < -1 ∨ 16 < indent
  · rw [if_pos h1]
    exact pwrite_arg w _ indent so h1
  · rw [if_neg h1]
    by_cases h2 : sizeD 1000 its = 0 ∨ sizeD 1000 its ≠ its.length
    · rw [if_pos h2]
      refine pwrite_val w ig cap its.length indent so (by omega) (by omega) ?_
      by_cases hz : sizeD 1000 its = 0
      · exact outline_no w ig cap its hI hT hl hs hb hz
      · refine (outline_some w ig cap its hI hT hl hs hb hz).mono ?_
        rintro e w' ⟨hF, v, rfl, ⟨k, m, rfl⟩, _⟩
        have : ((sizeD 1000 its : Int) == (its.length : Int)) = false := beq_eq_false_iff_ne.2 (by omega)
        exact ⟨hF, k, m, by rw [this]⟩
    · rw [if_neg h2]
      have hz : sizeD 1000 its ≠ 0 := fun h => h2 (.inl h)
      have hz2 : sizeD 1000 its = its.length := Classical.byContradiction (fun h => h2 (.inr h))
      have hlen := wrD_len w indent so (by omega) 1000 its hb hz
      have hwt := wgt_take_le its (sizeD 1000 its)
      refine pwrite_ok w ig cap its indent so hI (by omega) (by omega) hl hs hb (by omega) (wrD_ne w indent so 1000 its hb hz) hz2 (by omega) ?_
      refine (outline_some w ig cap its hI hT hl hs hb hz).mono ?_
      rintro e w' ⟨hF, v, rfl, _, hO⟩
      have : ((sizeD 1000 its : Int) == (its.length : Int)) = true := beq_iff_eq.2 (by omega)
      exact ⟨hF, v, by rw [this], hO hz2⟩
end Go.Proofs.YtmkkibaacclhnaaGreatDoor

namespace Go.Proofs.YtmkkibaacclhnaaGreatDoor
open Go.RowKit

theorem Tryz.info29B : (Tryz.prog.info? 29).map (fun i => (i.zero, i.size, i.bytes)) = some (some (.agg #[.int .i64 0, .int .i64 0, .int .u64 0, .string ⟨#[]⟩]), 4, 40) := by kernel_rfl
def zeroI : Im := ⟨0, 0, 0, []⟩
def spareI : Im := ⟨77, 78, 79, [115, 112, 97, 114, 101]⟩
def goneI : Im := ⟨99, 0, 0, []⟩
theorem run_copy4 {P : Program} (w : World) (dT sT ty elem : TypeId) (g dLen dCap : Nat) (a : Addr) (sLen sCap : Nat) (cur : Array Value) (t : TypeId) (cs : List Value)
    (hu : P.underlying dT = some (.slice elem)) (hs : (P.info? elem).map (·.size) = some 4)
    (hg : w.heap[g]? = some (.cells cur t (0, 0))) (hmin : Nat.min sLen dLen = sLen) (hn : cs.length = sLen * 4)
    (hsrc : ∀ j v, cs[j]? = some v → w.cell? (a.add j) = some v) (hfit : cs.length ≤ cur.size) (h1 : ∀ v ∈ cs, v.oneCell' = true) :
    (Builtin.copy_ #[dT, sT] ty #[.slice (some ⟨g, 0, none⟩) dLen dCap, .slice (some a) sLen sCap]).run P w =
      .ok (goInt sLen) (w.setRow g (cs ++ cur.toList.drop cs.length).toArray) := by
  have hl := run_loadCells_list (P := P) w a cs hsrc
  have hst := run_storeCells_at P g 0 t cs 0 cur w hg (by simpa using hfit) h1
  cases hq : P.info? elem with
  | none => simp [hq] at hs
  | some i =>
    have hi : i.size = 4 := by simpa [hq] using hs
    rw [hn] at hl
    simp [Builtin.copy_, run_underlying hu, Builtin.lenOf, Builtin.firstCells, sizeOf, typeInfo, hq, hi, hmin, hl]
    simp at hst
    rw [hst]
    simp
theorem run_copy4_nil {P : Program} (w : World) (dT sT ty elem : TypeId) (a : Addr) (dLen dCap : Nat) (p : Option Addr) (sCap : Nat) (hu : P.underlying dT = some (.slice elem)) (hs : (P.info? elem).map (·.size) = some 4) :
    (Builtin.copy_ #[dT, sT] ty #[.slice (some a) dLen dCap, .slice p 0 sCap]).run P w = .ok (goInt 0) w := by
  cases hq : P.info? elem with
  | none => simp [hq] at hs
  | some i =>
    cases p with
    | none => simp [Builtin.copy_, run_underlying hu, Builtin.lenOf, Builtin.firstCells, sizeOf, typeInfo, hq, storeCells]
    | some b =>
      have hl := run_loadCells_list (P := P) w b [] (fun j v h => by simp at h)
      simp at hl
      simp [Builtin.copy_, run_underlying hu, Builtin.lenOf, Builtin.firstCells, sizeOf, typeInfo, hq, hl, storeCells]
theorem imsV_get' (L : List Im) (m : Nat) : (imsV L)[m]? = (L[m / 4]?).bind (fun x => (imC x)[m % 4]?) := by
  have hm : m = m / 4 * 4 + m % 4 := by omega
  cases h : L[m / 4]? with
  | none =>
    have h1 : L.length ≤ m / 4 := by
      rcases Nat.lt_or_ge (m / 4) L.length with h2 | h2
      · rw [List.getElem?_eq_getElem h2] at h; cases h
      · exact h2
    rw [List.getElem?_eq_none (by rw [imsV_length]; omega)]
    rfl
  | some x =>
    conv => lhs; rw [hm]
    rw [imsV_get L (m / 4) (m % 4) x h (by omega)]
    rfl
theorem imsV_set (L : List Im) (i : Nat) (x : Im) : imsV (L.set i x) = ((((imsV L).set (i * 4) (.int .i64 x.k)).set (i * 4 + 1) (.int .i64 x.n)).set (i * 4 + 2) (.int .u64 (x.b : Int))).set (i * 4 + 3) (.string (ofL x.s)) := by
  apply List.ext_getElem?
  intro m
  rw [imsV_get']
  by_cases hm : m / 4 = i
  · subst hm
    by_cases hl : m / 4 < L.length
    · rw [List.getElem?_set_self hl]
      have hlen : m < (imsV L).length := by rw [imsV_length]; omega
      have h4 : m % 4 = 0 ∨ m % 4 = 1 ∨ m % 4 = 2 ∨ m % 4 = 3 := by omega
      simp only [Option.bind_some]
      rcases h4 with h | h | h | h
      · rw [List.getElem?_set_ne (by omega), List.getElem?_set_ne (by omega), List.getElem?_set_ne (by omega), show m / 4 * 4 = m by omega, List.getElem?_set_self hlen, h]; rfl
      · rw [List.getElem?_set_ne (by omega), List.getElem?_set_ne (by omega), show m / 4 * 4 + 1 = m by omega, List.getElem?_set_self (by simpa using hlen), h]; rfl
      · rw [List.getElem?_set_ne (by omega), show m / 4 * 4 + 2 = m by omega, List.getElem?_set_self (by simpa using hlen), h]; rfl
      · rw [show m / 4 * 4 + 3 = m by omega, List.getElem?_set_self (by simpa using hlen), h]; rfl
    · have h1 : (L.set (m / 4) x)[m / 4]? = none := List.getElem?_eq_none (by simp; omega)
      have h2 : (imsV L).length ≤ m := by rw [imsV_length]; omega
      rw [h1, List.getElem?_eq_none (by simpa using h2)]
      rfl
  · rw [List.getElem?_set_ne (by omega), List.getElem?_set_ne (by omega), List.getElem?_set_ne (by omega), List.getElem?_set_ne (by omega), List.getElem?_set_ne (by omega), imsV_get']
theorem made_items (k : Nat) : (madeCells #[Value.int .i64 0, .int .i64 0, .int .u64 0, .string ⟨#[]⟩] (k * 4)).toList = imsV (List.replicate k zeroI) := by
  apply List.ext_getElem?
  intro m
  rw [imsV_get']
  by_cases hm : m < k * 4
  · have h1 : (List.replicate k zeroI)[m / 4]? = some zeroI := by rw [List.getElem?_replicate, if_pos (by omega)]
    rw [h1]
    have h2 : (madeCells #[Value.int .i64 0, .int .i64 0, .int .u64 0, .string ⟨#[]⟩] (k * 4)).toList[m]? = some (#[Value.int .i64 0, .int .i64 0, .int .u64 0, .string ⟨#[]⟩][m % 4]!) := by
      simp [madeCells, hm]
    rw [h2]
    have h4 : m % 4 = 0 ∨ m % 4 = 1 ∨ m % 4 = 2 ∨ m % 4 = 3 := by omega
    rcases h4 with h | h | h | h <;> rw [h] <;> rfl
  · rw [List.getElem?_eq_none (by simp [size_madeCells]; omega)]
    have h1 : (List.replicate k zeroI)[m / 4]? = none := List.getElem?_eq_none (by simp; omega)
    rw [h1]
    rfl
/-- a list of items in a block of its own, from its front on -/
def IB (w : World) (g : Nat) (L : List Im) : Prop := w.heap[g]? = some (.cells (imsV L).toArray 29 (0, 0))
theorem IB.it {w : World} {g : Nat} {A B : List Im} (h : IB w g (A ++ B)) (hn : (A ++ B).length ≤ 20000000) : ItAt w (.slice (some ⟨g, 0, none⟩) A.length (A ++ B).length) A := by
  refine ⟨(imsV_length A), .inr ⟨g, (A ++ B).length, _, rfl, Nat.zero_le _, h, by simp, by unfold maxLen; omega, by simp [imsV_length], ?_⟩⟩
  rw [List.toList_toArray, imsV_append, ← imsV_length A, List.take_left']
  rfl
theorem IB.set {w : World} {g : Nat} {L : List Im} (h : IB w g L) (i : Nat) (x : Im) : IB ((((w.setCell ⟨g, i * 4, none⟩ (.int .i64 x.k)).setCell ⟨g, i * 4 + 1, none⟩ (.int .i64 x.n)).setCell ⟨g, i * 4 + 2, none⟩ (.int .u64 (x.b : Int))).setCell ⟨g, i * 4 + 3, none⟩ (.string (ofL x.s))) g (L.set i x) := by
  have h1 := heap_setCell_same w g (i * 4) _ 29 (.int .i64 x.k) h
  have h2 := heap_setCell_same _ g (i * 4 + 1) _ 29 (.int .i64 x.n) h1
  have h3 := heap_setCell_same _ g (i * 4 + 2) _ 29 (.int .u64 (x.b : Int)) h2
  have h4 := heap_setCell_same _ g (i * 4 + 3) _ 29 (.string (ofL x.s)) h3
  unfold IB
  rw [h4, imsV_set]
  simp
theorem IB.cells {w : World} {g : Nat} {L : List Im} (h : IB w g L) {p : Nat} {x : Im} (hx : L[p]? = some x) :
    w.cell? ⟨g, p * 4, none⟩ = some (.int .i64 x.k) ∧ w.cell? ⟨g, p * 4 + 1, none⟩ = some (.int .i64 x.n) ∧ w.cell? ⟨g, p * 4 + 2, none⟩ = some (.int .u64 (x.b : Int)) ∧ w.cell? ⟨g, p * 4 + 3, none⟩ = some (.string (ofL x.s)) ∧ ∀ j, w.frozen? ⟨g, j, none⟩ = false := by
  have key : ∀ j, j < 4 → (imsV L).toArray[p * 4 + j]? = (imC x)[j]? := fun j hj => by
    rw [List.getElem?_toArray]; exact imsV_get L p j x hx hj
  exact ⟨blk_cell h (key 0 (by omega)), blk_cell h (key 1 (by omega)), blk_cell h (key 2 (by omega)), blk_cell h (key 3 (by omega)), fun _ => blk_free h⟩
theorem IB.fr {w w' : World} {g : Nat} {L : List Im} {S : Nat → Prop} (h : IB w g L) (hf : Fr S w w') (hs : ¬ S g) : IB w' g L := hf.heap h hs
theorem IB.made (w : World) (k : Nat) : IB (w.alloc (.cells (madeCells #[Value.int .i64 0, .int .i64 0, .int .u64 0, .string ⟨#[]⟩] (k * 4)) 29)) w.heap.size (List.replicate k zeroI) := by
  unfold IB
  rw [heap_alloc_new, ← made_items, Array.toArray_toList]
theorem LR.flat {w : World} {pa : Option Addr} {l : List Im} (h : LR w pa l) (hl : l ≠ []) : ∃ ad, pa = some ad ∧ ∀ j v, (imsV l)[j]? = some v → w.cell? (ad.add j) = some v := by
  obtain ⟨ad, h1, h2, h3⟩ := h hl
  refine ⟨ad, h1, fun j v hv => ?_⟩
  rw [imsV_get'] at hv
  cases hx : l[j / 4]? with
  | none => rw [hx] at hv; cases hv
  | some x =>
    rw [hx] at hv
    simp only [Option.bind_some] at hv
    obtain ⟨a, b, c, d⟩ := h3 _ x hx
    rw [Addr.add_add] at b c d
    have h4 : j % 4 = 0 ∨ j % 4 = 1 ∨ j % 4 = 2 ∨ j % 4 = 3 := by omega
    rcases h4 with e | e | e | e
    · rw [e] at hv; rw [show j = j / 4 * 4 by omega, a]; exact hv
    · rw [e] at hv; rw [show j = j / 4 * 4 + 1 by omega, b]; exact hv
    · rw [e] at hv; rw [show j = j / 4 * 4 + 2 by omega, c]; exact hv
    · rw [e] at hv; rw [show j = j / 4 * 4 + 3 by omega, d]; exact hv
/-- the items laid over the front -/
theorem IB.copy {w : World} {g : Nat} {A B C : List Im} (h : IB w g (A ++ B)) (hC : C.length = A.length) : IB (w.setRow g (imsV C ++ (imsV (A ++ B)).drop (imsV C).length).toArray) g (C ++ B) := by
  unfold IB
  rw [setRow_heap w g _ _ 29 (0, 0) h, imsV_append, imsV_append, imsV_length C, hC, ← imsV_length A, List.drop_left']
  rfl
end Go.Proofs.YtmkkibaacclhnaaGreatDoor
