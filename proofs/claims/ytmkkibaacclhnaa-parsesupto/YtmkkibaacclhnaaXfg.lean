/-
  A step of the walk of the numbers, the part named Xfg: the law Exact, walked. No theorem of the row.
-/
import Derived.Test.YtmkkibaacclhnaaXab
import Derived.Test.YtmkkibaacclhnaaXcd
namespace Go.Proofs.Ytmkkibaacclhnaa
open Go.RowKit

/-- what is known of a printed token of two digits or more -/
structure PX2 (MM : Int) (L : List UInt8) (M : Nat) (c : UInt8) (pw : Int) : Prop where
  dig : strip (scan (noE L)) = dgs M ++ [c]
  len : (dgs M).length ≤ 20
  len1 : (dgs (M + 1)).length ≤ 20
  p1 : -5000 ≤ pw
  p2 : pw ≤ 5000
  wher : ∀ w, Calls Try.prog 19 #[.string (ofL L)] w fun e w' => e = .returned (.int .i64 (((dgs M).length : Int) + pw)) ∧ w' = w
  whole : ∀ w, Calls Try.prog 17 #[.string (ofL (dgs M ++ [c] ++ 101 :: decL pw)), .int .u64 MM] w fun e w' => e = .returned (.bool true) ∧ Fr (fun _ => False) w w'
  down : ∀ w, Calls Try.prog 17 #[.string (ofL (dgs M ++ 101 :: decL (pw + 1))), .int .u64 MM] w fun e w' => e = .returned (.bool false) ∧ Fr (fun _ => False) w w'
  more : ∀ w, Calls Try.prog 17 #[.string (ofL (dgs (M + 1) ++ 101 :: decL (pw + 1))), .int .u64 MM] w fun e w' => e = .returned (.bool false) ∧ Fr (fun _ => False) w w'

/-- what is known of a printed token -/
structure PX (BB MM : Int) (b : Bool) (L : List UInt8) : Prop where
  len : L.length ≤ 25
  ne : L ≠ []
  sign : (L.head? = some 45) ↔ b = true
  back : ∀ w, Calls Try.prog 17 #[.string (ofL L), .int .u64 BB] w fun e w' => e = .returned (.bool true) ∧ Fr (fun _ => False) w w'
  two : (strip (scan (noE L))).length < 2 ∨ ∃ M c pw, PX2 MM L M c pw

set_option maxRecDepth 100000 in
set_option maxHeartbeats 8000000 in
theorem exact_walk (BB MM : Int) (b : Bool) (w : World) (hM : Int.tmod BB 9223372036854775808 = MM) (hb : decide ((9223372036854775808 : Int) ≤ BB) = b) (hf : decide (MM < 9218868437227405312) = true)
    (hp : ∀ w, Calls Try.prog 13 #[.int .u64 BB] w fun e w' => ∃ L, PX BB MM b L ∧ e = .returned (.tuple #[.string (ofL L), .int .i64 0]) ∧ Fr (fun _ => False) w w') :
    Calls Try.prog 5 #[.int .u64 BB] w fun e w' => e = .returned (.bool true) ∧ Fr (fun _ => False) w w' := by
  have HP := hid hp
  clear hp
  go_enter Try.func5, Try.ntmps5
  go_wp2_with fail
  refine (known_any _).mono ?_
  rintro e w1 ⟨rfl, hF1⟩
  have H1 := hid hF1
  clear hF1
  go_wp2_with fail
  refine (HP.out _).mono ?_
  rintro e w2 ⟨L, hL, rfl, hF2⟩
  have H2 := hid (H1.out.trans hF2)
  have HL := hid hL
  clear hL hF2 H1 HP
  go_wp2_with fail
  refine (finite_is BB MM true hM hf _).mono ?_
  rintro e w3 ⟨rfl, rfl⟩
  go_wp2_with fail
  refine (HL.out.back _).mono ?_
  rintro e w4 ⟨rfl, hF4⟩
  have H4 := hid (H2.out.trans hF4)
  clear hF4 H2
  have hlen := HL.out.len
  have hne := HL.out.ne
  have hsg := HL.out.sign
  have hsz := ofL_size L
  have hem : (ofL L).toList.isEmpty = false := by rw [ofL_toList]; cases L with | nil => exact absurd rfl hne | cons => rfl
  have hpos : 0 < L.length := by cases L with | nil => exact absurd rfl hne | cons => simp
  have hg0 : (ofL L)[0]'(by rw [hsz]; exact hpos) = L[0] := ofL_get L 0 _
  have hc0 : ((L[0].toNat : Int) == 45) = b := by
    have e1 : L.head? = some L[0] := by cases L with | nil => exact absurd rfl hne | cons => rfl
    rw [e1] at hsg
    by_cases h45 : L[0] = 45
    · rw [hsg.1 (by rw [h45]), h45]; rfl
    · have : b = false := by
        cases hbb : b
        · rfl
        · exact absurd (Option.some.inj (hsg.2 hbb)) h45
      rw [this]
      exact beq_eq_false_iff_ne.2 (by have := toNat_ne h45; simp at this; omega)
  clear hsg hne
  go_wp2_with fail
  refine (digits_any L _ (by omega)).mono ?_
  rintro e w5 ⟨rfl, rfl⟩
  rcases HL.out.two with h2 | ⟨M, c, pw, h2⟩
  · have hz := ofL_size (strip (scan (noE L)))
    generalize strip (scan (noE L)) = dd at *
    go_wp2
    go_ret
    exact ⟨rfl, H4.out⟩
  · have hp1 := h2.p1
    have hp2 := h2.p2
    have hln := h2.len
    rw [h2.dig]
    have HX := hid h2
    clear h2 HL
    have hz : (ofL (dgs M ++ [c])).size = (dgs M).length + 1 := by rw [ofL_size]; simp
    have hzs := ofL_size (dgs M)
    have hex : (ofL (dgs M ++ [c])).extract 0 (dgs M).length = ofL (dgs M) := by rw [ofL_extract]; simp
    have hdp := dgs_pos M
    go_wp2_with fail
    refine (HX.out.wher _).mono ?_
    rintro e w6 ⟨rfl, rfl⟩
    go_wp2_with fail
    refine (token_any (dgs M ++ [c]) _ _ pw _ (by simp; omega) (by omega) (by omega) (by omega) (by omega) (by omega)).mono ?_
    rintro e w7 ⟨rfl, rfl⟩
    have HWwhole := hid HX.out.whole
    generalize ofL (dgs M ++ [c] ++ 101 :: decL pw) = Twhole at HWwhole ⊢
    go_wp2_with fail
    refine (HWwhole.out _).mono ?_
    rintro e w8 ⟨rfl, hF8⟩
    have H8 := hid (H4.out.trans hF8)
    clear hF8 H4
    go_wp2_with fail
    refine (token_any (dgs M) _ _ (pw + 1) _ (by omega) (by omega) (by omega) (by omega) (by omega) (by omega)).mono ?_
    rintro e w9 ⟨rfl, rfl⟩
    have HWdown := hid HX.out.down
    generalize ofL (dgs M ++ 101 :: decL (pw + 1)) = Tdown at HWdown ⊢
    go_wp2_with fail
    refine (HWdown.out _).mono ?_
    rintro e w10 ⟨rfl, hF10⟩
    have H10 := hid (H8.out.trans hF10)
    clear hF10 H8
    go_wp2_with fail
    refine (upTo_any (dgs M) _ (by omega) (allD_dgs M)).mono ?_
    rintro e w11 ⟨rfl, hF11⟩
    have H11 := hid (H10.out.trans hF11)
    clear hF11 H10
    rw [up_dgs]
    have hz1 := ofL_size (dgs (M + 1))
    have hl1 := HX.out.len1
    go_wp2_with fail
    refine (token_any (dgs (M + 1)) _ _ (pw + 1) _ (by omega) (by omega) (by omega) (by omega) (by omega) (by omega)).mono ?_
    rintro e w12 ⟨rfl, rfl⟩
    have HWmore := hid HX.out.more
    generalize ofL (dgs (M + 1) ++ 101 :: decL (pw + 1)) = Tmore at HWmore ⊢
    go_wp2_with fail
    refine (HWmore.out _).mono ?_
    rintro e w13 ⟨rfl, hF13⟩
    have H13 := hid (H11.out.trans hF13)
    clear hF13 H11
    go_wp2
    go_ret
    exact ⟨rfl, H13.out⟩
end Go.Proofs.Ytmkkibaacclhnaa

namespace Go.Proofs.Ytmkkibaacclhnaa
open Go.RowKit

theorem tokE (D : Nat) (n : Int) (hD : D ≠ 0) : ∃ s ex en, Tok (dgs D ++ 101 :: decL n) (dgs D) [] s ex en ∧ powI (ofL (dgs D)) (ofL []) en (ofL ex) = n := by
  have hk0 : dgs n.natAbs ≠ [] := by intro h; have := dgs_pos n.natAbs; rw [h] at this; simp at this
  have hd0 : dgs D ≠ [] := by intro h; have := dgs_pos D; rw [h] at this; simp at this
  by_cases h : n < 0
  · refine ⟨[45], dgs n.natAbs, true, ⟨?_, allD_dgs D, allD_nil, allD_dgs _, .inr (.inr ⟨rfl, rfl⟩), fun h => absurd h hk0, hd0, fun h => dgs_head D hD h.1⟩, ?_⟩
    · rw [frP, if_pos rfl, exP, if_neg hk0, decL, if_pos h]; rfl
    · rw [powI_dgs]; simp; omega
  · refine ⟨[], dgs n.natAbs, false, ⟨?_, allD_dgs D, allD_nil, allD_dgs _, .inl ⟨rfl, rfl⟩, fun h => absurd h hk0, hd0, fun h => dgs_head D hD h.1⟩, ?_⟩
    · rw [frP, if_pos rfl, exP, if_neg hk0, decL, if_neg h]; rfl
    · rw [powI_dgs]; simp; omega

theorem num_dgsE (D : Nat) : num (dv (dgs D) ++ dv []) = D := by
  rw [show dv [] = [] from rfl, List.append_nil, num_dgs]

theorem tokE_len (D : Nat) (n : Int) (hD : (dgs D).length ≤ 20) (h1 : -10000 ≤ n) (h2 : n ≤ 10000) : (dgs D ++ 101 :: decL n).length ≤ 1000 := by
  have := decL_len n h1 h2
  simp; omega

/-- a token made anew, that rounds to the number -/
theorem same_yes (D : Nat) (n : Int) (m : Nat) (hD : D ≠ 0) (hl : (dgs D).length ≤ 20) (h1 : -10000 ≤ n) (h2 : n ≤ 10000) (hm0 : m ≠ 0) (hm : m < 9218868437227405312) (hr : RndAt D n m) (w : World) :
    Calls Try.prog 17 #[.string (ofL (dgs D ++ 101 :: decL n)), .int .u64 (m : Int)] w fun e w' => e = .returned (.bool true) ∧ Fr (fun _ => False) w w' := by
  obtain ⟨s, ex, en, ht, hp⟩ := tokE D n hD
  refine same_true _ m w (parse_val ht (tokE_len D n hl h1 h2) (by simp; omega) hm (fun h => absurd h hm0) (fun _ => ?_) w)
  rw [num_dgsE, hp, List.length_nil]
  simpa using hr
/-- a token made anew, that doesn't -/
theorem same_no (D : Nat) (n : Int) (m : Nat) (hD : D ≠ 0) (hl : (dgs D).length ≤ 20) (h1 : -10000 ≤ n) (h2 : n ≤ 10000) (hm0 : m ≠ 0) (hm : m < 9218868437227405312) (hr : ¬ RndAt D n m) (w : World) :
    Calls Try.prog 17 #[.string (ofL (dgs D ++ 101 :: decL n)), .int .u64 (m : Int)] w fun e w' => e = .returned (.bool false) ∧ Fr (fun _ => False) w w' := by
  obtain ⟨s, ex, en, ht, hp⟩ := tokE D n hD
  have hpt := parse_tok false ht (tokE_len D n hl h1 h2) (by simp; omega) w
  refine same_false _ m w (Calls.mono hpt ?_)
  rintro e w' ⟨r, hiff, he, hF⟩
  have h := hiff m hm0 hm
  rw [num_dgsE, hp, List.length_nil] at h
  have hrm : r ≠ m := fun e => hr (by simpa using h.1 e)
  refine ⟨(parseV false r).1, (parseV false r).2, ?_, ?_, he, hF⟩
  · unfold parseV
    split
    · left; simp
    · right; simpa using hrm
  · unfold parseV
    split <;> simp

theorem dgs_last (D : Nat) (h : D % 10 ≠ 0) : (dgs D).getLast? ≠ some 48 := by
  have hb := ofNat_byte (D % 10) (by omega)
  have key : UInt8.ofNat (48 + D % 10) ≠ 48 := by
    intro e
    have := congrArg UInt8.toNat e
    rw [hb] at this
    have h48 : (48 : UInt8).toNat = 48 := rfl
    omega
  by_cases h1 : D < 10
  · rw [dgs_lt h1]
    rw [show D % 10 = D by omega] at key
    simpa using key
  · rw [dgs_ge h1]
    simpa using key

theorem p10_17 : p10 17 = 100000000000000000 := by decide +kernel
theorem dgs_len17 (D : Nat) (h0 : D ≠ 0) (h : D < 100000000000000000) : (dgs D).length ≤ 17 := by
  rcases Nat.lt_or_ge 17 (dgs D).length with h1 | h1
  · exfalso
    have hp := dgs_pos D
    have := num_top (dgs D) (allD_dgs D) (by intro h; rw [h] at hp; simp at hp) (dgs_head D h0)
    rw [num_dgs] at this
    have h2 := p10_le 17 ((dgs D).length - 1) (by omega)
    rw [p10_17] at h2
    omega
  · exact h1

theorem sg_head (neg : Bool) (X : List UInt8) (h : X.head? ≠ some 45) : (sgP neg ++ X).head? = some 45 ↔ neg = true := by
  cases neg
  · simp only [sgP, Bool.false_eq_true, if_false, List.nil_append, iff_false]; exact h
  · simp [sgP]

theorem lay_head (l : List UInt8) (pw : Int) (hA : AllD l) (h0 : l ≠ []) : (layL l pw).head? ≠ some 45 := by
  have hk1 : ∀ k, 0 < k → l.take k ≠ [] := by intro k hk; rw [Ne, List.take_eq_nil_iff]; simp [h0]; omega
  unfold layL
  split
  · unfold expL
    rw [List.append_assoc]
    exact head_noD (hk1 1 (by omega)) (hA.take 1) (by decide)
  · split
    · simp
    · split
      · exact head_noD h0 hA (by decide)
      · rw [List.append_assoc]
        exact head_noD (hk1 _ (by omega)) (hA.take _) (by decide)

theorem px_num {bits m D : Nat} {pw : Int} (neg : Bool) (hs : Short m D pw) (hm0 : m ≠ 0) (hm : m < 9218868437227405312) (hD : D ≤ 90071992547409920) (hp1 : -5000 ≤ pw) (hp2 : pw ≤ 5000) (hbits : (if neg then m + 9223372036854775808 else m) = bits) :
    PX (bits : Int) (m : Int) neg (printL neg (layL (dgs D) pw)) := by
  have hr := hs.rnd hm0
  have hpos := hr.pos hm0
  have hD0 : D ≠ 0 := by omega
  obtain ⟨q1, q2⟩ := hs.point hm0 hm
  have hdp := dgs_pos D
  have hd0 : dgs D ≠ [] := by intro h; rw [h] at hdp; simp at hdp
  have hl17 := dgs_len17 D hD0 (by omega)
  obtain ⟨a1, a2, a3⟩ := lay_look neg (dgs D) pw (allD_dgs D) hd0 (dgs_head D hD0) (dgs_last D (hs.last hm0)) hl17 q1 q2
  have hpr := parse_print neg hs hm0 hm hD hp1 hp2
  have hv : parseV neg m = (bits, 0) := by unfold parseV; rw [if_neg (by omega)]; rw [hbits]
  rw [printL_eq] at hpr ⊢
  refine ⟨a2, ?_, sg_head neg _ (lay_head _ _ (allD_dgs D) hd0), fun w => same_true _ bits w ?_, ?_⟩
  · intro h
    have := congrArg List.length h
    have hl : layL (dgs D) pw ≠ [] := by
      intro h2
      rw [h2] at a1
      apply hd0
      rw [← a1]
      cases neg <;> rfl
    simp at this
    exact hl this.2
  · have := hpr w
    rw [hv] at this
    exact this
  · rw [a1]
    by_cases h10 : D < 10
    · left; rw [dgs_lt h10]; simp
    · right
      have hge := dgs_ge h10
      have hl1 : (dgs D).length = (dgs (D / 10)).length + 1 := by rw [hge]; simp
      have hprior : Prior m pw := by
        obtain ⟨dg, R, L, H, U, hI, hpk, hd⟩ := hs
        rcases hd with rfl | hd
        · exfalso
          rcases pick_true hpk with rfl | rfl <;> omega
        · exact hd
      have hl2 : (dgs (D / 10 + 1)).length ≤ 20 := dgs_len20 _ (by omega)
      refine ⟨D / 10, UInt8.ofNat (48 + D % 10), pw, ⟨a1.trans hge, by omega, hl2, hp1, hp2, fun w => ?_, fun w => ?_, fun w => ?_, fun w => ?_⟩⟩
      · rcases a3 with ⟨b1, b2⟩ | ⟨pre, sg, ex, b1, b2, b3, b4, b5⟩
        · refine (where_plain _ _ w (by omega) (by rw [List.append_nil]) b1).mono ?_
          rintro e w' ⟨rfl, rfl⟩
          refine ⟨?_, rfl⟩
          rw [b2, hl1]
          congr 2
          omega
        · refine (where_exp pre _ sg ex w (by omega) b1 b2 b3 b4 _ (hid rfl)).mono ?_
          rintro e w' ⟨rfl, rfl⟩
          refine ⟨?_, rfl⟩
          rw [b5, hl1]
          congr 2
          omega
      · rw [← hge]
        exact same_yes D pw m hD0 (by omega) (by omega) (by omega) hm0 hm hr w
      · exact same_no (D / 10) (pw + 1) m (by omega) (by omega) (by omega) (by omega) hm0 hm (hprior.none hm0 _) w
      · exact same_no (D / 10 + 1) (pw + 1) m (by omega) hl2 (by omega) (by omega) hm0 hm (hprior.none hm0 _) w

theorem px_zero (bits : Nat) (neg : Bool) (hbits : (if neg then 9223372036854775808 else 0) = bits) : PX (bits : Int) ((0 : Nat) : Int) neg (printL neg [48]) := by
  have ht := tok_dgs 0
  rw [dgs_lt (by omega)] at ht
  have hv : parseV neg 0 = (bits, 0) := by unfold parseV; rw [if_neg (by omega)]; simpa using hbits
  rw [printL_eq]
  refine ⟨by cases neg <;> decide, by cases neg <;> simp [sgP], sg_head neg _ (by decide), fun w => same_true _ bits w ?_, .inl (by cases neg <;> decide)⟩
  have := parse_zero neg ht (by decide) (by decide) (by decide) w
  rw [hv] at this
  exact this

theorem print_px (bits m : Nat) (b : Bool) (hb : bits < 18446744073709551616) (hm : bits % 9223372036854775808 = m) (hmN : m < 9218868437227405312) (hbb : decide ((9223372036854775808 : Int) ≤ (bits : Int)) = b) (w : World) :
    Calls Try.prog 13 #[.int .u64 (bits : Int)] w fun e w' => ∃ L, PX (bits : Int) (m : Int) b L ∧ e = .returned (.tuple #[.string (ofL L), .int .i64 0]) ∧ Fr (fun _ => False) w w' := by
  have hx := u64_andNot_sign bits hb
  rw [hm] at hx
  have hne : (bits != m) = b := by
    rw [← hbb]
    by_cases h : (9223372036854775808 : Int) ≤ (bits : Int)
    · rw [decide_eq_true h, bne_iff_ne]; omega
    · rw [decide_eq_false h, bne_eq_false_iff_eq]; omega
  have hbits : (if b then m + 9223372036854775808 else m) = bits := by
    rw [← hbb]
    by_cases h : (9223372036854775808 : Int) ≤ (bits : Int)
    · rw [decide_eq_true h, if_pos rfl]; omega
    · rw [decide_eq_false h, if_neg (by simp)]; omega
  by_cases h0 : m = 0
  · refine (print_zero bits m w hx h0).mono ?_
    rintro e w' ⟨he, hF⟩
    rw [hne] at he
    subst h0
    exact ⟨_, px_zero bits b (by simpa using hbits), he, hF⟩
  · refine (print_num bits m w hx h0 hmN).mono ?_
    rintro e w' ⟨D, pw, h1, h2, h3, h4, he, hF⟩
    rw [hne] at he
    exact ⟨_, px_num b h1 h0 hmN h2 h3 h4 hbits, he, hF⟩

set_option maxRecDepth 100000 in
set_option maxHeartbeats 4000000 in
theorem exact_none (BB MM : Int) (w : World) (hM : Int.tmod BB 9223372036854775808 = MM) (hf : decide (MM < 9218868437227405312) = false)
    (hp : ∀ w, Calls Try.prog 13 #[.int .u64 BB] w fun e w' => e = .returned (.tuple #[.string (ofL []), .int .i64 1]) ∧ Fr (fun _ => False) w w') :
    Calls Try.prog 5 #[.int .u64 BB] w fun e w' => e = .returned (.bool true) ∧ Fr (fun _ => False) w w' := by
  have HP := hid hp
  have hem : (ofL []).toList.isEmpty = true := by rw [ofL_toList]; rfl
  clear hp
  go_enter Try.func5, Try.ntmps5
  go_wp2_with fail
  refine (known_any _).mono ?_
  rintro e w1 ⟨rfl, hF1⟩
  have H1 := hid hF1
  clear hF1
  go_wp2_with fail
  refine (HP.out _).mono ?_
  rintro e w2 ⟨rfl, hF2⟩
  have H2 := hid (H1.out.trans hF2)
  clear hF2 H1 HP
  go_wp2_with fail
  refine (finite_is BB MM false hM hf _).mono ?_
  rintro e w3 ⟨rfl, rfl⟩
  go_wp2
  go_ret
  exact ⟨rfl, H2.out⟩

/-- the law Exact, at every number -/
theorem exact_any (bits : Nat) (w : World) (hb : bits < 18446744073709551616) :
    Calls Try.prog 5 #[.int .u64 (bits : Int)] w fun e w' => e = .returned (.bool true) ∧ Fr (fun _ => False) w w' := by
  obtain ⟨m, hm⟩ : ∃ m, bits % 9223372036854775808 = m := ⟨_, rfl⟩
  have ht : Int.tmod (bits : Int) 9223372036854775808 = (m : Int) := by rw [Int.tmod_eq_emod_of_nonneg (by omega)]; omega
  by_cases hmN : m < 9218868437227405312
  · exact exact_walk _ _ _ w ht rfl (decide_eq_true (by omega)) (print_px bits m _ hb hm hmN rfl)
  · have hx := u64_andNot_sign bits hb
    rw [hm] at hx
    exact exact_none _ _ w ht (decide_eq_false (by omega)) (fun w => print_arg bits m w hx (by omega))
end Go.Proofs.Ytmkkibaacclhnaa
