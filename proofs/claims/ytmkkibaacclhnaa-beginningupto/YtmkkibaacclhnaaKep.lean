/-
  A step of the walk of the numbers, the part named Kep: whole numbers, noughts behind a point, printed tokens. No theorem of the row.
-/
import Derived.Test.YtmkkibaacclhnaaTri
namespace Go.Proofs.Ytmkkibaacclhnaa
open Go.RowKit

set_option maxRecDepth 100000 in
set_option maxHeartbeats 2000000 in
theorem same_true (s : ByteArray) (b : Nat) (w : World) (hp : Calls Try.prog 10 #[.string s] w fun e w' => e = .returned (.tuple #[.int .u64 b, .int .i64 0]) ∧ Fr (fun _ => False) w w') :
    Calls Try.prog 17 #[.string s, .int .u64 b] w fun e w' => e = .returned (.bool true) ∧ Fr (fun _ => False) w w' := by
  go_enter Try.func17, Try.ntmps17
  go_wp2_with fail
  refine hp.mono ?_
  rintro e w1 ⟨rfl, hF⟩
  go_wp2
  go_ret
  exact ⟨rfl, hF⟩

set_option maxRecDepth 100000 in
set_option maxHeartbeats 2000000 in
theorem pick_neg (c : Int) (w : World) (h1 : -9223372036854775808 ≤ c) (h2 : c < 0) :
    Calls Try.prog 22 #[.int .i64 c, .int .i64 9007199254740992] w fun e w' => e = .returned (.int .i64 (((-(c + 1)) % 9007199254740992 : Int))) ∧ w' = w := by
  have e : Int.tmod (-(c + 1)) 9007199254740992 = (-(c + 1)) % 9007199254740992 := Int.tmod_eq_emod_of_nonneg (by omega)
  go_enter Try.func22, Try.ntmps22
  go_wp2
  go_ret
  exact ⟨rfl, rfl⟩
set_option maxRecDepth 100000 in
set_option maxHeartbeats 2000000 in
theorem pick_pos (c : Int) (w : World) (h1 : 0 ≤ c) (h2 : c < 9223372036854775808) :
    Calls Try.prog 22 #[.int .i64 c, .int .i64 9007199254740992] w fun e w' => e = .returned (.int .i64 (c % 9007199254740992 : Int)) ∧ w' = w := by
  have e : Int.tmod c 9007199254740992 = c % 9007199254740992 := Int.tmod_eq_emod_of_nonneg (by omega)
  go_enter Try.func22, Try.ntmps22
  go_wp2
  go_ret
  exact ⟨rfl, rfl⟩

theorem dec_slice (m : Nat) (h : m < 10) : (ByteArray.mk #[48, 49, 50, 51, 52, 53, 54, 55, 56, 57]).extract m (m + 1) = ofL [UInt8.ofNat (48 + m)] := by
  have : m = 0 ∨ m = 1 ∨ m = 2 ∨ m = 3 ∨ m = 4 ∨ m = 5 ∨ m = 6 ∨ m = 7 ∨ m = 8 ∨ m = 9 := by omega
  rcases this with rfl | rfl | rfl | rfl | rfl | rfl | rfl | rfl | rfl | rfl <;> rfl

set_option maxRecDepth 100000 in
set_option maxHeartbeats 2000000 in
theorem decimal_nat (n : Nat) (hn : n < 9007199254740992) (w : World) :
    Calls Try.prog 23 #[.int .i64 n] w fun e w' => e = .returned (.string (ofL (dgs n))) ∧ w' = w := by
  induction n using Nat.strongRecOn generalizing w with
  | _ n ih =>
    have hsl := dec_slice (n % 10) (by omega)
    by_cases h : n < 10
    · go_enter Try.func23, Try.ntmps23
      go_wp2
      go_ret
      refine ⟨?_, rfl⟩
      rw [dgs_lt h, ← show n % 10 = n from by omega, ← hsl, show n % 10 % 10 = n % 10 from by omega]
      rfl
    · have hi := ih (n / 10) (by omega) (by omega)
      go_enter Try.func23, Try.ntmps23
      have hz1 : (ofL (dgs (n / 10))).size ≤ 20 := by rw [ofL_size]; exact dgs_len20 _ (by omega)
      have hz2 : (ofL [UInt8.ofNat (48 + n % 10)]).size = 1 := rfl
      go_wp2_with fail
      refine (hi _).mono ?_
      rintro e w1 ⟨rfl, rfl⟩
      rw [hsl]
      have hE := hid (dgs_ge h)
      clear hsl
      generalize [UInt8.ofNat (48 + n % 10)] = q at *
      go_wp2
      go_ret
      refine ⟨?_, rfl⟩
      rw [hE.out, ← ofL_append]
      rfl
end Go.Proofs.Ytmkkibaacclhnaa

namespace Go.Proofs.Ytmkkibaacclhnaa
open Go.RowKit

/-- a whole number below 2^53, as bits -/
theorem whole_bits (k : Nat) (h0 : k ≠ 0) (hk : k < 9007199254740992) : ∃ n, n ≠ 0 ∧ n < 9218868437227405311 ∧ V n = k * p2 1074 ∧ (manE n).2 ≤ 1074 := by
  have hex : ∃ j, j ≤ 52 ∧ 4503599627370496 ≤ k * 2 ^ (52 - j) ∧ k * 2 ^ (52 - j) < 9007199254740992 := by
    have : ∀ i, i ≤ 52 → 2 ^ (52 - i) ≤ k → ∃ j, j ≤ 52 ∧ 4503599627370496 ≤ k * 2 ^ (52 - j) ∧ k * 2 ^ (52 - j) < 9007199254740992 := by
      intro i
      induction i with
      | zero => intro _ h; exact ⟨52, by omega, by simpa using h, by simpa using hk⟩
      | succ i ih =>
        intro hi h
        rcases Nat.lt_or_ge k (2 ^ (52 - i)) with h1 | h1
        · refine ⟨52 - (i + 1), by omega, ?_, ?_⟩
          · rw [show 52 - (52 - (i + 1)) = i + 1 by omega]
            have := Nat.mul_le_mul_right (2 ^ (i + 1)) h
            rw [← Nat.pow_add, show 52 - (i + 1) + (i + 1) = 52 by omega] at this
            exact this
          · rw [show 52 - (52 - (i + 1)) = i + 1 by omega]
            have := (Nat.mul_lt_mul_right (Nat.two_pow_pos (i + 1))).2 h1
            rw [← Nat.pow_add, show 52 - i + (i + 1) = 53 by omega] at this
            exact this
        · exact ih (by omega) h1
    exact this 52 (by omega) (by simp; omega)
  obtain ⟨j, hj, a, b⟩ := hex
  refine ⟨(1022 + j) * 4503599627370496 + k * 2 ^ (52 - j), by omega, by omega, ?_, ?_⟩
  · rw [V_em _ _ (.inr ⟨a, by omega⟩), Nat.mul_assoc, ← Nat.pow_add, show 52 - j + (1022 + j) = 1074 by omega, p2]
  · generalize k * 2 ^ (52 - j) = m at *
    unfold manE
    rw [if_neg (by omega)]
    show ((1022 + j) * 4503599627370496 + m) / 4503599627370496 - 1 ≤ 1074
    omega

theorem pP_zero : pP 0 = p2 1074 := by rw [pP, show (0 : Int).toNat = 0 from rfl, show p10 0 = 1 from rfl, Nat.one_mul]
theorem rnd_self (k n : Nat) (hn : n ≠ 0) (hv : V n = k * p2 1074) : RndAt k 0 n := by
  show Rnd (k * pP 0) (p10 0) n
  have e : k * pP 0 = V n := by
    rw [hv, pP_zero]
  rw [e, show p10 0 = 1 from rfl]
  have h1 := mid_low n hn
  have h2 := mid_high n
  have h3 := V_succ n
  have h4 := V_lt (show n - 1 < n by omega)
  unfold gapL at h1
  unfold gapH at h2
  exact ⟨.inr (.inl (by omega)), .inl (by omega)⟩

theorem gapL_le (n : Nat) (hn : n ≠ 0) : gapL n ≤ gapH n := by
  have h1 := gapL_eq n hn
  have h2 := gapH_eq n
  rw [← h2] at h1
  unfold lowQ at h1
  split at h1 <;> omega

theorem rnd_whole {c k n : Nat} (hn : n ≠ 0) (hv : V n = k * p2 1074) (hE : (manE n).2 ≤ 1074) (h : RndAt c 0 n) : c = k := by
  have h : Rnd (c * pP 0) (p10 0) n := h
  have e : c * pP 0 = c * p2 1074 := by rw [pP_zero]
  rw [e, show p10 0 = 1 from rfl] at h
  obtain ⟨a, b⟩ := h
  rw [Nat.mul_one] at a b
  have h1 := mid_low n hn
  have h2 := mid_high n
  have h3 : gapH n ≤ p2 1074 := by rw [gapH_eq]; exact p2_le hE
  have h4 := gapL_le n hn
  have hp := p2_pos 1074
  rw [hv] at h1 h2
  generalize p2 1074 = Z at *
  have c1 : 2 * (c * Z) ≤ 2 * (k * Z) + Z := by omega
  have c2 : 2 * (k * Z) ≤ 2 * (c * Z) + Z := by omega
  rcases Nat.lt_trichotomy c k with hlt | heq | hgt
  · exfalso
    have := Nat.mul_le_mul_right Z (show c + 1 ≤ k from hlt)
    rw [Nat.add_mul] at this; omega
  · exact heq
  · exfalso
    have := Nat.mul_le_mul_right Z (show k + 1 ≤ c from hgt)
    rw [Nat.add_mul] at this; omega

theorem dgs_mul (D j : Nat) (h : D ≠ 0) : dgs (D * p10 j) = dgs D ++ List.replicate j 48 := by
  induction j with
  | zero => rw [show p10 0 = 1 from rfl]; simp
  | succ j ih =>
    have hp : 0 < D * p10 j := Nat.mul_pos (by omega) (p10_pos j)
    rw [p10_succ, ← Nat.mul_assoc, dgs_ge (by omega), Nat.mul_div_cancel _ (by omega), Nat.mul_mod_left, ih, List.replicate_succ', List.append_assoc]
    rfl

/-- whole numbers are printed as they are -/
theorem whole_print {k n D : Nat} {pw : Int} (h0 : k ≠ 0) (hk : k < 9007199254740992) (hn : n ≠ 0) (hv : V n = k * p2 1074) (hE : (manE n).2 ≤ 1074) (h : Short n D pw) : layL (dgs D) pw = dgs k := by
  have hr := h.rnd hn
  have hpos := hr.pos hn
  have hself := rnd_self k n hn hv
  have hpw : 0 ≤ pw := by
    rcases Int.lt_or_le pw 0 with h1 | h1
    · exfalso
      obtain ⟨dg, R, L, H, U, hI, hp, hpr⟩ := h
      rcases hpr with rfl | hpr
      · have hD := pick_true hp
        have hD1 : D = 1 := by omega
        subst hD1
        obtain ⟨a, _⟩ := hr
        have e2 : 1 * pP pw = p2 1074 := by rw [pP, show pw.toNat = 0 by omega, show p10 0 = 1 from rfl, Nat.one_mul, Nat.one_mul]
        rw [e2] at a
        have h2 := p10_le 1 (-pw).toNat (by omega)
        rw [show p10 1 = 10 from rfl] at h2
        have h3 : p2 1074 ≤ mid (n - 1) := by
          unfold mid
          rw [show n - 1 + 1 = n by omega, hv]
          have : 1 * p2 1074 ≤ k * p2 1074 := Nat.mul_le_mul_right _ (by omega)
          omega
        have h4 := Nat.mul_le_mul h3 h2
        have hp := p2_pos 1074
        omega
      · refine hpr.none hn (k * p10 (-(pw + 1)).toNat) ?_
        have := hself.same (SameV.shift k (-(pw + 1)).toNat 0)
        rwa [show (0 : Int) - ((-(pw + 1)).toNat : Nat) = pw + 1 by omega] at this
    · exact h1
  obtain ⟨j, rfl⟩ : ∃ j : Nat, pw = j := ⟨pw.toNat, by omega⟩
  have hc : D * p10 j = k := by
    refine rnd_whole hn hv hE ?_
    have := hr.same (SameV.shift D j j)
    rwa [show (j : Int) - (j : Nat) = 0 by omega] at this
  have hdg := dgs_mul D j (by omega)
  rw [hc] at hdg
  have hlen := dgs_len k 15 (by omega)
  rw [hdg, List.length_append, List.length_replicate] at hlen
  have hlp := dgs_pos D
  unfold layL
  rw [if_neg (by omega), if_neg (by omega), if_pos (by omega), show (j : Int).toNat = j by omega, hdg]

/-- a whole number, read and printed -/
theorem parse_whole (k : Nat) (hk : k < 9007199254740992) (w : World) :
    Calls Try.prog 10 #[.string (ofL (dgs k))] w fun e w' => ∃ n, n < 9218868437227405311 ∧ (k = 0 ↔ n = 0) ∧ (k ≠ 0 → V n = k * p2 1074 ∧ (manE n).2 ≤ 1074) ∧ e = .returned (.tuple #[.int .u64 (n : Nat), .int .i64 0]) ∧ Fr (fun _ => False) w w' := by
  have hl := dgs_len k 15 (by omega)
  by_cases h0 : k = 0
  · refine (parse_zero false (tok_dgs k) (by omega) (by simp; omega) (by rw [show dv [] = [] from rfl, List.append_nil, num_dgs]; exact h0) w).mono ?_
    rintro e w' ⟨he, hF⟩
    exact ⟨0, by omega, by omega, fun h => absurd h0 h, he, hF⟩
  · obtain ⟨n, hn, hn2, hv, hE⟩ := whole_bits k h0 hk
    refine (parse_tok false (tok_dgs k) (by omega) (by simp; omega) w).mono ?_
    rintro e w' ⟨r, hr, he, hF⟩
    have h2 := hr n hn (by omega)
    rw [powI_nil, show dv [] = [] from rfl, List.append_nil, num_dgs] at h2
    have h3 := h2.2 (rnd_self k n hn hv)
    subst h3
    refine ⟨r, hn2, by omega, fun _ => ⟨hv, hE⟩, ?_, hF⟩
    rw [he]
    unfold parseV
    rw [if_neg (by omega)]
    rfl
end Go.Proofs.Ytmkkibaacclhnaa

namespace Go.Proofs.Ytmkkibaacclhnaa
open Go.RowKit

def z40 : List UInt8 := List.replicate 40 48
def tailL (l : List UInt8) : List UInt8 := if l.contains 101 then [] else if l.contains 46 then z40 else 46 :: z40

theorem contains_take (l : List UInt8) (k : Nat) (h : k < l.length) (c : UInt8) (n : Nat) (hc : c.toNat = n) : (l.take (k + 1)).contains c = ((l.take k).contains c || decide (l[k].toNat = n)) := by
  rw [List.take_succ_eq_append_getElem h, Bool.eq_iff_iff, Bool.or_eq_true, List.contains_iff_mem, List.contains_iff_mem, List.mem_append, List.mem_singleton, decide_eq_true_iff, ← hc, UInt8.toNat_inj]
  constructor
  · rintro (h | h)
    · exact .inl h
    · exact .inr h.symm
  · rintro (h | h)
    · exact .inl h
    · exact .inr h.symm

set_option maxRecDepth 100000 in
set_option maxHeartbeats 2000000 in
theorem tail_any (l : List UInt8) (w : World) (hl : l.length ≤ 1000) :
    Calls Try.prog 24 #[.string (ofL l)] w fun e w' => e = .returned (.string (ofL (tailL l))) ∧ w' = w := by
  have hsz := ofL_size l
  go_enter Try.func24, Try.ntmps24
  go_wp2
  go_loop [3, 4] (fun p i => ∃ (k : Nat) (pt : Bool), k ≤ l.length ∧ i = .int .i64 k ∧ p = .bool pt ∧ Hid (pt = (l.take k).contains 46) ∧ Hid ((l.take k).contains 101 = false)) (fun _ i => l.length - (intOf i).toNat)
  case atStart => exact ⟨0, false, by omega, rfl, rfl, rfl, rfl⟩
  case round =>
    obtain ⟨k, pt, hk, rfl, rfl, hp, he⟩ := hrel
    by_cases hlt : k < l.length
    · have hg : (ofL l)[k]'(by rw [hsz]; exact hlt) = l[k] := ofL_get l k _
      have c1 := contains_take l k hlt 101 101 rfl
      have c2 := contains_take l k hlt 46 46 rfl
      have C1 := hid c1
      have C2 := hid c2
      clear c1 c2
      by_cases h101 : l[k].toNat = 101
      · have hT : Hid (tailL l = []) := by
          have hm : l.contains 101 = true := by
            rw [List.contains_iff_mem]
            have : l[k] = 101 := UInt8.toNat_inj.1 (by rw [h101]; rfl)
            rw [← this]; exact List.getElem_mem hlt
          show tailL l = []
          unfold tailL; rw [if_pos hm]
        go_wp2
        go_ret
        exact ⟨by rw [hT.out]; rfl, rfl⟩
      · cases pt
        · by_cases h46 : l[k].toNat = 46
          · go_wp2
            go_round
            case rel => exact ⟨k + 1, true, by omega, by go_num, rfl, by show _ = _; exact (by rw [C2.out, decide_eq_true h46, Bool.or_true]), by show _ = _; exact (by rw [C1.out, decide_eq_false h101, Bool.or_false]; exact he.out)⟩
            case measure => simp [intOf]; omega
          · go_wp2
            go_round
            case rel => exact ⟨k + 1, false, by omega, by go_num, by rw [beq_eq_false_iff_ne.2 (by omega)], by show _ = _; exact (by rw [C2.out, decide_eq_false h46, Bool.or_false]; exact hp.out), by show _ = _; exact (by rw [C1.out, decide_eq_false h101, Bool.or_false]; exact he.out)⟩
            case measure => simp [intOf]; omega
        · go_wp2
          go_round
          case rel => exact ⟨k + 1, true, by omega, by go_num, rfl, by show _ = _; exact (by rw [C2.out, ← hp.out, Bool.true_or]), by show _ = _; exact (by rw [C1.out, decide_eq_false h101, Bool.or_false]; exact he.out)⟩
          case measure => simp [intOf]; omega
    · obtain rfl : k = l.length := by omega
      rw [List.take_length] at hp he
      cases pt
      · have hT : Hid (tailL l = 46 :: z40) := by
          show tailL l = _
          unfold tailL; rw [he.out, ← hp.out]; rfl
        go_wp2
        go_ret
        exact ⟨by rw [hT.out]; rfl, rfl⟩
      · have hT : Hid (tailL l = z40) := by
          show tailL l = _
          unfold tailL; rw [he.out, ← hp.out]; rfl
        go_wp2
        go_ret
        exact ⟨by rw [hT.out]; rfl, rfl⟩

theorem no_D {l : List UInt8} {c : UInt8} (h : AllD l) (hc : isD c = false) : c ∉ l := by
  intro hm
  rw [h c hm] at hc; cases hc

theorem tail_tok {t wh fr s ex : List UInt8} {en : Bool} (h : Tok t wh fr s ex en) : ∃ fr', Tok (t ++ tailL t) wh fr' s ex en ∧ (fr' = fr ∨ (ex = [] ∧ fr' = fr ++ z40)) := by
  have n1 := no_D (c := 101) h.w (by decide)
  have n2 := no_D (c := 46) h.w (by decide)
  have n3 := no_D (c := 101) h.f (by decide)
  by_cases hx : ex = []
  · have hz : exP s ex = [] := by rw [exP, if_pos hx]
    have hne : t.contains 101 = false := by
      rw [Bool.eq_false_iff]
      intro hc
      rw [List.contains_iff_mem, h.eq, hz, List.append_nil, List.mem_append] at hc
      rcases hc with hc | hc
      · exact n1 hc
      · unfold frP at hc
        split at hc
        · cases hc
        · rw [List.mem_cons] at hc
          rcases hc with hc | hc
          · revert hc; decide
          · exact n3 hc
    refine ⟨fr ++ z40, ⟨?_, h.w, h.f.append (allD_zeros _), h.x, h.sg, h.no, h.w0, h.w1⟩, .inr ⟨hx, rfl⟩⟩
    unfold tailL
    rw [hne, if_neg (by simp)]
    by_cases hf : fr = []
    · subst hf
      have h46 : t.contains 46 = false := by
        rw [Bool.eq_false_iff]
        intro hc
        rw [List.contains_iff_mem, h.eq, hz, frP, if_pos rfl, List.append_nil, List.append_nil] at hc
        exact n2 hc
      rw [h46, if_neg (by simp), h.eq, hz, frP, if_pos rfl]
      show _ = wh ++ (frP z40 ++ [])
      rw [frP, if_neg (by decide)]; simp
    · have h46 : t.contains 46 = true := by
        rw [List.contains_iff_mem, h.eq, frP, if_neg hf]
        simp
      rw [h46, if_pos rfl, hz]
      conv => lhs; rw [h.eq, hz, frP, if_neg hf]
      rw [frP, if_neg (by simp [hf])]
      simp
  · have hc : t.contains 101 = true := by
      rw [List.contains_iff_mem, h.eq, exP, if_neg hx]
      simp
    refine ⟨fr, ?_, .inl rfl⟩
    have : t ++ tailL t = t := by unfold tailL; rw [if_pos hc, List.append_nil]
    rw [this]; exact h

/-- noughts behind a point change nothing -/
theorem tail_same {wh fr fr' ex : List UInt8} {en : Bool} (hno : ex = [] → en = false) (h : fr' = fr ∨ (ex = [] ∧ fr' = fr ++ z40)) :
    SameV (num (dv wh ++ dv fr)) (powI (ofL wh) (ofL fr) en (ofL ex) - fr.length) (num (dv wh ++ dv fr')) (powI (ofL wh) (ofL fr') en (ofL ex) - fr'.length) := by
  rcases h with rfl | ⟨rfl, rfl⟩
  · exact SameV.refl _ _
  · have := hno rfl
    subst this
    rw [powI_nil, powI_nil, dv_append, ← List.append_assoc, show dv z40 = List.replicate 40 0 from dv_zeros 40, num_append _ (List.replicate 40 0), num_zeros, List.length_replicate, Nat.add_zero]
    have := SameV.shift (num (dv wh ++ dv fr)) 40 (0 - (fr.length : Int))
    rwa [show (0 : Int) - (fr.length : Int) - (40 : Nat) = 0 - ((fr ++ z40).length : Nat) by rw [List.length_append]; show _ = (0 : Int) - ((fr.length + 40 : Nat) : Int); omega] at this

end Go.Proofs.Ytmkkibaacclhnaa

namespace Go.Proofs.Ytmkkibaacclhnaa
open Go.RowKit

/-- X is the token that is printed for m -/
def PT (m : Nat) (X : List UInt8) : Prop := (m = 0 ∧ X = [48]) ∨ (m ≠ 0 ∧ ∃ (D : Nat) (pw : Int), Short m D pw ∧ D ≤ 90071992547409920 ∧ -5000 ≤ pw ∧ pw ≤ 5000 ∧ X = layL (dgs D) pw)

theorem print_pt (m : Nat) (hm : m < 9218868437227405312) (w : World) : Calls Try.prog 13 #[.int .u64 m] w fun e w' => ∃ X, PT m X ∧ e = .returned (.tuple #[.string (ofL X), .int .i64 0]) ∧ Fr (fun _ => False) w w' := by
  have hb := u64_andNot_sign m (by omega)
  rw [Nat.mod_eq_of_lt (by omega)] at hb
  have hbn : (m != m) = false := by simp
  by_cases h0 : m = 0
  · refine (print_zero m m w hb h0).mono ?_
    rintro e w' ⟨he, hF⟩
    rw [hbn] at he
    exact ⟨[48], .inl ⟨h0, rfl⟩, he, hF⟩
  · refine (print_num m m w hb h0 hm).mono ?_
    rintro e w' ⟨D, pw, h1, h2, h3, h4, he, hF⟩
    rw [hbn] at he
    exact ⟨_, .inr ⟨h0, D, pw, h1, h2, h3, h4, rfl⟩, he, hF⟩

theorem PT.len {m : Nat} {X : List UInt8} (h : PT m X) : X.length ≤ 100 := by
  rcases h with ⟨_, rfl⟩ | ⟨_, D, pw, _, h2, h3, h4, rfl⟩
  · decide
  · exact layL_len _ _ (dgs_len20 D (by omega)) h3 h4

theorem PT.tok {m : Nat} {X : List UInt8} (h : PT m X) (hm : m < 9218868437227405312) : ∃ wh fr s ex en, Tok X wh fr s ex en ∧ wh.length + fr.length ≤ 100 ∧
    (m = 0 → num (dv wh ++ dv fr) = 0) ∧ (m ≠ 0 → RndAt (num (dv wh ++ dv fr)) (powI (ofL wh) (ofL fr) en (ofL ex) - fr.length) m) := by
  rcases h with ⟨h0, rfl⟩ | ⟨h0, D, pw, h1, h2, h3, h4, rfl⟩
  · have := tok_dgs 0
    rw [dgs_lt (by omega)] at this
    exact ⟨_, _, _, _, _, this, by decide, fun _ => by decide, fun h => absurd h0 h⟩
  · have hr := h1.rnd h0
    have hpos := hr.pos h0
    obtain ⟨p1, p2⟩ := h1.point h0 hm
    obtain ⟨wh, fr, s, ex, en, ht, hlen, hS⟩ := lay_tok D pw (by omega) (dgs_len20 D (by omega)) p1 p2
    exact ⟨wh, fr, s, ex, en, ht, hlen, fun h => absurd h h0, fun _ => hr.same hS⟩

/-- a token whose value rounds to a number is read as it -/
theorem parse_val {t wh fr s ex : List UInt8} {en : Bool} (h : Tok t wh fr s ex en) (hl : t.length ≤ 1000) (hd : wh.length + fr.length ≤ 768) {m : Nat} (hm : m < 9218868437227405312)
    (h0 : m = 0 → num (dv wh ++ dv fr) = 0) (h1 : m ≠ 0 → RndAt (num (dv wh ++ dv fr)) (powI (ofL wh) (ofL fr) en (ofL ex) - fr.length) m) (w : World) :
    Calls Try.prog 10 #[.string (ofL t)] w fun e w' => e = .returned (.tuple #[.int .u64 m, .int .i64 0]) ∧ Fr (fun _ => False) w w' := by
  have hv : parseV false m = (m, 0) := by unfold parseV; rw [if_neg (by omega)]; rfl
  by_cases hz : m = 0
  · refine (parse_zero false h hl hd (h0 hz) w).mono ?_
    rintro e w' ⟨he, hF⟩
    subst hz
    rw [hv] at he
    exact ⟨he, hF⟩
  · refine (parse_tok false h hl hd w).mono ?_
    rintro e w' ⟨r, hr, he, hF⟩
    have := (hr m hz hm).2 (h1 hz)
    subst this
    rw [hv] at he
    exact ⟨he, hF⟩

theorem PT.parse {m : Nat} {X : List UInt8} (h : PT m X) (hm : m < 9218868437227405312) (w : World) : Calls Try.prog 10 #[.string (ofL X)] w fun e w' => e = .returned (.tuple #[.int .u64 m, .int .i64 0]) ∧ Fr (fun _ => False) w w' := by
  obtain ⟨wh, fr, s, ex, en, ht, hl, h0, h1⟩ := h.tok hm
  have := h.len
  exact parse_val ht (by omega) (by omega) hm h0 h1 w

theorem tailL_len (l : List UInt8) : (tailL l).length ≤ 41 := by
  unfold tailL; split
  · simp
  · split <;> decide

theorem PT.parse_tail {m : Nat} {X : List UInt8} (h : PT m X) (hm : m < 9218868437227405312) (w : World) : Calls Try.prog 10 #[.string (ofL (X ++ tailL X))] w fun e w' => e = .returned (.tuple #[.int .u64 m, .int .i64 0]) ∧ Fr (fun _ => False) w w' := by
  obtain ⟨wh, fr, s, ex, en, ht, hl, h0, h1⟩ := h.tok hm
  have := h.len
  have h2 := tailL_len X
  obtain ⟨fr', ht', hc⟩ := tail_tok ht
  have hS := tail_same (wh := wh) ht.no hc
  have hl' : fr'.length ≤ fr.length + 40 := by
    rcases hc with rfl | ⟨_, rfl⟩
    · omega
    · rw [List.length_append]; exact Nat.le_refl _
  refine parse_val ht' (by rw [List.length_append]; omega) (by omega) hm (fun hz => ?_) (fun hz => (h1 hz).same hS) w
  have hz0 := h0 hz
  rcases hc with rfl | ⟨_, rfl⟩
  · exact hz0
  · rw [dv_append, ← List.append_assoc, show dv z40 = List.replicate 40 0 from dv_zeros 40, num_append _ (List.replicate 40 0), num_zeros, hz0, Nat.zero_mul]

theorem PT.apart {m : Nat} {X : List UInt8} (hm : m + 1 < 9218868437227405312) (h : PT m X) (h' : PT (m + 1) X) : False := by
  obtain ⟨wh, fr, s, ex, en, ht, hl, h0, h1⟩ := h.tok (by omega)
  obtain ⟨wh', fr', s', ex', en', ht', hl', h0', h1'⟩ := h'.tok hm
  have c1 := cutL_tok (neg := false) ht.w ht.f ht.x ht.sg ht.no ht.w0 ht.w1
  have c2 := cutL_tok (neg := false) ht'.w ht'.f ht'.x ht'.sg ht'.no ht'.w0 ht'.w1
  rw [← ht.eq] at c1
  rw [← ht'.eq, c1] at c2
  simp only [Option.some.injEq, Prod.mk.injEq, true_and] at c2
  obtain ⟨rfl, rfl, rfl, rfl⟩ := c2
  have h2 := h1' (by omega)
  by_cases hz : m = 0
  · have := h2.pos (by omega)
    have := h0 hz
    omega
  · have := Rnd.uniq (p10_pos _) (h1 hz) h2
    omega
end Go.Proofs.Ytmkkibaacclhnaa
