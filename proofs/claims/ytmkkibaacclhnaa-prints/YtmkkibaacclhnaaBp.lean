/-
  A step of the walk of the numbers, the part named Bp: small parts of the document's answer. No theorem of the row.
-/
import Derived.Test.YtmkkibaacclhnaaXcd
import Derived.Test.YtmkkibaacclhnaaBk
namespace Go.Proofs.Ytmkkibaacclhnaa
open Go.RowKit

set_option maxRecDepth 100000 in
set_option maxHeartbeats 2000000 in
theorem num_any (e : Int) (w : World) : Calls Try.prog 12 #[.int .i64 e] w fun r w' => r = .returned (.int .i64 e) ∧ w' = w := by
  go_enter Try.func12, Try.ntmps12
  go_wp2
  go_ret
  exact ⟨rfl, rfl⟩

set_option maxRecDepth 100000 in
set_option maxHeartbeats 2000000 in
theorem rdecimal_any (n : Nat) (hn : n < 9007199254740992) (w : World) :
    Calls Try.prog 39 #[.int .i64 n] w fun e w' => e = .returned (.string (ofL (dgs n))) ∧ w' = w := by
  induction n using Nat.strongRecOn generalizing w with
  | _ n ih =>
    have hsl := dec_slice (n % 10) (by omega)
    by_cases h : n < 10
    · go_enter Try.func39, Try.ntmps39
      go_wp2
      go_ret
      refine ⟨?_, rfl⟩
      rw [dgs_lt h, ← show n % 10 = n from by omega, ← hsl, show n % 10 % 10 = n % 10 from by omega]
      rfl
    · have hi := ih (n / 10) (by omega) (by omega)
      go_enter Try.func39, Try.ntmps39
      have hz1 : (ofL (dgs (n / 10))).size ≤ 20 := by rw [ofL_size]; exact dgs_len20 _ (by omega)
      have hz2 : (ofL [UInt8.ofNat (48 + n % 10)]).size = 1 := rfl
      go_wp2_with fail
      refine (hi _).mono ?_
      rintro e w1 ⟨rfl, rfl⟩
      rw [hsl]
      have hE := hid (dgs_ge h)
      clear hsl
      generalize [UInt8.ofNat (48 + n % 10)] = q at *
      go_wp2
      go_ret
      refine ⟨?_, rfl⟩
      rw [hE.out, ← ofL_append]
      rfl

set_option maxRecDepth 100000 in
set_option maxHeartbeats 2000000 in
theorem rnoughts_any (n : Nat) (hn : n ≤ 1000) (w : World) :
    Calls Try.prog 38 #[.int .i64 (n : Int)] w fun e w' => e = .returned (.string (ofL (List.replicate n 48))) ∧ w' = w := by
  go_enter Try.func38, Try.ntmps38
  go_wp2
  go_loop [3, 4] (fun s i => ∃ k : Nat, k ≤ n ∧ i = .int .i64 (k : Int) ∧ s = .string (ofL (List.replicate k 48))) (fun _ i => n - (intOf i).toNat)
  case atStart => exact ⟨0, by omega, rfl, rfl⟩
  case round =>
    obtain ⟨k, hk, rfl, rfl⟩ := hrel
    by_cases hlt : k < n
    · have hz : (ofL (List.replicate k 48)).size = k := by rw [ofL_size]; simp
      have ha : ofL (List.replicate k 48) ++ (ByteArray.mk #[48]) = ofL (List.replicate (k + 1) 48) := by rw [List.replicate_succ', ← ofL_append]; rfl
      go_wp2
      go_round
      case rel => exact ⟨k + 1, by omega, by go_num, rfl⟩
      case measure => simp [intOf]; omega
    · obtain rfl : k = n := by omega
      go_wp2
      go_ret
      exact ⟨rfl, rfl⟩

set_option maxRecDepth 100000 in
set_option maxHeartbeats 4000000 in
theorem rnext_any (l : List UInt8) (w : World) (hl : l.length ≤ 1000) (hD : AllD l) :
    Calls Try.prog 62 #[.string (ofL l)] w fun e w' => e = .returned (.string (ofL (up l))) ∧ Fr (fun _ => False) w w' := by
  have hsz := ofL_size l
  have hcv := fun wx => run_bytes_of_string (P := Try.prog) wx 9 52 5 (ofL l) Try.underlying9 Try.underlying52 Try.underlying5
  go_enter Try.func62, Try.ntmps62
  go_wp2
  have hb0 : BytesAt (w.alloc (.cells (bytesRow (ofL l) (grownCap w l.length 0 5)) 5 ((bytesRow (ofL l) (grownCap w l.length 0 5)).size, (bytesRow (ofL l) (grownCap w l.length 0 5)).size + 1))).drew w.heap.size l :=
    bytes_start w l _ _ _ (by simp [bytesRow, ofL])
  have HB0 := hid hb0
  clear hb0 hcv
  go_loopw [4] (fun i wr => ∃ j : Nat, j ≤ l.length ∧ i = .int .i64 ((j : Int) - 1) ∧ Hid (BytesAt wr w.heap.size (l.take j ++ List.replicate (l.length - j) 48)) ∧ Hid (up l = up (l.take j) ++ List.replicate (l.length - j) 48) ∧ Hid (Fr (fun _ => False) w wr)) (fun i _ => (intOf i + 1).toNat)
  case atStart =>
    refine ⟨l.length, Nat.le_refl _, rfl, hid ?_, hid ?_, hid (((Fr.refl _ w).alloc _).drew)⟩
    · rw [List.take_length, Nat.sub_self]; simpa using HB0.out
    · rw [List.take_length, Nat.sub_self]; simp
  case round =>
    obtain ⟨j, hj, rfl, hB, hU, hF⟩ := hrel
    cases j with
    | zero =>
      have hB1 : BytesAt wr w.heap.size (List.replicate l.length 48) := by simpa using hB.out
      have hr := BytesAt.back (cap := grownCap w l.length 0 5) (n := l.length) hB1 (by simp)
      have hres := hid (show up l = [49] ++ List.replicate l.length 48 by have := hU.out; simpa [up_nil] using this)
      have hz : (ofL (List.replicate l.length 48)).size = l.length := by rw [ofL_size]; simp
      have hap : (ByteArray.mk #[49]) ++ ofL (List.replicate l.length 48) = ofL ([49] ++ List.replicate l.length 48) := by apply ByteArray.ext; simp [ofL]
      clear hB hU hB1
      generalize List.replicate l.length 48 = z at *
      go_wp2
      go_ret
      exact ⟨by rw [hres.out]; exact congrArg (fun t => Ending.returned (Value.string t)) hap, hF.out⟩
    | succ j =>
      have hlt : j < l.length := by omega
      have htk := List.take_succ_eq_append_getElem hlt
      have hcc := hB.out j (by simp; omega)
      have hgj : (l.take (j + 1) ++ List.replicate (l.length - (j + 1)) 48)[j]'(by simp; omega) = l[j] := by
        rw [List.getElem_append_left (by simp; omega)]; simp
      rw [hgj] at hcc
      obtain ⟨hc1, hc2⟩ := hcc
      obtain ⟨ha, hb⟩ := (isD_iff _).1 (hD _ (List.getElem_mem hlt))
      have hset : ∀ c, (l.take (j + 1) ++ List.replicate (l.length - (j + 1)) 48).set j c = l.take j ++ c :: List.replicate (l.length - (j + 1)) 48 := by
        intro c
        rw [htk, List.append_assoc, List.set_append_right _ _ (by simp; omega)]
        simp [show min j l.length = j by omega]
      by_cases h9 : l[j].toNat < 57
      · have hbn : (UInt8.ofNat (l[j].toNat + 1)).toNat = l[j].toNat + 1 := UInt8.toNat_ofNat_of_lt' (by show _ < 256; omega)
        have hB2 := hB.out.set j (UInt8.ofNat (l[j].toNat + 1)) (hset _).symm
        rw [hbn, show ((l[j].toNat + 1 : Nat) : Int) = (l[j].toNat : Int) + 1 from by omega] at hB2
        have hr := BytesAt.back (cap := grownCap w l.length 0 5) (n := l.length) hB2 (by simp; omega)
        have hres : Hid (up l = l.take j ++ UInt8.ofNat (l[j].toNat + 1) :: List.replicate (l.length - (j + 1)) 48) := by
          have := hU.out
          rw [htk, up_small _ _ h9, List.append_assoc] at this
          exact this
        have HF2 := hid (hF.out.setCell (p := ⟨w.heap.size, j, none⟩) (.inr (Nat.le_refl _)) (.int .u8 ((l[j].toNat : Int) + 1)))
        clear hB hU hF hgj htk hset hB2
        generalize l[j] = c at *
        go_wp2
        go_ret
        exact ⟨by rw [hres.out]; rfl, HF2.out⟩
      · have h57 : l[j].toNat = 57 := by omega
        have hB2 := hid (hB.out.set j 48 (hset _).symm)
        have hU2 := hid (show up l = up (l.take j) ++ List.replicate (l.length - j) 48 from by
          have := hU.out
          rw [htk, up_nine _ _ h9, List.append_assoc] at this
          rw [this, show l.length - j = (l.length - (j + 1)) + 1 by omega, List.replicate_succ]
          rfl)
        have HB2 : Hid (BytesAt (wr.setCell ⟨w.heap.size, j, none⟩ (.int .u8 48)) w.heap.size (l.take j ++ List.replicate (l.length - j) 48)) := by
          rw [show l.length - j = (l.length - (j + 1)) + 1 by omega, List.replicate_succ]
          exact hB2
        have HF2 := hid (hF.out.setCell (p := ⟨w.heap.size, j, none⟩) (.inr (Nat.le_refl _)) (.int .u8 48))
        clear hB hU hF hgj htk hset hB2 h9
        generalize l[j] = c at *
        go_wp2
        go_roundw
        case rel => exact ⟨j, by omega, by go_num, HB2, hU2, HF2⟩
        case measure => simp [intOf]

/-- what is answered of a fraction, whether it is read as a number: by what it is against half way above, and half way below -/
def insB (ab be : Int) (ev : Bool) : Bool := (decide (ab < 0) || (decide (ab = 0) && ev)) && (decide (0 < be) || (decide (be = 0) && ev))
def insF (A B n E Q : Nat) (ev : Bool) : Bool :=
  insB (bcmp (A * 2 ^ (-((E : Int) - 1074 - 1)).toNat) (B * (2 * n + 1) * 2 ^ ((E : Int) - 1074 - 1).toNat))
    (if n = 4503599627370496 ∧ 1 < Q then bcmp (A * 2 ^ (-((E : Int) - 1074 - 2)).toNat) (B * (4 * n - 1) * 2 ^ ((E : Int) - 1074 - 2).toNat) else bcmp (A * 2 ^ (-((E : Int) - 1074 - 1)).toNat) (B * (2 * n - 1) * 2 ^ ((E : Int) - 1074 - 1).toNat)) ev
def insV (A B m : Nat) : Bool := insF A B (manE m).1 (manE m).2 (m / 4503599627370496) (decide (m % 2 = 0))

theorem bcmp_cases (a b : Nat) : bcmp a b = -1 ∨ bcmp a b = 0 ∨ bcmp a b = 1 := by
  unfold bcmp
  split
  · exact .inl rfl
  · split
    · exact .inr (.inl rfl)
    · exact .inr (.inr rfl)

theorem fagainst_int (v : Value) (A B L : Nat) (N : Int) (n : Nat) (e : Int) (w : World) (hN : N = (n : Int)) (hL : L ≤ 10000000) (hn : n < 18446744073709551616) (h1 : -5000 ≤ e) (h2 : e ≤ 5000) (hf : FracAt w v A B L) :
    Calls Try.prog 54 #[v, .int .u64 N, .int .i64 e] w fun r w' => r = .returned (.int .i64 (bcmp (A * 2 ^ (-e).toNat) (B * n * 2 ^ e.toNat))) ∧ Fr (fun _ => False) w w' := by
  subst hN
  exact fagainst_any v A B L n e w hL hn h1 h2 hf
theorem man_bounds (m : Nat) (h0 : m ≠ 0) (hm : m < 9218868437227405312) : (0 < (manE m).1 ∧ (manE m).1 < 9007199254740992) ∧ (manE m).2 ≤ 2046 := by
  unfold manE
  split
  · simp only; omega
  · simp only; omega

set_option maxRecDepth 100000 in
set_option maxHeartbeats 4000000 in
theorem inside_any (v : Value) (A B L m : Nat) (w : World) (hL : L ≤ 10000000) (hm0 : m ≠ 0) (hm : m < 9218868437227405312) (hf : FracAt w v A B L) :
    Calls Try.prog 63 #[v, .int .u64 (m : Int)] w fun r w' => r = .returned (.bool (insV A B m)) ∧ Fr (fun _ => False) w w' := by
  obtain ⟨va, vb, xs, ys, rfl, hrest⟩ := hf
  have HF := hid (show FracAt w (.agg #[va, vb]) A B L from ⟨va, vb, xs, ys, rfl, hrest⟩)
  have HM := hid hm
  have hev : Int.tmod (m : Int) 2 = ((m % 2 : Nat) : Int) := by rw [Int.tmod_eq_emod_of_nonneg (by omega)]; omega
  obtain ⟨hb1, hb2⟩ := man_bounds m hm0 hm
  have hsh : (m : Int) / 4503599627370496 = ((m / 4503599627370496 : Nat) : Int) := by omega
  have hQ : m / 4503599627370496 ≤ 2047 := by omega
  clear hrest hm
  obtain ⟨n, hn⟩ : ∃ n, (manE m).1 = n := ⟨_, rfl⟩
  obtain ⟨E, hE⟩ : ∃ E, (manE m).2 = E := ⟨_, rfl⟩
  rw [hn] at hb1
  rw [hE] at hb2
  obtain ⟨Q, hQe⟩ : ∃ Q, m / 4503599627370496 = Q := ⟨_, rfl⟩
  have HV := hid (show insV A B m = insF A B n E Q (decide (m % 2 = 0)) from by unfold insV; rw [hn, hE, hQe])
  rw [hQe] at hsh hQ
  have HSH := hid hsh
  have HN := hid hn
  have HE := hid hE
  clear hn hE hQe
  go_enter Try.func63, Try.ntmps63
  go_wp2_with fail
  refine (parts_man m _ (by have := HM.out; omega)).mono ?_
  rintro e w1 ⟨rfl, rfl⟩
  rw [HN.out, HE.out]
  have hF1 := hid ((Fr.refl (fun _ => False) w).alloc (.cells #[va, vb] 91))
  go_wp2_with fail
  refine (fagainst_int _ A B L _ (2 * n + 1) ((E : Int) - 1074 - 1) _ (by omega) hL (by omega) (by omega) (by omega) (HF.out.fr hF1.out)).mono ?_
  rintro r w2 ⟨rfl, hF2⟩
  obtain ⟨ab, hab⟩ : ∃ ab, bcmp (A * 2 ^ (-((E : Int) - 1074 - 1)).toNat) (B * (2 * n + 1) * 2 ^ ((E : Int) - 1074 - 1).toNat) = ab := ⟨_, rfl⟩
  have habc : -1 ≤ ab ∧ ab ≤ 1 := by rw [← hab]; rcases bcmp_cases _ _ with h | h | h <;> rw [h] <;> omega
  rw [hab]
  have hcv0 := (hF2.cell (p := ⟨w.heap.size, 0, none⟩) (by simp) id).trans (cell_alloc_at _ _ _ _)
  have hcv1 := (hF2.cell (p := ⟨w.heap.size, 1, none⟩) (by simp) id).trans (cell_alloc_at _ _ _ _)
  simp only [List.getElem?_toArray, List.getElem?_cons_zero, List.getElem?_cons_succ] at hcv0 hcv1
  have HF2 := hid (hF1.out.trans hF2)
  clear hF2
  go_wp2_with fail
  refine (fagainst_int _ A B L _ (2 * n - 1) ((E : Int) - 1074 - 1) _ (by omega) hL (by omega) (by omega) (by omega) (HF.out.fr HF2.out)).mono ?_
  rintro r w3 ⟨rfl, hF3⟩
  have hcw0 := (hF3.cell (p := ⟨w.heap.size, 0, none⟩) (lt_of_cell hcv0) id).trans hcv0
  have hcw1 := (hF3.cell (p := ⟨w.heap.size, 1, none⟩) (lt_of_cell hcv1) id).trans hcv1
  have HF3 := hid (HF2.out.trans hF3)
  have HABC := hid (show ab = -1 ∨ ab = 0 ∨ ab = 1 by rw [← hab]; exact bcmp_cases _ _)
  have HAB := hid hab
  clear hF3 hab
  by_cases hp : n = 4503599627370496 ∧ 1 < Q
  · have HP := hid hp
    obtain ⟨hp1, hp2⟩ := hp
    have hq1 : decide ((1 : Int) < (Q : Int)) = true := decide_eq_true (by omega)
    have hn5 : ((n : Int) == 4503599627370496) = true := beq_iff_eq.2 (by omega)
    clear hp1 hp2
    go_wp2_with fail
    refine (fagainst_int _ A B L _ (4 * n - 1) ((E : Int) - 1074 - 2) _ (by omega) hL (by omega) (by omega) (by omega) (HF.out.fr HF3.out)).mono ?_
    rintro r w4 ⟨rfl, hF4⟩
    have HF4 := hid (HF3.out.trans hF4)
    clear hF4 hcw0 hcw1
    obtain ⟨be, hbe⟩ : ∃ be, bcmp (A * 2 ^ (-((E : Int) - 1074 - 2)).toNat) (B * (4 * n - 1) * 2 ^ ((E : Int) - 1074 - 2).toNat) = be := ⟨_, rfl⟩
    have hbec : be = -1 ∨ be = 0 ∨ be = 1 := by rw [← hbe]; exact bcmp_cases _ _
    rw [hbe]
    have HBE := hid hbe
    clear hbe habc hcv0 hcv1
    have habc : ab = -1 ∨ ab = 0 ∨ ab = 1 := HABC.out
    rcases Nat.mod_two_eq_zero_or_one m with hpar | hpar
    · have HP2 := hid (show (decide (m % 2 = 0)) = true by rw [hpar]; rfl)
      rw [hpar] at hev
      clear hpar
      rcases habc with rfl | rfl | rfl <;> rcases hbec with rfl | rfl | rfl
      all_goals
        go_wp2
        go_ret
        refine ⟨?_, HF4.out⟩
        rw [HV.out, insF, HAB.out, if_pos HP.out, HBE.out, HP2.out]
        rfl
    · have HP2 := hid (show (decide (m % 2 = 0)) = false by rw [hpar]; rfl)
      rw [hpar] at hev
      clear hpar
      rcases habc with rfl | rfl | rfl <;> rcases hbec with rfl | rfl | rfl
      all_goals
        go_wp2
        go_ret
        refine ⟨?_, HF4.out⟩
        rw [HV.out, insF, HAB.out, if_pos HP.out, HBE.out, HP2.out]
        rfl
  · have HP := hid hp
    by_cases hn5 : n = 4503599627370496
    · have hq1 : decide ((1 : Int) < (Q : Int)) = false := decide_eq_false (by have := HP.out; omega)
      have hn6 : ((n : Int) == 4503599627370496) = true := beq_iff_eq.2 (by omega)
      clear hp hcw0 hcw1 hn5
      obtain ⟨be, hbe⟩ : ∃ be, bcmp (A * 2 ^ (-((E : Int) - 1074 - 1)).toNat) (B * (2 * n - 1) * 2 ^ ((E : Int) - 1074 - 1).toNat) = be := ⟨_, rfl⟩
      have hbec : be = -1 ∨ be = 0 ∨ be = 1 := by rw [← hbe]; exact bcmp_cases _ _
      rw [hbe]
      have HBE := hid hbe
      clear hbe habc hcv0 hcv1
      have habc : ab = -1 ∨ ab = 0 ∨ ab = 1 := HABC.out
      rcases Nat.mod_two_eq_zero_or_one m with hpar | hpar
      · have HP2 := hid (show (decide (m % 2 = 0)) = true by rw [hpar]; rfl)
        rw [hpar] at hev
        clear hpar
        rcases habc with rfl | rfl | rfl <;> rcases hbec with rfl | rfl | rfl
        all_goals
          go_wp2
          go_ret
          refine ⟨?_, HF3.out⟩
          rw [HV.out, insF, HAB.out, if_neg HP.out, HBE.out, HP2.out]
          rfl
      · have HP2 := hid (show (decide (m % 2 = 0)) = false by rw [hpar]; rfl)
        rw [hpar] at hev
        clear hpar
        rcases habc with rfl | rfl | rfl <;> rcases hbec with rfl | rfl | rfl
        all_goals
          go_wp2
          go_ret
          refine ⟨?_, HF3.out⟩
          rw [HV.out, insF, HAB.out, if_neg HP.out, HBE.out, HP2.out]
          rfl
    · have hq1 : ((n : Int) == 4503599627370496) = false := beq_eq_false_iff_ne.2 (by omega)
      clear hp hcw0 hcw1 hn5
      obtain ⟨be, hbe⟩ : ∃ be, bcmp (A * 2 ^ (-((E : Int) - 1074 - 1)).toNat) (B * (2 * n - 1) * 2 ^ ((E : Int) - 1074 - 1).toNat) = be := ⟨_, rfl⟩
      have hbec : be = -1 ∨ be = 0 ∨ be = 1 := by rw [← hbe]; exact bcmp_cases _ _
      rw [hbe]
      have HBE := hid hbe
      clear hbe habc hcv0 hcv1
      have habc : ab = -1 ∨ ab = 0 ∨ ab = 1 := HABC.out
      rcases Nat.mod_two_eq_zero_or_one m with hpar | hpar
      · have HP2 := hid (show (decide (m % 2 = 0)) = true by rw [hpar]; rfl)
        rw [hpar] at hev
        clear hpar
        rcases habc with rfl | rfl | rfl <;> rcases hbec with rfl | rfl | rfl
        all_goals
          go_wp2
          go_ret
          refine ⟨?_, HF3.out⟩
          rw [HV.out, insF, HAB.out, if_neg HP.out, HBE.out, HP2.out]
          rfl
      · have HP2 := hid (show (decide (m % 2 = 0)) = false by rw [hpar]; rfl)
        rw [hpar] at hev
        clear hpar
        rcases habc with rfl | rfl | rfl <;> rcases hbec with rfl | rfl | rfl
        all_goals
          go_wp2
          go_ret
          refine ⟨?_, HF3.out⟩
          rw [HV.out, insF, HAB.out, if_neg HP.out, HBE.out, HP2.out]
          rfl
end Go.Proofs.Ytmkkibaacclhnaa
