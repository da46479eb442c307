/-
  A step of the walk of the parser, the part named Pj: a digit of an escape. No theorem of the row.
-/
import Derived.Test.YtmkkibaacclhnaaPi
import Derived.Laws.BitsAllLaws
namespace Go.Proofs.Ytmkkibaacclhnaa
open Go.RowKit

theorem i32_or_nat (a b : Nat) (ha : a < 2147483648) (hb : b < 2147483648) : bits .or .i32 (a : Int) (b : Int) = ((a ||| b : Nat) : Int) := by
  have hx : a ||| b < 2 ^ 31 := Nat.or_lt_two_pow (by omega) (by omega)
  show IntKind.i32.wrap ((BitVec.ofInt 32 (a : Int) ||| BitVec.ofInt 32 (b : Int)).toNat : Int) = _
  have e : ∀ n : Nat, n < 2147483648 → (BitVec.ofInt 32 (n : Int)).toNat = n := by
    intro n hn
    rw [BitVec.toNat_ofInt]
    omega
  rw [BitVec.toNat_or, e a ha, e b hb]
  exact IntWalk.i32_in _ (by omega)
/-- a digit more -/
theorem hex_or (code x : Nat) (hc : code < 4096) (hx : x < 16) : bits BinOp.or IntKind.i32 (IntKind.i32.wrap ((code : Int) * 16)) (x : Int) = ((code * 16 + x : Nat) : Int) := by
  rw [IntWalk.i32_in _ (by omega), show (code : Int) * 16 = ((code * 16 : Nat) : Int) by omega, i32_or_nat _ _ (by omega) (by omega), nat_join 4 (code * 16) x (by omega) (by omega)]

set_option maxRecDepth 100000 in
set_option maxHeartbeats 4000000 in
theorem dig_no (B o T : Nat) (cs : Array Value) (v : Value) (t : Tr) (c : UInt8) (w : World) (h : TrAt 0 w B o T cs v t) (he : hexV c = none) :
    Calls Try.prog 116 #[.pointer (some ⟨B, o, none⟩), .int .u8 (c.toNat : Int)] w fun e w' => e = gave 3 ∧ Fr (fun _ => False) w w' := by
  obtain ⟨hh, hI, ho⟩ := h
  have k6 := blk_cell hh hI.c6
  have HC := hid (fun w => hex_any c w)
  rw [he] at HC
  simp only at HC
  clear hh hI ho he
  go_enter Try.func116, Try.ntmps116
  go_wp2
  go_region_dies
  all_goals
    refine Calls.mono (HC.out _) ?_
    rintro e w2 ⟨rfl, rfl⟩
    exact ⟨rfl, rfl, (Fr.refl _ _).drew⟩

/-- what is found before the digits are counted -/
structure DigH (B o T : Nat) (cs : Array Value) (v : Value) (t : Tr) (c : UInt8) (x y d : Nat) (w : World) : Prop where
  hT : T ≠ 5
  at_ : TrAt 0 w B o T cs v t
  code : t.code < 4096
  hex : hexV c = some x
  y : y = t.code * 16 + x
  d : d = t.dg + 1
  dl : t.dg ≤ 3

set_option maxRecDepth 100000 in
set_option maxHeartbeats 8000000 in
theorem dig_1a (B o T : Nat) (cs : Array Value) (v : Value) (t : Tr) (c : UInt8) (x y d : Nat) (w : World) (hD : DigH B o T cs v t c x y d w) (h1 : d = 1) (g7 : ((t.high : Int) != 0) = false) :
    Calls Try.prog 116 #[.pointer (some ⟨B, o, none⟩), .int .u8 (c.toNat : Int)] w fun e w' => e = .returned (.tuple #[]) ∧ TrPost 0 B o T cs v w w' (trAdd t x) := by
  obtain ⟨hT, h, hc, he, hy, hd, hdl⟩ := hD
  have hx := hexV_lt he
  have hor := hex_or t.code x hc hx
  rw [← hy] at hor
  have HT := hid hT
  have H0 := hid (show TrR 0 B o T cs v w cs v w.drew t from ⟨h, ApartR.refl _ _, (Fr.refl _ _).drew, fun _ h => .inl h⟩)
  have HY := hid hy
  have HDG := hid hd
  obtain ⟨hh, hI, ho⟩ := h
  have k0 := blk_cell hh hI.c0
  have k5 := blk_cell hh hI.c5
  have k6 := blk_cell hh hI.c6
  have k7 := blk_cell hh hI.c7
  have f5 := blk_free (j := o + 5) hh
  have f6 := blk_free (j := o + 6) hh
  have hadd : (t.dg : Int) + 1 = (d : Int) := by omega
  have HC := hid (fun w => hex_any c w)
  rw [he] at HC
  simp only at HC
  have H1 := hid ((H0.out.s6 HT.out y).s5 HT.out d)
  clear hh hI ho he hT hx hy hd hc
  subst h1
  go_enter Try.func116, Try.ntmps116
  go_upto_region 0 with fail
  go_cut [14] (fun u wc => wc = (w.setCell ⟨B, o + 6, none⟩ (.int .i32 (y : Int))).drew)
  case first =>
    go_region_with (go_at_call 128; refine Calls.mono (HC.out _) ?_; rintro e w2 ⟨rfl, rfl⟩)
    all_goals
      go_wp2
      go_meet
      rfl
  case rest =>
    subst hcut
    go_wp2
    go_end0
    have e : trAdd t x = ⟨t.st, t.made, t.lack, t.lo, t.hi, 1, y, t.high⟩ := by unfold trAdd; rw [← HY.out, ← HDG.out]
    rw [e]
    exact ⟨rfl, _, _, H1.out⟩

set_option maxRecDepth 100000 in
set_option maxHeartbeats 8000000 in
theorem dig_1b (B o T : Nat) (cs : Array Value) (v : Value) (t : Tr) (c : UInt8) (x y d : Nat) (w : World) (hD : DigH B o T cs v t c x y d w) (h1 : d = 1) (g7 : ((t.high : Int) != 0) = true) (g8 : ((y : Int) != 13) = false) :
    Calls Try.prog 116 #[.pointer (some ⟨B, o, none⟩), .int .u8 (c.toNat : Int)] w fun e w' => e = .returned (.tuple #[]) ∧ TrPost 0 B o T cs v w w' (trAdd t x) := by
  obtain ⟨hT, h, hc, he, hy, hd, hdl⟩ := hD
  have hx := hexV_lt he
  have hor := hex_or t.code x hc hx
  rw [← hy] at hor
  have HT := hid hT
  have H0 := hid (show TrR 0 B o T cs v w cs v w.drew t from ⟨h, ApartR.refl _ _, (Fr.refl _ _).drew, fun _ h => .inl h⟩)
  have HY := hid hy
  have HDG := hid hd
  obtain ⟨hh, hI, ho⟩ := h
  have k0 := blk_cell hh hI.c0
  have k5 := blk_cell hh hI.c5
  have k6 := blk_cell hh hI.c6
  have k7 := blk_cell hh hI.c7
  have f5 := blk_free (j := o + 5) hh
  have f6 := blk_free (j := o + 6) hh
  have hadd : (t.dg : Int) + 1 = (d : Int) := by omega
  have HC := hid (fun w => hex_any c w)
  rw [he] at HC
  simp only at HC
  have H1 := hid ((H0.out.s6 HT.out y).s5 HT.out d)
  clear hh hI ho he hT hx hy hd hc
  subst h1
  go_enter Try.func116, Try.ntmps116
  go_upto_region 0 with fail
  go_cut [14] (fun u wc => wc = (w.setCell ⟨B, o + 6, none⟩ (.int .i32 (y : Int))).drew)
  case first =>
    go_region_with (go_at_call 128; refine Calls.mono (HC.out _) ?_; rintro e w2 ⟨rfl, rfl⟩)
    all_goals
      go_wp2
      go_meet
      rfl
  case rest =>
    subst hcut
    go_wp2
    go_end0
    have e : trAdd t x = ⟨t.st, t.made, t.lack, t.lo, t.hi, 1, y, t.high⟩ := by unfold trAdd; rw [← HY.out, ← HDG.out]
    rw [e]
    exact ⟨rfl, _, _, H1.out⟩

set_option maxRecDepth 100000 in
set_option maxHeartbeats 8000000 in
theorem dig_1c (B o T : Nat) (cs : Array Value) (v : Value) (t : Tr) (c : UInt8) (x y d : Nat) (w : World) (hD : DigH B o T cs v t c x y d w) (h1 : d = 1) (g7 : ((t.high : Int) != 0) = true) (g8 : ((y : Int) != 13) = true) :
    Calls Try.prog 116 #[.pointer (some ⟨B, o, none⟩), .int .u8 (c.toNat : Int)] w fun e w' => e = gave 5 ∧ TrErr B o T cs v w w' := by
  obtain ⟨hT, h, hc, he, hy, hd, hdl⟩ := hD
  have hx := hexV_lt he
  have hor := hex_or t.code x hc hx
  rw [← hy] at hor
  have HT := hid hT
  have H0 := hid (show TrR 0 B o T cs v w cs v w.drew t from ⟨h, ApartR.refl _ _, (Fr.refl _ _).drew, fun _ h => .inl h⟩)
  have HY := hid hy
  have HDG := hid hd
  obtain ⟨hh, hI, ho⟩ := h
  have k0 := blk_cell hh hI.c0
  have k5 := blk_cell hh hI.c5
  have k6 := blk_cell hh hI.c6
  have k7 := blk_cell hh hI.c7
  have f5 := blk_free (j := o + 5) hh
  have f6 := blk_free (j := o + 6) hh
  have hadd : (t.dg : Int) + 1 = (d : Int) := by omega
  have HC := hid (fun w => hex_any c w)
  rw [he] at HC
  simp only at HC
  have H1 := hid ((H0.out.s6 HT.out y).s5 HT.out d)
  clear hh hI ho he hT hx hy hd hc
  subst h1
  go_enter Try.func116, Try.ntmps116
  go_upto_region 0 with fail
  go_cut [14] (fun u wc => wc = (w.setCell ⟨B, o + 6, none⟩ (.int .i32 (y : Int))).drew)
  case first =>
    go_region_with (go_at_call 128; refine Calls.mono (HC.out _) ?_; rintro e w2 ⟨rfl, rfl⟩)
    all_goals
      go_wp2
      go_meet
      rfl
  case rest =>
    subst hcut
    go_wp2
    exact ⟨rfl, rfl, H1.out.err⟩

set_option maxRecDepth 100000 in
set_option maxHeartbeats 8000000 in
theorem dig_2a (B o T : Nat) (cs : Array Value) (v : Value) (t : Tr) (c : UInt8) (x y d : Nat) (w : World) (hD : DigH B o T cs v t c x y d w) (h1 : d = 2) (g7 : ((t.high : Int) != 0) = false) (g8 : (y : Int) < 220) :
    Calls Try.prog 116 #[.pointer (some ⟨B, o, none⟩), .int .u8 (c.toNat : Int)] w fun e w' => e = .returned (.tuple #[]) ∧ TrPost 0 B o T cs v w w' (trAdd t x) := by
  obtain ⟨hT, h, hc, he, hy, hd, hdl⟩ := hD
  have hx := hexV_lt he
  have hor := hex_or t.code x hc hx
  rw [← hy] at hor
  have HT := hid hT
  have H0 := hid (show TrR 0 B o T cs v w cs v w.drew t from ⟨h, ApartR.refl _ _, (Fr.refl _ _).drew, fun _ h => .inl h⟩)
  have HY := hid hy
  have HDG := hid hd
  obtain ⟨hh, hI, ho⟩ := h
  have k0 := blk_cell hh hI.c0
  have k5 := blk_cell hh hI.c5
  have k6 := blk_cell hh hI.c6
  have k7 := blk_cell hh hI.c7
  have f5 := blk_free (j := o + 5) hh
  have f6 := blk_free (j := o + 6) hh
  have hadd : (t.dg : Int) + 1 = (d : Int) := by omega
  have HC := hid (fun w => hex_any c w)
  rw [he] at HC
  simp only at HC
  have H1 := hid ((H0.out.s6 HT.out y).s5 HT.out d)
  clear hh hI ho he hT hx hy hd hc
  subst h1
  go_enter Try.func116, Try.ntmps116
  go_upto_region 0 with fail
  go_cut [14] (fun u wc => wc = (w.setCell ⟨B, o + 6, none⟩ (.int .i32 (y : Int))).drew)
  case first =>
    go_region_with (go_at_call 128; refine Calls.mono (HC.out _) ?_; rintro e w2 ⟨rfl, rfl⟩)
    all_goals
      go_wp2
      go_meet
      rfl
  case rest =>
    subst hcut
    go_wp2
    go_end0
    have e : trAdd t x = ⟨t.st, t.made, t.lack, t.lo, t.hi, 2, y, t.high⟩ := by unfold trAdd; rw [← HY.out, ← HDG.out]
    rw [e]
    exact ⟨rfl, _, _, H1.out⟩

set_option maxRecDepth 100000 in
set_option maxHeartbeats 8000000 in
theorem dig_2b (B o T : Nat) (cs : Array Value) (v : Value) (t : Tr) (c : UInt8) (x y d : Nat) (w : World) (hD : DigH B o T cs v t c x y d w) (h1 : d = 2) (g7 : ((t.high : Int) != 0) = false) (g8 : 220 ≤ (y : Int)) (g9 : 224 ≤ (y : Int)) :
    Calls Try.prog 116 #[.pointer (some ⟨B, o, none⟩), .int .u8 (c.toNat : Int)] w fun e w' => e = .returned (.tuple #[]) ∧ TrPost 0 B o T cs v w w' (trAdd t x) := by
  obtain ⟨hT, h, hc, he, hy, hd, hdl⟩ := hD
  have hx := hexV_lt he
  have hor := hex_or t.code x hc hx
  rw [← hy] at hor
  have HT := hid hT
  have H0 := hid (show TrR 0 B o T cs v w cs v w.drew t from ⟨h, ApartR.refl _ _, (Fr.refl _ _).drew, fun _ h => .inl h⟩)
  have HY := hid hy
  have HDG := hid hd
  obtain ⟨hh, hI, ho⟩ := h
  have k0 := blk_cell hh hI.c0
  have k5 := blk_cell hh hI.c5
  have k6 := blk_cell hh hI.c6
  have k7 := blk_cell hh hI.c7
  have f5 := blk_free (j := o + 5) hh
  have f6 := blk_free (j := o + 6) hh
  have hadd : (t.dg : Int) + 1 = (d : Int) := by omega
  have HC := hid (fun w => hex_any c w)
  rw [he] at HC
  simp only at HC
  have H1 := hid ((H0.out.s6 HT.out y).s5 HT.out d)
  clear hh hI ho he hT hx hy hd hc
  subst h1
  go_enter Try.func116, Try.ntmps116
  go_upto_region 0 with fail
  go_cut [14] (fun u wc => wc = (w.setCell ⟨B, o + 6, none⟩ (.int .i32 (y : Int))).drew)
  case first =>
    go_region_with (go_at_call 128; refine Calls.mono (HC.out _) ?_; rintro e w2 ⟨rfl, rfl⟩)
    all_goals
      go_wp2
      go_meet
      rfl
  case rest =>
    subst hcut
    go_wp2
    go_end0
    have e : trAdd t x = ⟨t.st, t.made, t.lack, t.lo, t.hi, 2, y, t.high⟩ := by unfold trAdd; rw [← HY.out, ← HDG.out]
    rw [e]
    exact ⟨rfl, _, _, H1.out⟩

set_option maxRecDepth 100000 in
set_option maxHeartbeats 8000000 in
theorem dig_2c (B o T : Nat) (cs : Array Value) (v : Value) (t : Tr) (c : UInt8) (x y d : Nat) (w : World) (hD : DigH B o T cs v t c x y d w) (h1 : d = 2) (g7 : ((t.high : Int) != 0) = false) (g8 : 220 ≤ (y : Int)) (g9 : (y : Int) < 224) :
    Calls Try.prog 116 #[.pointer (some ⟨B, o, none⟩), .int .u8 (c.toNat : Int)] w fun e w' => e = gave 5 ∧ TrErr B o T cs v w w' := by
  obtain ⟨hT, h, hc, he, hy, hd, hdl⟩ := hD
  have hx := hexV_lt he
  have hor := hex_or t.code x hc hx
  rw [← hy] at hor
  have HT := hid hT
  have H0 := hid (show TrR 0 B o T cs v w cs v w.drew t from ⟨h, ApartR.refl _ _, (Fr.refl _ _).drew, fun _ h => .inl h⟩)
  have HY := hid hy
  have HDG := hid hd
  obtain ⟨hh, hI, ho⟩ := h
  have k0 := blk_cell hh hI.c0
  have k5 := blk_cell hh hI.c5
  have k6 := blk_cell hh hI.c6
  have k7 := blk_cell hh hI.c7
  have f5 := blk_free (j := o + 5) hh
  have f6 := blk_free (j := o + 6) hh
  have hadd : (t.dg : Int) + 1 = (d : Int) := by omega
  have HC := hid (fun w => hex_any c w)
  rw [he] at HC
  simp only at HC
  have H1 := hid ((H0.out.s6 HT.out y).s5 HT.out d)
  clear hh hI ho he hT hx hy hd hc
  subst h1
  go_enter Try.func116, Try.ntmps116
  go_upto_region 0 with fail
  go_cut [14] (fun u wc => wc = (w.setCell ⟨B, o + 6, none⟩ (.int .i32 (y : Int))).drew)
  case first =>
    go_region_with (go_at_call 128; refine Calls.mono (HC.out _) ?_; rintro e w2 ⟨rfl, rfl⟩)
    all_goals
      go_wp2
      go_meet
      rfl
  case rest =>
    subst hcut
    go_wp2
    exact ⟨rfl, rfl, H1.out.err⟩

set_option maxRecDepth 100000 in
set_option maxHeartbeats 8000000 in
theorem dig_2d (B o T : Nat) (cs : Array Value) (v : Value) (t : Tr) (c : UInt8) (x y d : Nat) (w : World) (hD : DigH B o T cs v t c x y d w) (h1 : d = 2) (g7 : ((t.high : Int) != 0) = true) (g8 : (y : Int) < 220) :
    Calls Try.prog 116 #[.pointer (some ⟨B, o, none⟩), .int .u8 (c.toNat : Int)] w fun e w' => e = gave 5 ∧ TrErr B o T cs v w w' := by
  obtain ⟨hT, h, hc, he, hy, hd, hdl⟩ := hD
  have hx := hexV_lt he
  have hor := hex_or t.code x hc hx
  rw [← hy] at hor
  have HT := hid hT
  have H0 := hid (show TrR 0 B o T cs v w cs v w.drew t from ⟨h, ApartR.refl _ _, (Fr.refl _ _).drew, fun _ h => .inl h⟩)
  have HY := hid hy
  have HDG := hid hd
  obtain ⟨hh, hI, ho⟩ := h
  have k0 := blk_cell hh hI.c0
  have k5 := blk_cell hh hI.c5
  have k6 := blk_cell hh hI.c6
  have k7 := blk_cell hh hI.c7
  have f5 := blk_free (j := o + 5) hh
  have f6 := blk_free (j := o + 6) hh
  have hadd : (t.dg : Int) + 1 = (d : Int) := by omega
  have HC := hid (fun w => hex_any c w)
  rw [he] at HC
  simp only at HC
  have H1 := hid ((H0.out.s6 HT.out y).s5 HT.out d)
  clear hh hI ho he hT hx hy hd hc
  subst h1
  go_enter Try.func116, Try.ntmps116
  go_upto_region 0 with fail
  go_cut [14] (fun u wc => wc = (w.setCell ⟨B, o + 6, none⟩ (.int .i32 (y : Int))).drew)
  case first =>
    go_region_with (go_at_call 128; refine Calls.mono (HC.out _) ?_; rintro e w2 ⟨rfl, rfl⟩)
    all_goals
      go_wp2
      go_meet
      rfl
  case rest =>
    subst hcut
    go_wp2
    exact ⟨rfl, rfl, H1.out.err⟩

set_option maxRecDepth 100000 in
set_option maxHeartbeats 8000000 in
theorem dig_2e (B o T : Nat) (cs : Array Value) (v : Value) (t : Tr) (c : UInt8) (x y d : Nat) (w : World) (hD : DigH B o T cs v t c x y d w) (h1 : d = 2) (g7 : ((t.high : Int) != 0) = true) (g8 : 220 ≤ (y : Int)) (g9 : decide ((y : Int) < 224) = false) :
    Calls Try.prog 116 #[.pointer (some ⟨B, o, none⟩), .int .u8 (c.toNat : Int)] w fun e w' => e = gave 5 ∧ TrErr B o T cs v w w' := by
  obtain ⟨hT, h, hc, he, hy, hd, hdl⟩ := hD
  have hx := hexV_lt he
  have hor := hex_or t.code x hc hx
  rw [← hy] at hor
  have HT := hid hT
  have H0 := hid (show TrR 0 B o T cs v w cs v w.drew t from ⟨h, ApartR.refl _ _, (Fr.refl _ _).drew, fun _ h => .inl h⟩)
  have HY := hid hy
  have HDG := hid hd
  obtain ⟨hh, hI, ho⟩ := h
  have k0 := blk_cell hh hI.c0
  have k5 := blk_cell hh hI.c5
  have k6 := blk_cell hh hI.c6
  have k7 := blk_cell hh hI.c7
  have f5 := blk_free (j := o + 5) hh
  have f6 := blk_free (j := o + 6) hh
  have hadd : (t.dg : Int) + 1 = (d : Int) := by omega
  have HC := hid (fun w => hex_any c w)
  rw [he] at HC
  simp only at HC
  have H1 := hid ((H0.out.s6 HT.out y).s5 HT.out d)
  clear hh hI ho he hT hx hy hd hc
  subst h1
  go_enter Try.func116, Try.ntmps116
  go_upto_region 0 with fail
  go_cut [14] (fun u wc => wc = (w.setCell ⟨B, o + 6, none⟩ (.int .i32 (y : Int))).drew)
  case first =>
    go_region_with (go_at_call 128; refine Calls.mono (HC.out _) ?_; rintro e w2 ⟨rfl, rfl⟩)
    all_goals
      go_wp2
      go_meet
      rfl
  case rest =>
    subst hcut
    go_wp2
    exact ⟨rfl, rfl, H1.out.err⟩

set_option maxRecDepth 100000 in
set_option maxHeartbeats 8000000 in
theorem dig_2f (B o T : Nat) (cs : Array Value) (v : Value) (t : Tr) (c : UInt8) (x y d : Nat) (w : World) (hD : DigH B o T cs v t c x y d w) (h1 : d = 2) (g7 : ((t.high : Int) != 0) = true) (g8 : 220 ≤ (y : Int)) (g9 : (y : Int) < 224) :
    Calls Try.prog 116 #[.pointer (some ⟨B, o, none⟩), .int .u8 (c.toNat : Int)] w fun e w' => e = .returned (.tuple #[]) ∧ TrPost 0 B o T cs v w w' (trAdd t x) := by
  obtain ⟨hT, h, hc, he, hy, hd, hdl⟩ := hD
  have hx := hexV_lt he
  have hor := hex_or t.code x hc hx
  rw [← hy] at hor
  have HT := hid hT
  have H0 := hid (show TrR 0 B o T cs v w cs v w.drew t from ⟨h, ApartR.refl _ _, (Fr.refl _ _).drew, fun _ h => .inl h⟩)
  have HY := hid hy
  have HDG := hid hd
  obtain ⟨hh, hI, ho⟩ := h
  have k0 := blk_cell hh hI.c0
  have k5 := blk_cell hh hI.c5
  have k6 := blk_cell hh hI.c6
  have k7 := blk_cell hh hI.c7
  have f5 := blk_free (j := o + 5) hh
  have f6 := blk_free (j := o + 6) hh
  have hadd : (t.dg : Int) + 1 = (d : Int) := by omega
  have HC := hid (fun w => hex_any c w)
  rw [he] at HC
  simp only at HC
  have H1 := hid ((H0.out.s6 HT.out y).s5 HT.out d)
  clear hh hI ho he hT hx hy hd hc
  subst h1
  go_enter Try.func116, Try.ntmps116
  go_upto_region 0 with fail
  go_cut [14] (fun u wc => wc = (w.setCell ⟨B, o + 6, none⟩ (.int .i32 (y : Int))).drew)
  case first =>
    go_region_with (go_at_call 128; refine Calls.mono (HC.out _) ?_; rintro e w2 ⟨rfl, rfl⟩)
    all_goals
      go_wp2
      go_meet
      rfl
  case rest =>
    subst hcut
    go_wp2
    go_end0
    have e : trAdd t x = ⟨t.st, t.made, t.lack, t.lo, t.hi, 2, y, t.high⟩ := by unfold trAdd; rw [← HY.out, ← HDG.out]
    rw [e]
    exact ⟨rfl, _, _, H1.out⟩

set_option maxRecDepth 100000 in
set_option maxHeartbeats 8000000 in
theorem dig_3 (B o T : Nat) (cs : Array Value) (v : Value) (t : Tr) (c : UInt8) (x y d : Nat) (w : World) (hD : DigH B o T cs v t c x y d w) (h1 : d = 3) :
    Calls Try.prog 116 #[.pointer (some ⟨B, o, none⟩), .int .u8 (c.toNat : Int)] w fun e w' => e = .returned (.tuple #[]) ∧ TrPost 0 B o T cs v w w' (trAdd t x) := by
  obtain ⟨hT, h, hc, he, hy, hd, hdl⟩ := hD
  have hx := hexV_lt he
  have hor := hex_or t.code x hc hx
  rw [← hy] at hor
  have HT := hid hT
  have H0 := hid (show TrR 0 B o T cs v w cs v w.drew t from ⟨h, ApartR.refl _ _, (Fr.refl _ _).drew, fun _ h => .inl h⟩)
  have HY := hid hy
  have HDG := hid hd
  obtain ⟨hh, hI, ho⟩ := h
  have k0 := blk_cell hh hI.c0
  have k5 := blk_cell hh hI.c5
  have k6 := blk_cell hh hI.c6
  have k7 := blk_cell hh hI.c7
  have f5 := blk_free (j := o + 5) hh
  have f6 := blk_free (j := o + 6) hh
  have hadd : (t.dg : Int) + 1 = (d : Int) := by omega
  have HC := hid (fun w => hex_any c w)
  rw [he] at HC
  simp only at HC
  have H1 := hid ((H0.out.s6 HT.out y).s5 HT.out d)
  clear hh hI ho he hT hx hy hd hc
  subst h1
  go_enter Try.func116, Try.ntmps116
  go_upto_region 0 with fail
  go_cut [14] (fun u wc => wc = (w.setCell ⟨B, o + 6, none⟩ (.int .i32 (y : Int))).drew)
  case first =>
    go_region_with (go_at_call 128; refine Calls.mono (HC.out _) ?_; rintro e w2 ⟨rfl, rfl⟩)
    all_goals
      go_wp2
      go_meet
      rfl
  case rest =>
    subst hcut
    go_wp2
    go_end0
    have e : trAdd t x = ⟨t.st, t.made, t.lack, t.lo, t.hi, 3, y, t.high⟩ := by unfold trAdd; rw [← HY.out, ← HDG.out]
    rw [e]
    exact ⟨rfl, _, _, H1.out⟩
end Go.Proofs.Ytmkkibaacclhnaa
