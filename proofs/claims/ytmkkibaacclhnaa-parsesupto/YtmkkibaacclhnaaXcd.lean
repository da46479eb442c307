/-
  A step of the walk of the numbers, the part named Xcd: digits one more, tokens made anew. No theorem of the row.
-/
import Derived.Test.YtmkkibaacclhnaaKep
import Derived.Laws.IdiomStrings
namespace Go.Proofs.Ytmkkibaacclhnaa
open Go.RowKit

/-- one more, from the last place on -/
def upR : List UInt8 → List UInt8
  | [] => [49]
  | c :: r => if c.toNat < 57 then UInt8.ofNat (c.toNat + 1) :: r else 48 :: upR r
def up (l : List UInt8) : List UInt8 := (upR l.reverse).reverse
theorem up_nil : up [] = [49] := rfl
theorem up_small (p : List UInt8) (c : UInt8) (h : c.toNat < 57) : up (p ++ [c]) = p ++ [UInt8.ofNat (c.toNat + 1)] := by simp [up, upR, h]
theorem up_nine (p : List UInt8) (c : UInt8) (h : ¬ c.toNat < 57) : up (p ++ [c]) = up p ++ [48] := by simp [up, upR, h]

theorem up_dgs (M : Nat) : up (dgs M) = dgs (M + 1) := by
  induction M using Nat.strongRecOn with
  | _ M ih =>
    by_cases h : M < 10
    · rw [dgs_lt h, show [UInt8.ofNat (48 + M)] = [] ++ [UInt8.ofNat (48 + M)] from rfl]
      by_cases h9 : M < 9
      · rw [up_small _ _ (by rw [ofNat_byte M h]; omega), ofNat_byte M h, dgs_lt (by omega)]; rfl
      · obtain rfl : M = 9 := by omega
        rw [up_nine _ _ (by decide), up_nil, dgs_ge (by omega), dgs_lt (by omega)]; rfl
    · rw [dgs_ge h]
      have hm := ofNat_byte (M % 10) (by omega)
      by_cases h9 : M % 10 < 9
      · rw [up_small _ _ (by rw [hm]; omega), hm, dgs_ge (n := M + 1) (by omega), show (M + 1) / 10 = M / 10 by omega, show (M + 1) % 10 = M % 10 + 1 by omega]; rfl
      · rw [up_nine _ _ (by rw [hm]; omega), ih (M / 10) (by omega), dgs_ge (n := M + 1) (by omega), show (M + 1) / 10 = M / 10 + 1 by omega, show (M + 1) % 10 = 0 by omega]; rfl

/-- bytes in memory that may be written -/
def BytesAt (w : World) (g : Nat) (l : List UInt8) : Prop := ∀ j, (h : j < l.length) → w.cell? ⟨g, j, none⟩ = some (.int .u8 ((l[j].toNat : Nat) : Int)) ∧ w.frozen? ⟨g, j, none⟩ = false

theorem BytesAt.set {w : World} {g : Nat} {l l' : List UInt8} (h : BytesAt w g l) (i : Nat) (c : UInt8) (hl : l' = l.set i c) : BytesAt (w.setCell ⟨g, i, none⟩ (.int .u8 ((c.toNat : Nat) : Int))) g l' := by
  subst hl
  intro j hj
  have hj' : j < l.length := by simpa using hj
  obtain ⟨h1, h2⟩ := h j hj'
  refine ⟨?_, by rw [World.frozen?_setCell]; exact h2⟩
  by_cases e : i = j
  · subst e
    rw [World.cell?_setCell_same (h := h1)]
    simp
  · rw [World.cell?_setCell_other (h := fun hh => e (congrArg Addr.off hh)), h1]
    simp [e]

theorem BytesAt.back {w : World} {g cap n : Nat} {l : List UInt8} (h : BytesAt w g l) (hn : l.length = n) : (convert 52 9 (.slice (some ⟨g, 0, none⟩) n cap)).run Try.prog w = .ok (.string (ofL l)) w := by
  subst hn
  exact run_convert_bytes_back (P := Try.prog) w 52 9 5 ⟨g, 0, none⟩ cap l Try.underlying52 Try.underlying5 Try.underlying9 (fun j hj => by
    have := (h j hj).1
    cases j <;> simpa [Addr.add] using this)

theorem bytes_start (w : World) (l : List UInt8) (cap : Nat) (n m : Nat) (hn : l.length ≤ n) : BytesAt (w.drew.alloc (.cells (bytesRow (ofL l) cap) 5 (n, m))) w.heap.size l := by
  have hh : (w.drew.alloc (.cells (bytesRow (ofL l) cap) 5 (n, m))).heap[w.heap.size]? = some (.cells (bytesRow (ofL l) cap) 5 (n, m)) := heap_alloc_new w.drew _
  intro j hj
  constructor
  · simp only [World.cell?, hh]
    simp [bytesRow, ofL, Array.getElem?_append, hj]
  · simp only [World.frozen?, hh]
    simp
    omega

set_option maxRecDepth 100000 in
set_option maxHeartbeats 4000000 in
theorem upTo_any (l : List UInt8) (w : World) (hl : l.length ≤ 1000) (hD : AllD l) :
    Calls Try.prog 21 #[.string (ofL l)] w fun e w' => e = .returned (.string (ofL (up l))) ∧ Fr (fun _ => False) w w' := by
  have hsz := ofL_size l
  have hcv := fun wx => run_bytes_of_string (P := Try.prog) wx 9 52 5 (ofL l) Try.underlying9 Try.underlying52 Try.underlying5
  go_enter Try.func21, Try.ntmps21
  go_wp2
  have hb0 : BytesAt (w.alloc (.cells (bytesRow (ofL l) (grownCap w l.length 0 5)) 5 ((bytesRow (ofL l) (grownCap w l.length 0 5)).size, (bytesRow (ofL l) (grownCap w l.length 0 5)).size + 1))).drew w.heap.size l :=
    bytes_start w l _ _ _ (by simp [bytesRow, ofL])
  have HB0 := hid hb0
  clear hb0 hcv
  go_loopw [4] (fun i wr => ∃ j : Nat, j ≤ l.length ∧ i = .int .i64 ((j : Int) - 1) ∧ Hid (BytesAt wr w.heap.size (l.take j ++ List.replicate (l.length - j) 48)) ∧ Hid (up l = up (l.take j) ++ List.replicate (l.length - j) 48) ∧ Hid (Fr (fun _ => False) w wr)) (fun i _ => (intOf i + 1).toNat)
  case atStart =>
    refine ⟨l.length, Nat.le_refl _, rfl, hid ?_, hid ?_, hid (((Fr.refl _ w).alloc _).drew)⟩
    · rw [List.take_length, Nat.sub_self]; simpa using HB0.out
    · rw [List.take_length, Nat.sub_self]; simp
  case round =>
    obtain ⟨j, hj, rfl, hB, hU, hF⟩ := hrel
    cases j with
    | zero =>
      have hB1 : BytesAt wr w.heap.size (List.replicate l.length 48) := by simpa using hB.out
      have hr := BytesAt.back (cap := grownCap w l.length 0 5) (n := l.length) hB1 (by simp)
      have hres := hid (show up l = [49] ++ List.replicate l.length 48 by have := hU.out; simpa [up_nil] using this)
      have hz : (ofL (List.replicate l.length 48)).size = l.length := by rw [ofL_size]; simp
      have hap : (ByteArray.mk #[49]) ++ ofL (List.replicate l.length 48) = ofL ([49] ++ List.replicate l.length 48) := by apply ByteArray.ext; simp [ofL]
      clear hB hU hB1
      generalize List.replicate l.length 48 = z at *
      go_wp2
      go_ret
      exact ⟨by rw [hres.out]; exact congrArg (fun t => Ending.returned (Value.string t)) hap, hF.out⟩
    | succ j =>
      have hlt : j < l.length := by omega
      have htk := List.take_succ_eq_append_getElem hlt
      have hcc := hB.out j (by simp; omega)
      have hgj : (l.take (j + 1) ++ List.replicate (l.length - (j + 1)) 48)[j]'(by simp; omega) = l[j] := by
        rw [List.getElem_append_left (by simp; omega)]; simp
      rw [hgj] at hcc
      obtain ⟨hc1, hc2⟩ := hcc
      obtain ⟨ha, hb⟩ := (isD_iff _).1 (hD _ (List.getElem_mem hlt))
      have hset : ∀ c, (l.take (j + 1) ++ List.replicate (l.length - (j + 1)) 48).set j c = l.take j ++ c :: List.replicate (l.length - (j + 1)) 48 := by
        intro c
        rw [htk, List.append_assoc, List.set_append_right _ _ (by simp; omega)]
        simp [show min j l.length = j by omega]
      by_cases h9 : l[j].toNat < 57
      · have hbn : (UInt8.ofNat (l[j].toNat + 1)).toNat = l[j].toNat + 1 := UInt8.toNat_ofNat_of_lt' (by show _ < 256; omega)
        have hB2 := hB.out.set j (UInt8.ofNat (l[j].toNat + 1)) (hset _).symm
        rw [hbn, show ((l[j].toNat + 1 : Nat) : Int) = (l[j].toNat : Int) + 1 from by omega] at hB2
        have hr := BytesAt.back (cap := grownCap w l.length 0 5) (n := l.length) hB2 (by simp; omega)
        have hres : Hid (up l = l.take j ++ UInt8.ofNat (l[j].toNat + 1) :: List.replicate (l.length - (j + 1)) 48) := by
          have := hU.out
          rw [htk, up_small _ _ h9, List.append_assoc] at this
          exact this
        have HF2 := hid (hF.out.setCell (p := ⟨w.heap.size, j, none⟩) (.inr (Nat.le_refl _)) (.int .u8 ((l[j].toNat : Int) + 1)))
        clear hB hU hF hgj htk hset hB2
        generalize l[j] = c at *
        go_wp2
        go_ret
        exact ⟨by rw [hres.out]; rfl, HF2.out⟩
      · have h57 : l[j].toNat = 57 := by omega
        have hB2 := hid (hB.out.set j 48 (hset _).symm)
        have hU2 := hid (show up l = up (l.take j) ++ List.replicate (l.length - j) 48 from by
          have := hU.out
          rw [htk, up_nine _ _ h9, List.append_assoc] at this
          rw [this, show l.length - j = (l.length - (j + 1)) + 1 by omega, List.replicate_succ]
          rfl)
        have HB2 : Hid (BytesAt (wr.setCell ⟨w.heap.size, j, none⟩ (.int .u8 48)) w.heap.size (l.take j ++ List.replicate (l.length - j) 48)) := by
          rw [show l.length - j = (l.length - (j + 1)) + 1 by omega, List.replicate_succ]
          exact hB2
        have HF2 := hid (hF.out.setCell (p := ⟨w.heap.size, j, none⟩) (.inr (Nat.le_refl _)) (.int .u8 48))
        clear hB hU hF hgj htk hset hB2 h9
        generalize l[j] = c at *
        go_wp2
        go_roundw
        case rel => exact ⟨j, by omega, by go_num, HB2, hU2, HF2⟩
        case measure => simp [intOf]
end Go.Proofs.Ytmkkibaacclhnaa

namespace Go.Proofs.Ytmkkibaacclhnaa
open Go.RowKit

set_option maxRecDepth 100000 in
set_option maxHeartbeats 2000000 in
theorem same_false (s : ByteArray) (b : Nat) (w : World) (hp : Calls Try.prog 10 #[.string s] w fun e w' => ∃ x y : Nat, (¬ y = 0 ∨ ¬ x = b) ∧ y ≤ 8 ∧ e = .returned (.tuple #[.int .u64 (x : Int), .int .i64 (y : Int)]) ∧ Fr (fun _ => False) w w') :
    Calls Try.prog 17 #[.string s, .int .u64 b] w fun e w' => e = .returned (.bool false) ∧ Fr (fun _ => False) w w' := by
  go_enter Try.func17, Try.ntmps17
  go_wp2_with fail
  refine hp.mono ?_
  rintro e w1 ⟨x, y, hxy, hy, rfl, hF⟩
  have HF := hid hF
  clear hF hp
  by_cases h0 : y = 0
  · have hne : ((x : Int) == (b : Int)) = false := beq_eq_false_iff_ne.2 (by omega)
    subst h0
    clear hxy
    go_wp2
    go_ret
    exact ⟨rfl, HF.out⟩
  · have hne : ((y : Int) == 0) = false := beq_eq_false_iff_ne.2 (by omega)
    clear hxy h0
    go_wp2
    go_ret
    exact ⟨rfl, HF.out⟩

/-- a whole number in digits, with its sign -/
def decL (n : Int) : List UInt8 := if n < 0 then 45 :: dgs n.natAbs else dgs n.natAbs
theorem decL_len (n : Int) (h1 : -10000 ≤ n) (h2 : n ≤ 10000) : (decL n).length ≤ 30 := by
  unfold decL
  have := dgs_len20 n.natAbs (by omega)
  split
  · simp; omega
  · omega

set_option maxRecDepth 100000 in
set_option maxHeartbeats 2000000 in
theorem decimal_int (n : Int) (h1 : -10000 ≤ n) (h2 : n ≤ 10000) (w : World) :
    Calls Try.prog 23 #[.int .i64 n] w fun e w' => e = .returned (.string (ofL (decL n))) ∧ w' = w := by
  by_cases h : n < 0
  · have hR := hid (show decL n = 45 :: dgs n.natAbs from if_pos h)
    have hz : (ofL (dgs n.natAbs)).size ≤ 20 := by rw [ofL_size]; exact dgs_len20 _ (by omega)
    have hap : (ByteArray.mk #[45]) ++ ofL (dgs n.natAbs) = ofL (45 :: dgs n.natAbs) := by apply ByteArray.ext; simp [ofL]
    have hn : Hid (-n = ((n.natAbs : Nat) : Int)) := by show _ = _; omega
    go_enter Try.func23, Try.ntmps23
    go_wp2_with fail
    rw [hn.out]
    refine (decimal_nat n.natAbs (by omega) _).mono ?_
    rintro e w1 ⟨rfl, rfl⟩
    go_wp2
    go_ret
    exact ⟨by rw [hR.out]; rfl, rfl⟩
  · have e : n = ((n.natAbs : Nat) : Int) := by omega
    have hR : decL n = dgs n.natAbs := if_neg h
    rw [hR]
    have := decimal_nat n.natAbs (by omega) w
    rw [← e] at this
    exact this

set_option maxRecDepth 100000 in
set_option maxHeartbeats 2000000 in
theorem token_any (d : List UInt8) (size power n : Int) (w : World) (hd : d.length ≤ 1000) (hn : power - size + 1 = n) (h1 : -10000 ≤ n) (h2 : n ≤ 10000) (h3 : -100000 ≤ size) (h4 : size ≤ 100000) :
    Calls Try.prog 20 #[.string (ofL d), .int .i64 size, .int .i64 power] w fun e w' => e = .returned (.string (ofL (d ++ 101 :: decL n))) ∧ w' = w := by
  have hz := ofL_size d
  have hl := decL_len n h1 h2
  have hz2 := ofL_size (decL n)
  have ha1 : ofL d ++ (ByteArray.mk #[101]) = ofL (d ++ [101]) := by apply ByteArray.ext; simp [ofL]
  have hz3 : (ofL (d ++ [101])).size = d.length + 1 := by rw [ofL_size]; simp
  have ha2 : ofL (d ++ [101]) ++ ofL (decL n) = ofL (d ++ 101 :: decL n) := by apply ByteArray.ext; simp [ofL]
  have HN := hid hn
  clear hn
  have hb : -200000 ≤ power ∧ power ≤ 200000 := by have := HN.out; omega
  go_enter Try.func20, Try.ntmps20
  go_wp2_with fail
  rw [HN.out]
  refine (decimal_int n h1 h2 _).mono ?_
  rintro e w1 ⟨rfl, rfl⟩
  go_wp2
  go_ret
  exact ⟨rfl, rfl⟩

set_option maxRecDepth 100000 in
set_option maxHeartbeats 2000000 in
theorem finite_is (N M : Int) (b : Bool) (e : Int.tmod N 9223372036854775808 = M) (hd : decide (M < 9218868437227405312) = b) (w : World) :
    Calls Try.prog 16 #[.int .u64 N] w fun e w' => e = .returned (.bool b) ∧ w' = w := by
  cases b
  · go_enter Try.func16, Try.ntmps16
    go_wp2
    go_ret
    exact ⟨rfl, rfl⟩
  · go_enter Try.func16, Try.ntmps16
    go_wp2
    go_ret
    exact ⟨rfl, rfl⟩
end Go.Proofs.Ytmkkibaacclhnaa
