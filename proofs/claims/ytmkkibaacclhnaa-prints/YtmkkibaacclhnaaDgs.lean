/-
  A step of the walk of the numbers, the part named Dgs. No theorem of the row.
-/
import Derived.Test.YtmkkibaacclhnaaRep
import Derived.Test.YtmkkibaacclhnaaShort
namespace Go.Proofs.Ytmkkibaacclhnaa
open Go.RowKit

/-- a whole number in digits -/
def dgs (n : Nat) : List UInt8 := if n < 10 then [UInt8.ofNat (48 + n)] else dgs (n / 10) ++ [UInt8.ofNat (48 + n % 10)]
termination_by n
decreasing_by omega

theorem dgs_lt {n : Nat} (h : n < 10) : dgs n = [UInt8.ofNat (48 + n)] := by rw [dgs, if_pos h]
theorem dgs_ge {n : Nat} (h : ¬ n < 10) : dgs n = dgs (n / 10) ++ [UInt8.ofNat (48 + n % 10)] := by rw [dgs, if_neg h]

theorem dgs_len (n j : Nat) (h : n < 10 * 10 ^ j) : (dgs n).length ≤ j + 1 := by
  induction j generalizing n with
  | zero => rw [dgs_lt (by simpa using h)]; simp
  | succ j ih =>
    by_cases h10 : n < 10
    · rw [dgs_lt h10]; simp
    · rw [dgs_ge h10, List.length_append]
      have := ih (n / 10) (by rw [Nat.pow_succ] at h; omega)
      simp; omega
theorem dgs_len20 (n : Nat) (h : n < 18446744073709551616) : (dgs n).length ≤ 20 := dgs_len n 19 (by omega)
theorem dgs_pos (n : Nat) : 0 < (dgs n).length := by
  by_cases h10 : n < 10
  · rw [dgs_lt h10]; simp
  · rw [dgs_ge h10, List.length_append]; simp

theorem ofNat_dig (m : Nat) : ((UInt8.ofNat (48 + m % 10)).toNat : Int) = 48 + (m : Int) % 10 := by
  rw [UInt8.toNat_ofNat_of_lt' (by show _ < 256; omega)]; omega
theorem dg_set {xs : List Value} {j : Nat} {v : Value} (hl : xs.length = 20) (hj : j < 20) : (xs.set j v).drop j = v :: xs.drop (j + 1) := by
  apply List.ext_getElem?
  intro i
  rw [List.getElem?_drop]
  cases i with
  | zero => rw [Nat.add_zero, List.getElem?_set_self (by omega)]; rfl
  | succ i => rw [List.getElem?_set_ne (by omega), List.getElem?_cons_succ, List.getElem?_drop]; congr 1; omega

theorem strOf_nums (l : List UInt8) : strOfNums (l.map (fun c => ((c.toNat : Nat) : Int))) = ofL l := by
  unfold strOfNums ofL
  rw [List.map_map, show ((fun n : Int => UInt8.ofNat n.toNat) ∘ fun c : UInt8 => ((c.toNat : Nat) : Int)) = id from by funext c; simp, List.map_id]

theorem digitsOf_conv {w : World} {B j m : Nat} {ds : List UInt8} {xs : List Value} (hj : j < 20) (hm : m < 10) (hl : xs.length = 20) (hd : xs.drop (j + 1) = ds.map (fun c => Value.int .u8 (c.toNat : Nat)))
    (ho : w.ownsRow 0 117 1 (.slice (some ⟨B, 0, none⟩) 20 20) 20 (xs.set j (.int .u8 (48 + (m : Int) % 10)))) :
    (convert 52 9 (.slice (some ⟨B, j, none⟩) (20 - j) (20 - j))).run Try.prog w = .ok (.string (ofL ([UInt8.ofNat (48 + m)] ++ ds))) w := by
  have hlen : ds.length = 19 - j := by have := congrArg List.length hd; simp [hl] at this; omega
  have e := dg_set (v := .int .u8 (48 + (m : Int) % 10)) hl hj
  have hm' := ofNat_dig m
  rw [Nat.mod_eq_of_lt hm] at hm'
  have e2 : (xs.set j (.int .u8 (48 + (m : Int) % 10))).drop j = ((UInt8.ofNat (48 + m) :: ds).map (fun c => Value.int .u8 (c.toNat : Nat))) := by
    rw [e, hd, List.map_cons, hm']
  have := run_convert_bytes_arg (P := Try.prog) w 52 5 Try.underlying52 Try.underlying5 B j (20 - j) (20 - j) ((UInt8.ofNat (48 + m) :: ds).map (fun c => ((c.toNat : Nat) : Int))) (by simp [hlen]; omega) (by
    intro i hi
    show w.cell? _ = _
    rw [ho.cellAt (j + i) (by omega), ← List.getElem?_drop, e2]
    have hi' : i < (UInt8.ofNat (48 + m) :: ds).length := by simp [hlen]; omega
    generalize UInt8.ofNat (48 + m) :: ds = l at hi'
    simp [List.getD, List.getElem?_eq_getElem hi']) 9 Try.underlying9
  rw [this, strOf_nums]
  rfl

set_option maxRecDepth 100000 in
theorem digitsOf_slice (B j : Nat) (hj : j < 20) (W : World) : (Instr.sliceAt 117 (.pointer (some ⟨B, 0, none⟩)) (some (.int .i64 (j : Int))) none none).run Try.prog W = .ok (.slice (some ⟨B, j, none⟩) (20 - j) (20 - j)) W := by
  have hal : Try.prog.arrayLen 117 = 20 := rfl
  rw [run_sliceAt_array_l (P := Try.prog) W 117 ⟨B, 0, none⟩ Try.underlying117 .i64 (j : Int) (by omega) (by rw [hal]; omega), hal]
  rw [show (sizeOf (Try.prog.elem 117)).run Try.prog W = .ok 1 W from rfl]
  simp only [Result.andThen_ok, slicedAt]
  rw [if_neg (by omega)]
  simp [Addr.add]
  omega

set_option maxRecDepth 100000 in
set_option maxHeartbeats 2000000 in
theorem digitsOf_any (n : Nat) (w : World) (hn : n < 18446744073709551616) :
    Calls Try.prog 55 #[.int .u64 n] w fun e w' => e = .returned (.string (ofL (dgs n))) ∧ Fr (fun _ => False) w w' := by
  go_enter Try.func55, Try.ntmps55
  go_wp2
  go_loopw [0, 4] (fun nv av wr => ∃ (j m : Nat) (ds : List UInt8) (xs : List Value), j < 20 ∧ Hid (m < 10 * 10 ^ j) ∧ m < 18446744073709551616 ∧ Hid (dgs n = dgs m ++ ds) ∧ nv = .int .u64 m ∧ av = .int .i64 ((j + 1 : Nat) : Int) ∧
      Hid (xs.length = 20 ∧ xs.drop (j + 1) = ds.map (fun c => Value.int .u8 (c.toNat : Nat))) ∧ wr.ownsRow 0 117 1 (.slice (some ⟨w.heap.size, 0, none⟩) 20 20) 20 xs ∧ Fr (fun _ => False) w wr)
    (fun _ av _ => (intOf av).toNat)
  case atStart => exact ⟨19, n, [], _, by omega, hid (by omega), hn, hid (by simp), rfl, rfl, hid ⟨rfl, rfl⟩, ⟨rfl, .inr ⟨_, _, _, rfl, Nat.zero_le _, heap_alloc_new _ _, by omega, by decide, rfl, rfl⟩⟩, (Fr.refl _ _).alloc _⟩
  case round =>
    obtain ⟨j, m, ds, xs, hj, hm, hm64, hE, rfl, rfl, hX, ho, hF⟩ := hrel
    have hxl := hX.out.1
    have hcx : wr.cell? ⟨w.heap.size, j, none⟩ = some xs[j] := by rw [ho.cellAt j (by omega), List.getElem?_eq_getElem (by omega)]
    have hfx := ho.frozenAt j
    by_cases hm10 : m < 10
    · have hd0 : (m : Int) / 10 = 0 := by omega
      have hsl := digitsOf_slice w.heap.size j hj
      have hst := (ho.stored j (.int .u8 (48 + (m : Int) % 10))).1
      have hstF := hF.setCell (p := ⟨w.heap.size, j, none⟩) (.inr (Nat.le_refl _)) (.int .u8 (48 + (m : Int) % 10))
      have hr := digitsOf_conv (xs := xs) hj hm10 (hX.out.1) (hX.out.2) hst
      rw [← dgs_lt hm10, ← hE.out] at hr
      have HE := hid hE
      clear hX ho hF hst hE
      go_wp2
      go_ret
      exact ⟨rfl, hstF⟩
    · have hd0 : (((m : Int) / 10) == 0) = false := beq_eq_false_iff_ne.2 (by omega)
      go_wp2
      go_roundw
      case rel =>
        cases j with
        | zero => have := hm.out; omega
        | succ j =>
          refine ⟨j, m / 10, UInt8.ofNat (48 + m % 10) :: ds, xs.set (j + 1) (.int .u8 (48 + (m : Int) % 10)), by omega, hid ?_, by omega, hid ?_, by go_num, rfl, hid ⟨?_, ?_⟩, (ho.stored (j + 1) _).1, hF.setCell (.inr (Nat.le_refl _)) _⟩
          · have := hm.out; rw [Nat.pow_succ] at this; omega
          · rw [hE.out, dgs_ge hm10]; simp
          · simp [hxl]
          · rw [dg_set hxl hj, hX.out.2]; rw [List.map_cons, ofNat_dig]
      case measure => show ((j : Nat) : Int).toNat < ((j + 1 : Nat) : Int).toNat; omega
end Go.Proofs.Ytmkkibaacclhnaa
