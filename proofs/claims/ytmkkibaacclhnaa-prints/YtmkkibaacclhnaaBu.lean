/-
  A step of the walk of the numbers, the part named Bu: how the document's answer lays a number out. No theorem of the row.
-/
import Derived.Test.YtmkkibaacclhnaaBp
namespace Go.Proofs.Ytmkkibaacclhnaa
open Go.RowKit

theorem rdecimal_int (K : Int) (k : Nat) (hK : K = (k : Int)) (hk : k < 6000) (w : World) : Calls Try.prog 39 #[.int .i64 K] w fun e w' => e = .returned (.string (ofL (dgs k))) ∧ w' = w := by
  subst hK
  exact rdecimal_any k (by omega) w

set_option maxRecDepth 100000 in
set_option maxHeartbeats 4000000 in
theorem rprint_ap (BB : Int) (d : List UInt8) (x : Int) (w : World) (hneg : decide ((9223372036854775808 : Int) ≤ BB) = false) (hfin : decide ((9218868437227405312 : Int) ≤ BB) = false) (h0 : (BB == 0) = false)
    (hd0 : 0 < d.length) (hd : d.length ≤ 20) (hx1 : -5000 ≤ x) (hx2 : x ≤ 5000)
    (hS : ∀ w, Calls Try.prog 37 #[.int .u64 BB] w fun e w' => e = .returned (.tuple #[.string (ofL d), .int .i64 x]) ∧ Fr (fun _ => False) w w') (hc : 1 ≤ (d.length : Int) + x ∧ (d.length : Int) + x ≤ 21 ∧ 0 ≤ x) :
    Calls Try.prog 14 #[.int .u64 BB] w fun e w' => e = .returned (.tuple #[.string (ofL ([] ++ layL d x)), .int .i64 0]) ∧ Fr (fun _ => False) w w' := by
  have HS := hid hS
  have hxx := And.intro (And.intro hx1 hx2) (And.intro hd0 hd)
  clear hS hxx
  have hsz := ofL_size d
  obtain ⟨k, rfl⟩ : ∃ k : Nat, x = (k : Int) := ⟨x.toNat, by omega⟩
  have HR := hid (show layL d (k : Int) = d ++ List.replicate k 48 from by
    rw [layL, if_neg (by omega), if_neg (by omega), if_pos (by omega), show (k : Int).toNat = k by omega])
  have z1 : (ofL ([] ++ d)).size ≤ 40 := by rw [ofL_size]; simp; omega
  have z2 : (ofL (List.replicate k 48)).size = k := by rw [ofL_size]; simp
  have a1 : (ByteArray.mk #[]) ++ ofL d = ofL ([] ++ d) := by apply ByteArray.ext; simp [ofL]
  have z0 : ((ByteArray.mk #[]) ++ ofL d).size ≤ 40 := by rw [a1]; exact z1
  clear a1 z1
  obtain ⟨hc1, hc2, hc3⟩ := hc
  go_enter Try.func14, Try.ntmps14
  go_wp2_with fail
  refine (HS.out _).mono ?_
  rintro e w1 ⟨rfl, hF⟩
  have HF := hid hF
  clear hF
  go_wp2_with (go_at_call 38; refine (rnoughts_any k (by omega) _).mono ?_; rintro e w' ⟨rfl, rfl⟩)
  go_ret2
  refine ⟨congrArg (fun t => Ending.returned (Value.tuple #[Value.string t, .int .i64 0])) (?_ : _ = ofL ([] ++ layL d (k : Int))), HF.out⟩
  rw [HR.out]
  apply ByteArray.ext
  simp [ofL]

set_option maxRecDepth 100000 in
set_option maxHeartbeats 4000000 in
theorem rprint_an (BB MM : Int) (d : List UInt8) (x : Int) (w : World) (hneg : decide ((9223372036854775808 : Int) ≤ BB) = true) (hsub : IntKind.u64.wrap (BB - 9223372036854775808) = MM) (hfin : decide ((9218868437227405312 : Int) ≤ MM) = false) (h0 : (MM == 0) = false)
    (hd0 : 0 < d.length) (hd : d.length ≤ 20) (hx1 : -5000 ≤ x) (hx2 : x ≤ 5000)
    (hS : ∀ w, Calls Try.prog 37 #[.int .u64 MM] w fun e w' => e = .returned (.tuple #[.string (ofL d), .int .i64 x]) ∧ Fr (fun _ => False) w w') (hc : 1 ≤ (d.length : Int) + x ∧ (d.length : Int) + x ≤ 21 ∧ 0 ≤ x) :
    Calls Try.prog 14 #[.int .u64 BB] w fun e w' => e = .returned (.tuple #[.string (ofL ([45] ++ layL d x)), .int .i64 0]) ∧ Fr (fun _ => False) w w' := by
  have HS := hid hS
  have hxx := And.intro (And.intro hx1 hx2) (And.intro hd0 hd)
  clear hS hxx
  have hsz := ofL_size d
  obtain ⟨k, rfl⟩ : ∃ k : Nat, x = (k : Int) := ⟨x.toNat, by omega⟩
  have HR := hid (show layL d (k : Int) = d ++ List.replicate k 48 from by
    rw [layL, if_neg (by omega), if_neg (by omega), if_pos (by omega), show (k : Int).toNat = k by omega])
  have z1 : (ofL ([45] ++ d)).size ≤ 40 := by rw [ofL_size]; simp; omega
  have z2 : (ofL (List.replicate k 48)).size = k := by rw [ofL_size]; simp
  have a1 : (ByteArray.mk #[45]) ++ ofL d = ofL ([45] ++ d) := by apply ByteArray.ext; simp [ofL]
  have z0 : ((ByteArray.mk #[45]) ++ ofL d).size ≤ 40 := by rw [a1]; exact z1
  clear a1 z1
  obtain ⟨hc1, hc2, hc3⟩ := hc
  go_enter Try.func14, Try.ntmps14
  go_wp2_with fail
  refine (HS.out _).mono ?_
  rintro e w1 ⟨rfl, hF⟩
  have HF := hid hF
  clear hF
  go_wp2_with (go_at_call 38; refine (rnoughts_any k (by omega) _).mono ?_; rintro e w' ⟨rfl, rfl⟩)
  go_ret2
  refine ⟨congrArg (fun t => Ending.returned (Value.tuple #[Value.string t, .int .i64 0])) (?_ : _ = ofL ([45] ++ layL d (k : Int))), HF.out⟩
  rw [HR.out]
  apply ByteArray.ext
  simp [ofL]

set_option maxRecDepth 100000 in
set_option maxHeartbeats 4000000 in
theorem rprint_bp (BB : Int) (d : List UInt8) (x : Int) (w : World) (hneg : decide ((9223372036854775808 : Int) ≤ BB) = false) (hfin : decide ((9218868437227405312 : Int) ≤ BB) = false) (h0 : (BB == 0) = false)
    (hd0 : 0 < d.length) (hd : d.length ≤ 20) (hx1 : -5000 ≤ x) (hx2 : x ≤ 5000)
    (hS : ∀ w, Calls Try.prog 37 #[.int .u64 BB] w fun e w' => e = .returned (.tuple #[.string (ofL d), .int .i64 x]) ∧ Fr (fun _ => False) w w') (hc : 1 ≤ (d.length : Int) + x ∧ (d.length : Int) + x ≤ 21 ∧ x < 0) :
    Calls Try.prog 14 #[.int .u64 BB] w fun e w' => e = .returned (.tuple #[.string (ofL ([] ++ layL d x)), .int .i64 0]) ∧ Fr (fun _ => False) w w' := by
  have HS := hid hS
  have hxx := And.intro (And.intro hx1 hx2) (And.intro hd0 hd)
  clear hS hxx
  have hsz := ofL_size d
  obtain ⟨q, hq⟩ : ∃ q : Nat, (d.length : Int) + x = q := ⟨((d.length : Int) + x).toNat, by omega⟩
  have HR := hid (show layL d x = d.take q ++ [46] ++ d.drop q from by
    rw [layL, if_neg (by omega), if_neg (by omega), if_neg (by omega), hq]; rfl)
  have e1 : (ofL d).extract 0 q = ofL (d.take q) := by rw [ofL_extract, List.drop_zero]
  have e2 : (ofL d).extract q d.length = ofL (d.drop q) := by rw [ofL_extract, List.take_length]
  have z1 : (ofL ([] ++ d.take q)).size ≤ 40 := by rw [ofL_size]; simp; omega
  have z2 : (ofL ([] ++ d.take q ++ [46])).size ≤ 60 := by rw [ofL_size]; simp; omega
  have z3 : (ofL (d.take q)).size ≤ 20 := by rw [ofL_size]; simp; omega
  have z4 : (ofL (d.drop q)).size ≤ 20 := by rw [ofL_size]; simp; omega
  have a1 : (ByteArray.mk #[]) ++ ofL (d.take q) = ofL ([] ++ d.take q) := by apply ByteArray.ext; simp [ofL]
  have y0 : ((ByteArray.mk #[]) ++ ofL (d.take q)).size ≤ 40 := by rw [a1]; exact z1
  have a2 : ofL ([] ++ d.take q) ++ (ByteArray.mk #[46]) = ofL ([] ++ d.take q ++ [46]) := by apply ByteArray.ext; simp [ofL]
  have a3 : ofL ([] ++ d.take q ++ [46]) ++ ofL (d.drop q) = ofL ([] ++ d.take q ++ [46] ++ d.drop q) := ofL_append _ _
  obtain ⟨hc1, hc2, hc3⟩ := hc
  have y1 : ((ByteArray.mk #[]) ++ ofL (d.take q) ++ (ByteArray.mk #[46])).size ≤ 60 := by rw [a1, a2]; exact z2
  clear a1 a2 a3 z1 z2
  have hql : q ≤ d.length := by omega
  go_enter Try.func14, Try.ntmps14
  go_wp2_with fail
  refine (HS.out _).mono ?_
  rintro e w1 ⟨rfl, hF⟩
  have HF := hid hF
  clear hF
  go_wp2_with fail
  go_region
  all_goals
    go_wp2
    go_ret2
    refine ⟨congrArg (fun t => Ending.returned (Value.tuple #[Value.string t, .int .i64 0])) (?_ : _ = ofL ([] ++ layL d x)), HF.out.drew⟩
    rw [HR.out]
    apply ByteArray.ext
    simp [ofL]

set_option maxRecDepth 100000 in
set_option maxHeartbeats 4000000 in
theorem rprint_bn (BB MM : Int) (d : List UInt8) (x : Int) (w : World) (hneg : decide ((9223372036854775808 : Int) ≤ BB) = true) (hsub : IntKind.u64.wrap (BB - 9223372036854775808) = MM) (hfin : decide ((9218868437227405312 : Int) ≤ MM) = false) (h0 : (MM == 0) = false)
    (hd0 : 0 < d.length) (hd : d.length ≤ 20) (hx1 : -5000 ≤ x) (hx2 : x ≤ 5000)
    (hS : ∀ w, Calls Try.prog 37 #[.int .u64 MM] w fun e w' => e = .returned (.tuple #[.string (ofL d), .int .i64 x]) ∧ Fr (fun _ => False) w w') (hc : 1 ≤ (d.length : Int) + x ∧ (d.length : Int) + x ≤ 21 ∧ x < 0) :
    Calls Try.prog 14 #[.int .u64 BB] w fun e w' => e = .returned (.tuple #[.string (ofL ([45] ++ layL d x)), .int .i64 0]) ∧ Fr (fun _ => False) w w' := by
  have HS := hid hS
  have hxx := And.intro (And.intro hx1 hx2) (And.intro hd0 hd)
  clear hS hxx
  have hsz := ofL_size d
  obtain ⟨q, hq⟩ : ∃ q : Nat, (d.length : Int) + x = q := ⟨((d.length : Int) + x).toNat, by omega⟩
  have HR := hid (show layL d x = d.take q ++ [46] ++ d.drop q from by
    rw [layL, if_neg (by omega), if_neg (by omega), if_neg (by omega), hq]; rfl)
  have e1 : (ofL d).extract 0 q = ofL (d.take q) := by rw [ofL_extract, List.drop_zero]
  have e2 : (ofL d).extract q d.length = ofL (d.drop q) := by rw [ofL_extract, List.take_length]
  have z1 : (ofL ([45] ++ d.take q)).size ≤ 40 := by rw [ofL_size]; simp; omega
  have z2 : (ofL ([45] ++ d.take q ++ [46])).size ≤ 60 := by rw [ofL_size]; simp; omega
  have z3 : (ofL (d.take q)).size ≤ 20 := by rw [ofL_size]; simp; omega
  have z4 : (ofL (d.drop q)).size ≤ 20 := by rw [ofL_size]; simp; omega
  have a1 : (ByteArray.mk #[45]) ++ ofL (d.take q) = ofL ([45] ++ d.take q) := by apply ByteArray.ext; simp [ofL]
  have y0 : ((ByteArray.mk #[45]) ++ ofL (d.take q)).size ≤ 40 := by rw [a1]; exact z1
  have a2 : ofL ([45] ++ d.take q) ++ (ByteArray.mk #[46]) = ofL ([45] ++ d.take q ++ [46]) := by apply ByteArray.ext; simp [ofL]
  have a3 : ofL ([45] ++ d.take q ++ [46]) ++ ofL (d.drop q) = ofL ([45] ++ d.take q ++ [46] ++ d.drop q) := ofL_append _ _
  obtain ⟨hc1, hc2, hc3⟩ := hc
  have y1 : ((ByteArray.mk #[45]) ++ ofL (d.take q) ++ (ByteArray.mk #[46])).size ≤ 60 := by rw [a1, a2]; exact z2
  clear a1 a2 a3 z1 z2
  have hql : q ≤ d.length := by omega
  go_enter Try.func14, Try.ntmps14
  go_wp2_with fail
  refine (HS.out _).mono ?_
  rintro e w1 ⟨rfl, hF⟩
  have HF := hid hF
  clear hF
  go_wp2_with fail
  go_region
  all_goals
    go_wp2
    go_ret2
    refine ⟨congrArg (fun t => Ending.returned (Value.tuple #[Value.string t, .int .i64 0])) (?_ : _ = ofL ([45] ++ layL d x)), HF.out.drew⟩
    rw [HR.out]
    apply ByteArray.ext
    simp [ofL]

set_option maxRecDepth 100000 in
set_option maxHeartbeats 4000000 in
theorem rprint_cp (BB : Int) (d : List UInt8) (x : Int) (w : World) (hneg : decide ((9223372036854775808 : Int) ≤ BB) = false) (hfin : decide ((9218868437227405312 : Int) ≤ BB) = false) (h0 : (BB == 0) = false)
    (hd0 : 0 < d.length) (hd : d.length ≤ 20) (hx1 : -5000 ≤ x) (hx2 : x ≤ 5000)
    (hS : ∀ w, Calls Try.prog 37 #[.int .u64 BB] w fun e w' => e = .returned (.tuple #[.string (ofL d), .int .i64 x]) ∧ Fr (fun _ => False) w w') (hc : -5 ≤ (d.length : Int) + x ∧ (d.length : Int) + x ≤ 0) :
    Calls Try.prog 14 #[.int .u64 BB] w fun e w' => e = .returned (.tuple #[.string (ofL ([] ++ layL d x)), .int .i64 0]) ∧ Fr (fun _ => False) w w' := by
  have HS := hid hS
  have hxx := And.intro (And.intro hx1 hx2) (And.intro hd0 hd)
  clear hS hxx
  have hsz := ofL_size d
  obtain ⟨k, hk⟩ : ∃ k : Nat, -((d.length : Int) + x) = k := ⟨(-((d.length : Int) + x)).toNat, by omega⟩
  have HR := hid (show layL d x = [48, 46] ++ List.replicate k 48 ++ d from by
    rw [layL, if_neg (by omega), if_pos (by omega), hk]; rfl)
  have z2 : (ofL (List.replicate k 48)).size = k := by rw [ofL_size]; simp
  have z3 : (ofL ([] ++ [48, 46] ++ List.replicate k 48)).size ≤ 60 := by rw [ofL_size]; simp; omega
  have a2 : ofL ([] ++ [48, 46]) ++ ofL (List.replicate k 48) = ofL ([] ++ [48, 46] ++ List.replicate k 48) := ofL_append _ _
  have a3 : ofL ([] ++ [48, 46] ++ List.replicate k 48) ++ ofL d = ofL ([] ++ [48, 46] ++ List.replicate k 48 ++ d) := ofL_append _ _
  have HK := hid hk
  have hkb : k ≤ 5 := by omega
  obtain ⟨hc1, hc2⟩ := hc
  clear hk
  go_enter Try.func14, Try.ntmps14
  go_wp2_with fail
  refine (HS.out _).mono ?_
  rintro e w1 ⟨rfl, hF⟩
  have HF := hid hF
  clear hF
  go_wp2_with (go_at_call 38; rw [HK.out]; refine (rnoughts_any k (by omega) _).mono ?_; rintro e w' ⟨rfl, rfl⟩)
  go_ret2
  refine ⟨congrArg (fun t => Ending.returned (Value.tuple #[Value.string t, .int .i64 0])) (?_ : _ = ofL ([] ++ layL d x)), HF.out⟩
  rw [HR.out]
  apply ByteArray.ext
  simp [ofL]

set_option maxRecDepth 100000 in
set_option maxHeartbeats 4000000 in
theorem rprint_cn (BB MM : Int) (d : List UInt8) (x : Int) (w : World) (hneg : decide ((9223372036854775808 : Int) ≤ BB) = true) (hsub : IntKind.u64.wrap (BB - 9223372036854775808) = MM) (hfin : decide ((9218868437227405312 : Int) ≤ MM) = false) (h0 : (MM == 0) = false)
    (hd0 : 0 < d.length) (hd : d.length ≤ 20) (hx1 : -5000 ≤ x) (hx2 : x ≤ 5000)
    (hS : ∀ w, Calls Try.prog 37 #[.int .u64 MM] w fun e w' => e = .returned (.tuple #[.string (ofL d), .int .i64 x]) ∧ Fr (fun _ => False) w w') (hc : -5 ≤ (d.length : Int) + x ∧ (d.length : Int) + x ≤ 0) :
    Calls Try.prog 14 #[.int .u64 BB] w fun e w' => e = .returned (.tuple #[.string (ofL ([45] ++ layL d x)), .int .i64 0]) ∧ Fr (fun _ => False) w w' := by
  have HS := hid hS
  have hxx := And.intro (And.intro hx1 hx2) (And.intro hd0 hd)
  clear hS hxx
  have hsz := ofL_size d
  obtain ⟨k, hk⟩ : ∃ k : Nat, -((d.length : Int) + x) = k := ⟨(-((d.length : Int) + x)).toNat, by omega⟩
  have HR := hid (show layL d x = [48, 46] ++ List.replicate k 48 ++ d from by
    rw [layL, if_neg (by omega), if_pos (by omega), hk]; rfl)
  have z2 : (ofL (List.replicate k 48)).size = k := by rw [ofL_size]; simp
  have z3 : (ofL ([45] ++ [48, 46] ++ List.replicate k 48)).size ≤ 60 := by rw [ofL_size]; simp; omega
  have a2 : ofL ([45] ++ [48, 46]) ++ ofL (List.replicate k 48) = ofL ([45] ++ [48, 46] ++ List.replicate k 48) := ofL_append _ _
  have a3 : ofL ([45] ++ [48, 46] ++ List.replicate k 48) ++ ofL d = ofL ([45] ++ [48, 46] ++ List.replicate k 48 ++ d) := ofL_append _ _
  have HK := hid hk
  have hkb : k ≤ 5 := by omega
  obtain ⟨hc1, hc2⟩ := hc
  clear hk
  go_enter Try.func14, Try.ntmps14
  go_wp2_with fail
  refine (HS.out _).mono ?_
  rintro e w1 ⟨rfl, hF⟩
  have HF := hid hF
  clear hF
  go_wp2_with (go_at_call 38; rw [HK.out]; refine (rnoughts_any k (by omega) _).mono ?_; rintro e w' ⟨rfl, rfl⟩)
  go_ret2
  refine ⟨congrArg (fun t => Ending.returned (Value.tuple #[Value.string t, .int .i64 0])) (?_ : _ = ofL ([45] ++ layL d x)), HF.out⟩
  rw [HR.out]
  apply ByteArray.ext
  simp [ofL]

set_option maxRecDepth 100000 in
set_option maxHeartbeats 4000000 in
theorem rprint_ep (BB : Int) (d : List UInt8) (x : Int) (w : World) (hneg : decide ((9223372036854775808 : Int) ≤ BB) = false) (hfin : decide ((9218868437227405312 : Int) ≤ BB) = false) (h0 : (BB == 0) = false)
    (hd0 : 0 < d.length) (hd : d.length ≤ 20) (hx1 : -5000 ≤ x) (hx2 : x ≤ 5000)
    (hS : ∀ w, Calls Try.prog 37 #[.int .u64 BB] w fun e w' => e = .returned (.tuple #[.string (ofL d), .int .i64 x]) ∧ Fr (fun _ => False) w w') (hc : (d.length : Int) + x < -5 ∧ 1 < d.length) :
    Calls Try.prog 14 #[.int .u64 BB] w fun e w' => e = .returned (.tuple #[.string (ofL ([] ++ layL d x)), .int .i64 0]) ∧ Fr (fun _ => False) w w' := by
  have HS := hid hS
  have hxx := And.intro (And.intro hx1 hx2) (And.intro hd0 hd)
  clear hS hxx
  have hsz := ofL_size d
  obtain ⟨k, hk⟩ : ∃ k : Nat, 1 - ((d.length : Int) + x) = k := ⟨(1 - ((d.length : Int) + x)).toNat, by omega⟩
  have hkk : k < 6000 := by omega
  have HR := hid (show layL d x = d.take 1 ++ (46 :: d.drop 1) ++ ([101, 45] ++ dgs k) from by
    rw [layL, if_pos (by omega), expL, if_pos (by omega), if_pos (by omega)]
    rw [show (-((d.length : Int) + x - 1)).toNat = k by omega])
  have e1 : (ofL d).extract 0 1 = ofL (d.take 1) := by rw [ofL_extract, List.drop_zero]
  have e2 : (ofL d).extract 1 d.length = ofL (d.drop 1) := by rw [ofL_extract, List.take_length]
  have z3 : (ofL (d.take 1)).size ≤ 20 := by rw [ofL_size]; simp; omega
  have z4 : (ofL d.tail).size ≤ 20 := by rw [ofL_size, List.length_tail]; omega
  have z5 : (ofL (dgs k)).size ≤ 20 := by rw [ofL_size]; exact dgs_len20 k (by omega)
  have HK := hid hk
  obtain ⟨hc1, hc2⟩ := hc
  clear hk
  go_enter Try.func14, Try.ntmps14
  go_wp2_with fail
  refine (HS.out _).mono ?_
  rintro e w1 ⟨rfl, hF⟩
  have HF := hid hF
  clear hF
  go_wp2_with (go_at_call 39; refine (rdecimal_int _ k (by have := HK.out; omega) (by omega) _).mono ?_; rintro e w' ⟨rfl, rfl⟩)
  go_ret2
  refine ⟨congrArg (fun t => Ending.returned (Value.tuple #[Value.string t, .int .i64 0])) (?_ : _ = ofL ([] ++ layL d x)), HF.out⟩
  rw [HR.out]
  apply ByteArray.ext
  simp [ofL]

set_option maxRecDepth 100000 in
set_option maxHeartbeats 4000000 in
theorem rprint_en (BB MM : Int) (d : List UInt8) (x : Int) (w : World) (hneg : decide ((9223372036854775808 : Int) ≤ BB) = true) (hsub : IntKind.u64.wrap (BB - 9223372036854775808) = MM) (hfin : decide ((9218868437227405312 : Int) ≤ MM) = false) (h0 : (MM == 0) = false)
    (hd0 : 0 < d.length) (hd : d.length ≤ 20) (hx1 : -5000 ≤ x) (hx2 : x ≤ 5000)
    (hS : ∀ w, Calls Try.prog 37 #[.int .u64 MM] w fun e w' => e = .returned (.tuple #[.string (ofL d), .int .i64 x]) ∧ Fr (fun _ => False) w w') (hc : (d.length : Int) + x < -5 ∧ 1 < d.length) :
    Calls Try.prog 14 #[.int .u64 BB] w fun e w' => e = .returned (.tuple #[.string (ofL ([45] ++ layL d x)), .int .i64 0]) ∧ Fr (fun _ => False) w w' := by
  have HS := hid hS
  have hxx := And.intro (And.intro hx1 hx2) (And.intro hd0 hd)
  clear hS hxx
  have hsz := ofL_size d
  obtain ⟨k, hk⟩ : ∃ k : Nat, 1 - ((d.length : Int) + x) = k := ⟨(1 - ((d.length : Int) + x)).toNat, by omega⟩
  have hkk : k < 6000 := by omega
  have HR := hid (show layL d x = d.take 1 ++ (46 :: d.drop 1) ++ ([101, 45] ++ dgs k) from by
    rw [layL, if_pos (by omega), expL, if_pos (by omega), if_pos (by omega)]
    rw [show (-((d.length : Int) + x - 1)).toNat = k by omega])
  have e1 : (ofL d).extract 0 1 = ofL (d.take 1) := by rw [ofL_extract, List.drop_zero]
  have e2 : (ofL d).extract 1 d.length = ofL (d.drop 1) := by rw [ofL_extract, List.take_length]
  have z3 : (ofL (d.take 1)).size ≤ 20 := by rw [ofL_size]; simp; omega
  have z4 : (ofL d.tail).size ≤ 20 := by rw [ofL_size, List.length_tail]; omega
  have z5 : (ofL (dgs k)).size ≤ 20 := by rw [ofL_size]; exact dgs_len20 k (by omega)
  have HK := hid hk
  obtain ⟨hc1, hc2⟩ := hc
  clear hk
  go_enter Try.func14, Try.ntmps14
  go_wp2_with fail
  refine (HS.out _).mono ?_
  rintro e w1 ⟨rfl, hF⟩
  have HF := hid hF
  clear hF
  go_wp2_with (go_at_call 39; refine (rdecimal_int _ k (by have := HK.out; omega) (by omega) _).mono ?_; rintro e w' ⟨rfl, rfl⟩)
  go_ret2
  refine ⟨congrArg (fun t => Ending.returned (Value.tuple #[Value.string t, .int .i64 0])) (?_ : _ = ofL ([45] ++ layL d x)), HF.out⟩
  rw [HR.out]
  apply ByteArray.ext
  simp [ofL]

set_option maxRecDepth 100000 in
set_option maxHeartbeats 4000000 in
theorem rprint_fp (BB : Int) (d : List UInt8) (x : Int) (w : World) (hneg : decide ((9223372036854775808 : Int) ≤ BB) = false) (hfin : decide ((9218868437227405312 : Int) ≤ BB) = false) (h0 : (BB == 0) = false)
    (hd0 : 0 < d.length) (hd : d.length ≤ 20) (hx1 : -5000 ≤ x) (hx2 : x ≤ 5000)
    (hS : ∀ w, Calls Try.prog 37 #[.int .u64 BB] w fun e w' => e = .returned (.tuple #[.string (ofL d), .int .i64 x]) ∧ Fr (fun _ => False) w w') (hc : (d.length : Int) + x < -5 ∧ d.length = 1) :
    Calls Try.prog 14 #[.int .u64 BB] w fun e w' => e = .returned (.tuple #[.string (ofL ([] ++ layL d x)), .int .i64 0]) ∧ Fr (fun _ => False) w w' := by
  have HS := hid hS
  have hxx := And.intro (And.intro hx1 hx2) (And.intro hd0 hd)
  clear hS hxx
  have hsz := ofL_size d
  obtain ⟨k, hk⟩ : ∃ k : Nat, 1 - ((d.length : Int) + x) = k := ⟨(1 - ((d.length : Int) + x)).toNat, by omega⟩
  have hkk : k < 6000 := by omega
  have HR := hid (show layL d x = d.take 1 ++ [] ++ ([101, 45] ++ dgs k) from by
    rw [layL, if_pos (by omega), expL, if_neg (by omega), if_pos (by omega)]
    rw [show (-((d.length : Int) + x - 1)).toNat = k by omega])
  have e1 : (ofL d).extract 0 1 = ofL (d.take 1) := by rw [ofL_extract, List.drop_zero]
  have e2 : (ofL d).extract 1 d.length = ofL (d.drop 1) := by rw [ofL_extract, List.take_length]
  have z3 : (ofL (d.take 1)).size ≤ 20 := by rw [ofL_size]; simp; omega
  have z4 : (ofL d.tail).size ≤ 20 := by rw [ofL_size, List.length_tail]; omega
  have z5 : (ofL (dgs k)).size ≤ 20 := by rw [ofL_size]; exact dgs_len20 k (by omega)
  have HK := hid hk
  obtain ⟨hc1, hc2⟩ := hc
  clear hk
  go_enter Try.func14, Try.ntmps14
  go_wp2_with fail
  refine (HS.out _).mono ?_
  rintro e w1 ⟨rfl, hF⟩
  have HF := hid hF
  clear hF
  go_wp2_with (go_at_call 39; refine (rdecimal_int _ k (by have := HK.out; omega) (by omega) _).mono ?_; rintro e w' ⟨rfl, rfl⟩)
  go_ret2
  refine ⟨congrArg (fun t => Ending.returned (Value.tuple #[Value.string t, .int .i64 0])) (?_ : _ = ofL ([] ++ layL d x)), HF.out⟩
  rw [HR.out]
  apply ByteArray.ext
  simp [ofL]

set_option maxRecDepth 100000 in
set_option maxHeartbeats 4000000 in
theorem rprint_fn (BB MM : Int) (d : List UInt8) (x : Int) (w : World) (hneg : decide ((9223372036854775808 : Int) ≤ BB) = true) (hsub : IntKind.u64.wrap (BB - 9223372036854775808) = MM) (hfin : decide ((9218868437227405312 : Int) ≤ MM) = false) (h0 : (MM == 0) = false)
    (hd0 : 0 < d.length) (hd : d.length ≤ 20) (hx1 : -5000 ≤ x) (hx2 : x ≤ 5000)
    (hS : ∀ w, Calls Try.prog 37 #[.int .u64 MM] w fun e w' => e = .returned (.tuple #[.string (ofL d), .int .i64 x]) ∧ Fr (fun _ => False) w w') (hc : (d.length : Int) + x < -5 ∧ d.length = 1) :
    Calls Try.prog 14 #[.int .u64 BB] w fun e w' => e = .returned (.tuple #[.string (ofL ([45] ++ layL d x)), .int .i64 0]) ∧ Fr (fun _ => False) w w' := by
  have HS := hid hS
  have hxx := And.intro (And.intro hx1 hx2) (And.intro hd0 hd)
  clear hS hxx
  have hsz := ofL_size d
  obtain ⟨k, hk⟩ : ∃ k : Nat, 1 - ((d.length : Int) + x) = k := ⟨(1 - ((d.length : Int) + x)).toNat, by omega⟩
  have hkk : k < 6000 := by omega
  have HR := hid (show layL d x = d.take 1 ++ [] ++ ([101, 45] ++ dgs k) from by
    rw [layL, if_pos (by omega), expL, if_neg (by omega), if_pos (by omega)]
    rw [show (-((d.length : Int) + x - 1)).toNat = k by omega])
  have e1 : (ofL d).extract 0 1 = ofL (d.take 1) := by rw [ofL_extract, List.drop_zero]
  have e2 : (ofL d).extract 1 d.length = ofL (d.drop 1) := by rw [ofL_extract, List.take_length]
  have z3 : (ofL (d.take 1)).size ≤ 20 := by rw [ofL_size]; simp; omega
  have z4 : (ofL d.tail).size ≤ 20 := by rw [ofL_size, List.length_tail]; omega
  have z5 : (ofL (dgs k)).size ≤ 20 := by rw [ofL_size]; exact dgs_len20 k (by omega)
  have HK := hid hk
  obtain ⟨hc1, hc2⟩ := hc
  clear hk
  go_enter Try.func14, Try.ntmps14
  go_wp2_with fail
  refine (HS.out _).mono ?_
  rintro e w1 ⟨rfl, hF⟩
  have HF := hid hF
  clear hF
  go_wp2_with (go_at_call 39; refine (rdecimal_int _ k (by have := HK.out; omega) (by omega) _).mono ?_; rintro e w' ⟨rfl, rfl⟩)
  go_ret2
  refine ⟨congrArg (fun t => Ending.returned (Value.tuple #[Value.string t, .int .i64 0])) (?_ : _ = ofL ([45] ++ layL d x)), HF.out⟩
  rw [HR.out]
  apply ByteArray.ext
  simp [ofL]

set_option maxRecDepth 100000 in
set_option maxHeartbeats 4000000 in
theorem rprint_gp (BB : Int) (d : List UInt8) (x : Int) (w : World) (hneg : decide ((9223372036854775808 : Int) ≤ BB) = false) (hfin : decide ((9218868437227405312 : Int) ≤ BB) = false) (h0 : (BB == 0) = false)
    (hd0 : 0 < d.length) (hd : d.length ≤ 20) (hx1 : -5000 ≤ x) (hx2 : x ≤ 5000)
    (hS : ∀ w, Calls Try.prog 37 #[.int .u64 BB] w fun e w' => e = .returned (.tuple #[.string (ofL d), .int .i64 x]) ∧ Fr (fun _ => False) w w') (hc : 21 < (d.length : Int) + x ∧ 1 < d.length) :
    Calls Try.prog 14 #[.int .u64 BB] w fun e w' => e = .returned (.tuple #[.string (ofL ([] ++ layL d x)), .int .i64 0]) ∧ Fr (fun _ => False) w w' := by
  have HS := hid hS
  have hxx := And.intro (And.intro hx1 hx2) (And.intro hd0 hd)
  clear hS hxx
  have hsz := ofL_size d
  obtain ⟨k, hk⟩ : ∃ k : Nat, (d.length : Int) + x - 1 = k := ⟨((d.length : Int) + x - 1).toNat, by omega⟩
  have hkk : k < 6000 := by omega
  have HR := hid (show layL d x = d.take 1 ++ (46 :: d.drop 1) ++ ([101, 43] ++ dgs k) from by
    rw [layL, if_pos (by omega), expL, if_pos (by omega), if_neg (by omega)]
    rw [show ((d.length : Int) + x - 1).toNat = k by omega])
  have e1 : (ofL d).extract 0 1 = ofL (d.take 1) := by rw [ofL_extract, List.drop_zero]
  have e2 : (ofL d).extract 1 d.length = ofL (d.drop 1) := by rw [ofL_extract, List.take_length]
  have z3 : (ofL (d.take 1)).size ≤ 20 := by rw [ofL_size]; simp; omega
  have z4 : (ofL d.tail).size ≤ 20 := by rw [ofL_size, List.length_tail]; omega
  have z5 : (ofL (dgs k)).size ≤ 20 := by rw [ofL_size]; exact dgs_len20 k (by omega)
  have HK := hid hk
  obtain ⟨hc1, hc2⟩ := hc
  clear hk
  go_enter Try.func14, Try.ntmps14
  go_wp2_with fail
  refine (HS.out _).mono ?_
  rintro e w1 ⟨rfl, hF⟩
  have HF := hid hF
  clear hF
  go_wp2_with (go_at_call 39; refine (rdecimal_int _ k (by have := HK.out; omega) (by omega) _).mono ?_; rintro e w' ⟨rfl, rfl⟩)
  go_ret2
  refine ⟨congrArg (fun t => Ending.returned (Value.tuple #[Value.string t, .int .i64 0])) (?_ : _ = ofL ([] ++ layL d x)), HF.out⟩
  rw [HR.out]
  apply ByteArray.ext
  simp [ofL]

set_option maxRecDepth 100000 in
set_option maxHeartbeats 4000000 in
theorem rprint_gn (BB MM : Int) (d : List UInt8) (x : Int) (w : World) (hneg : decide ((9223372036854775808 : Int) ≤ BB) = true) (hsub : IntKind.u64.wrap (BB - 9223372036854775808) = MM) (hfin : decide ((9218868437227405312 : Int) ≤ MM) = false) (h0 : (MM == 0) = false)
    (hd0 : 0 < d.length) (hd : d.length ≤ 20) (hx1 : -5000 ≤ x) (hx2 : x ≤ 5000)
    (hS : ∀ w, Calls Try.prog 37 #[.int .u64 MM] w fun e w' => e = .returned (.tuple #[.string (ofL d), .int .i64 x]) ∧ Fr (fun _ => False) w w') (hc : 21 < (d.length : Int) + x ∧ 1 < d.length) :
    Calls Try.prog 14 #[.int .u64 BB] w fun e w' => e = .returned (.tuple #[.string (ofL ([45] ++ layL d x)), .int .i64 0]) ∧ Fr (fun _ => False) w w' := by
  have HS := hid hS
  have hxx := And.intro (And.intro hx1 hx2) (And.intro hd0 hd)
  clear hS hxx
  have hsz := ofL_size d
  obtain ⟨k, hk⟩ : ∃ k : Nat, (d.length : Int) + x - 1 = k := ⟨((d.length : Int) + x - 1).toNat, by omega⟩
  have hkk : k < 6000 := by omega
  have HR := hid (show layL d x = d.take 1 ++ (46 :: d.drop 1) ++ ([101, 43] ++ dgs k) from by
    rw [layL, if_pos (by omega), expL, if_pos (by omega), if_neg (by omega)]
    rw [show ((d.length : Int) + x - 1).toNat = k by omega])
  have e1 : (ofL d).extract 0 1 = ofL (d.take 1) := by rw [ofL_extract, List.drop_zero]
  have e2 : (ofL d).extract 1 d.length = ofL (d.drop 1) := by rw [ofL_extract, List.take_length]
  have z3 : (ofL (d.take 1)).size ≤ 20 := by rw [ofL_size]; simp; omega
  have z4 : (ofL d.tail).size ≤ 20 := by rw [ofL_size, List.length_tail]; omega
  have z5 : (ofL (dgs k)).size ≤ 20 := by rw [ofL_size]; exact dgs_len20 k (by omega)
  have HK := hid hk
  obtain ⟨hc1, hc2⟩ := hc
  clear hk
  go_enter Try.func14, Try.ntmps14
  go_wp2_with fail
  refine (HS.out _).mono ?_
  rintro e w1 ⟨rfl, hF⟩
  have HF := hid hF
  clear hF
  go_wp2_with (go_at_call 39; refine (rdecimal_int _ k (by have := HK.out; omega) (by omega) _).mono ?_; rintro e w' ⟨rfl, rfl⟩)
  go_ret2
  refine ⟨congrArg (fun t => Ending.returned (Value.tuple #[Value.string t, .int .i64 0])) (?_ : _ = ofL ([45] ++ layL d x)), HF.out⟩
  rw [HR.out]
  apply ByteArray.ext
  simp [ofL]

set_option maxRecDepth 100000 in
set_option maxHeartbeats 4000000 in
theorem rprint_hp (BB : Int) (d : List UInt8) (x : Int) (w : World) (hneg : decide ((9223372036854775808 : Int) ≤ BB) = false) (hfin : decide ((9218868437227405312 : Int) ≤ BB) = false) (h0 : (BB == 0) = false)
    (hd0 : 0 < d.length) (hd : d.length ≤ 20) (hx1 : -5000 ≤ x) (hx2 : x ≤ 5000)
    (hS : ∀ w, Calls Try.prog 37 #[.int .u64 BB] w fun e w' => e = .returned (.tuple #[.string (ofL d), .int .i64 x]) ∧ Fr (fun _ => False) w w') (hc : 21 < (d.length : Int) + x ∧ d.length = 1) :
    Calls Try.prog 14 #[.int .u64 BB] w fun e w' => e = .returned (.tuple #[.string (ofL ([] ++ layL d x)), .int .i64 0]) ∧ Fr (fun _ => False) w w' := by
  have HS := hid hS
  have hxx := And.intro (And.intro hx1 hx2) (And.intro hd0 hd)
  clear hS hxx
  have hsz := ofL_size d
  obtain ⟨k, hk⟩ : ∃ k : Nat, (d.length : Int) + x - 1 = k := ⟨((d.length : Int) + x - 1).toNat, by omega⟩
  have hkk : k < 6000 := by omega
  have HR := hid (show layL d x = d.take 1 ++ [] ++ ([101, 43] ++ dgs k) from by
    rw [layL, if_pos (by omega), expL, if_neg (by omega), if_neg (by omega)]
    rw [show ((d.length : Int) + x - 1).toNat = k by omega])
  have e1 : (ofL d).extract 0 1 = ofL (d.take 1) := by rw [ofL_extract, List.drop_zero]
  have e2 : (ofL d).extract 1 d.length = ofL (d.drop 1) := by rw [ofL_extract, List.take_length]
  have z3 : (ofL (d.take 1)).size ≤ 20 := by rw [ofL_size]; simp; omega
  have z4 : (ofL d.tail).size ≤ 20 := by rw [ofL_size, List.length_tail]; omega
  have z5 : (ofL (dgs k)).size ≤ 20 := by rw [ofL_size]; exact dgs_len20 k (by omega)
  have HK := hid hk
  obtain ⟨hc1, hc2⟩ := hc
  clear hk
  go_enter Try.func14, Try.ntmps14
  go_wp2_with fail
  refine (HS.out _).mono ?_
  rintro e w1 ⟨rfl, hF⟩
  have HF := hid hF
  clear hF
  go_wp2_with (go_at_call 39; refine (rdecimal_int _ k (by have := HK.out; omega) (by omega) _).mono ?_; rintro e w' ⟨rfl, rfl⟩)
  go_ret2
  refine ⟨congrArg (fun t => Ending.returned (Value.tuple #[Value.string t, .int .i64 0])) (?_ : _ = ofL ([] ++ layL d x)), HF.out⟩
  rw [HR.out]
  apply ByteArray.ext
  simp [ofL]

set_option maxRecDepth 100000 in
set_option maxHeartbeats 4000000 in
theorem rprint_hn (BB MM : Int) (d : List UInt8) (x : Int) (w : World) (hneg : decide ((9223372036854775808 : Int) ≤ BB) = true) (hsub : IntKind.u64.wrap (BB - 9223372036854775808) = MM) (hfin : decide ((9218868437227405312 : Int) ≤ MM) = false) (h0 : (MM == 0) = false)
    (hd0 : 0 < d.length) (hd : d.length ≤ 20) (hx1 : -5000 ≤ x) (hx2 : x ≤ 5000)
    (hS : ∀ w, Calls Try.prog 37 #[.int .u64 MM] w fun e w' => e = .returned (.tuple #[.string (ofL d), .int .i64 x]) ∧ Fr (fun _ => False) w w') (hc : 21 < (d.length : Int) + x ∧ d.length = 1) :
    Calls Try.prog 14 #[.int .u64 BB] w fun e w' => e = .returned (.tuple #[.string (ofL ([45] ++ layL d x)), .int .i64 0]) ∧ Fr (fun _ => False) w w' := by
  have HS := hid hS
  have hxx := And.intro (And.intro hx1 hx2) (And.intro hd0 hd)
  clear hS hxx
  have hsz := ofL_size d
  obtain ⟨k, hk⟩ : ∃ k : Nat, (d.length : Int) + x - 1 = k := ⟨((d.length : Int) + x - 1).toNat, by omega⟩
  have hkk : k < 6000 := by omega
  have HR := hid (show layL d x = d.take 1 ++ [] ++ ([101, 43] ++ dgs k) from by
    rw [layL, if_pos (by omega), expL, if_neg (by omega), if_neg (by omega)]
    rw [show ((d.length : Int) + x - 1).toNat = k by omega])
  have e1 : (ofL d).extract 0 1 = ofL (d.take 1) := by rw [ofL_extract, List.drop_zero]
  have e2 : (ofL d).extract 1 d.length = ofL (d.drop 1) := by rw [ofL_extract, List.take_length]
  have z3 : (ofL (d.take 1)).size ≤ 20 := by rw [ofL_size]; simp; omega
  have z4 : (ofL d.tail).size ≤ 20 := by rw [ofL_size, List.length_tail]; omega
  have z5 : (ofL (dgs k)).size ≤ 20 := by rw [ofL_size]; exact dgs_len20 k (by omega)
  have HK := hid hk
  obtain ⟨hc1, hc2⟩ := hc
  clear hk
  go_enter Try.func14, Try.ntmps14
  go_wp2_with fail
  refine (HS.out _).mono ?_
  rintro e w1 ⟨rfl, hF⟩
  have HF := hid hF
  clear hF
  go_wp2_with (go_at_call 39; refine (rdecimal_int _ k (by have := HK.out; omega) (by omega) _).mono ?_; rintro e w' ⟨rfl, rfl⟩)
  go_ret2
  refine ⟨congrArg (fun t => Ending.returned (Value.tuple #[Value.string t, .int .i64 0])) (?_ : _ = ofL ([45] ++ layL d x)), HF.out⟩
  rw [HR.out]
  apply ByteArray.ext
  simp [ofL]

theorem rprint_p (BB : Int) (d : List UInt8) (x : Int) (w : World) (hneg : decide ((9223372036854775808 : Int) ≤ BB) = false) (hfin : decide ((9218868437227405312 : Int) ≤ BB) = false) (h0 : (BB == 0) = false)
    (hd0 : 0 < d.length) (hd : d.length ≤ 20) (hx1 : -5000 ≤ x) (hx2 : x ≤ 5000)
    (hS : ∀ w, Calls Try.prog 37 #[.int .u64 BB] w fun e w' => e = .returned (.tuple #[.string (ofL d), .int .i64 x]) ∧ Fr (fun _ => False) w w') :
    Calls Try.prog 14 #[.int .u64 BB] w fun e w' => e = .returned (.tuple #[.string (ofL ([] ++ layL d x)), .int .i64 0]) ∧ Fr (fun _ => False) w w' := by
  by_cases h1 : 21 < (d.length : Int) + x
  · by_cases h2 : d.length = 1
    · exact rprint_hp BB d x w hneg hfin h0 hd0 hd hx1 hx2 hS ⟨h1, h2⟩
    · exact rprint_gp BB d x w hneg hfin h0 hd0 hd hx1 hx2 hS ⟨h1, by omega⟩
  · by_cases h3 : (d.length : Int) + x < -5
    · by_cases h2 : d.length = 1
      · exact rprint_fp BB d x w hneg hfin h0 hd0 hd hx1 hx2 hS ⟨h3, h2⟩
      · exact rprint_ep BB d x w hneg hfin h0 hd0 hd hx1 hx2 hS ⟨h3, by omega⟩
    · by_cases h4 : (d.length : Int) + x ≤ 0
      · exact rprint_cp BB d x w hneg hfin h0 hd0 hd hx1 hx2 hS ⟨by omega, h4⟩
      · by_cases h5 : 0 ≤ x
        · exact rprint_ap BB d x w hneg hfin h0 hd0 hd hx1 hx2 hS ⟨by omega, by omega, h5⟩
        · exact rprint_bp BB d x w hneg hfin h0 hd0 hd hx1 hx2 hS ⟨by omega, by omega, by omega⟩

theorem rprint_n (BB MM : Int) (d : List UInt8) (x : Int) (w : World) (hneg : decide ((9223372036854775808 : Int) ≤ BB) = true) (hsub : IntKind.u64.wrap (BB - 9223372036854775808) = MM) (hfin : decide ((9218868437227405312 : Int) ≤ MM) = false) (h0 : (MM == 0) = false)
    (hd0 : 0 < d.length) (hd : d.length ≤ 20) (hx1 : -5000 ≤ x) (hx2 : x ≤ 5000)
    (hS : ∀ w, Calls Try.prog 37 #[.int .u64 MM] w fun e w' => e = .returned (.tuple #[.string (ofL d), .int .i64 x]) ∧ Fr (fun _ => False) w w') :
    Calls Try.prog 14 #[.int .u64 BB] w fun e w' => e = .returned (.tuple #[.string (ofL ([45] ++ layL d x)), .int .i64 0]) ∧ Fr (fun _ => False) w w' := by
  by_cases h1 : 21 < (d.length : Int) + x
  · by_cases h2 : d.length = 1
    · exact rprint_hn BB MM d x w hneg hsub hfin h0 hd0 hd hx1 hx2 hS ⟨h1, h2⟩
    · exact rprint_gn BB MM d x w hneg hsub hfin h0 hd0 hd hx1 hx2 hS ⟨h1, by omega⟩
  · by_cases h3 : (d.length : Int) + x < -5
    · by_cases h2 : d.length = 1
      · exact rprint_fn BB MM d x w hneg hsub hfin h0 hd0 hd hx1 hx2 hS ⟨h3, h2⟩
      · exact rprint_en BB MM d x w hneg hsub hfin h0 hd0 hd hx1 hx2 hS ⟨h3, by omega⟩
    · by_cases h4 : (d.length : Int) + x ≤ 0
      · exact rprint_cn BB MM d x w hneg hsub hfin h0 hd0 hd hx1 hx2 hS ⟨by omega, h4⟩
      · by_cases h5 : 0 ≤ x
        · exact rprint_an BB MM d x w hneg hsub hfin h0 hd0 hd hx1 hx2 hS ⟨by omega, by omega, h5⟩
        · exact rprint_bn BB MM d x w hneg hsub hfin h0 hd0 hd hx1 hx2 hS ⟨by omega, by omega, by omega⟩

end Go.Proofs.Ytmkkibaacclhnaa
