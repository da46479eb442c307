/-
  A step of the walk, the part named Buv. No theorem of the row.
-/
import Derived.Test.YtmkkibaacclhnaaGreatDoorBpr
import Derived.Test.YtmkkibaacclhnaaGreatDoorCde
namespace Go.Proofs.YtmkkibaacclhnaaGreatDoor
open Go.RowKit

theorem rdecimal_int (K : Int) (k : Nat) (hK : K = (k : Int)) (hk : k < 6000) (w : World) : Calls Tryz.prog 134 #[.int .i64 K] w fun e w' => e = .returned (.string (ofL (dgs k))) ∧ w' = w := by
  subst hK
  exact rdecimal_any k (by omega) w
set_option maxRecDepth 100000 in
set_option maxHeartbeats 4000000 in
theorem rprint_ap (BB : Int) (d : List UInt8) (x : Int) (w : World) (hneg : decide ((9223372036854775808 : Int) ≤ BB) = false) (hfin : decide ((9218868437227405312 : Int) ≤ BB) = false) (h0 : (BB == 0) = false)
    (hd0 : 0 < d.length) (hd : d.length ≤ 20) (hx1 : -5000 ≤ x) (hx2 : x ≤ 5000)
    (hS : ∀ w, Calls Tryz.prog 132 #[.int .u64 BB] w fun e w' => e = .returned (.tuple #[.string (ofL d), .int .i64 x]) ∧ Fr (fun _ => False) w w') (hc : 1 ≤ (d.length : Int) + x ∧ (d.length : Int) + x ≤ 21 ∧ 0 ≤ x) :
    Calls Tryz.prog 77 #[.int .u64 BB] w fun e w' => e = .returned (.tuple #[.string (ofL ([] ++ layL d x)), .int .i64 0]) ∧ Fr (fun _ => False) w w' := by
  have HS := hid hS
  have hxx := And.intro (And.intro hx1 hx2) (And.intro hd0 hd)
  clear hS hxx
  have hsz := ofL_size d
  obtain ⟨k, rfl⟩ : ∃ k : Nat, x = (k : Int) := ⟨x.toNat, by omega⟩
  have HR := hid (show layL d (k : Int) = d ++ List.replicate k 48 from by
    rw [layL, if_neg (by omega), if_neg (by omega), if_pos (by omega), show (k : Int).toNat = k by omega])
  have z1 : (ofL ([] ++ d)).size ≤ 40 := by rw [ofL_size]; simp; omega
  have z2 : (ofL (List.replicate k 48)).size = k := by rw [ofL_size]; simp
  have a1 : (ByteArray.mk #[]) ++ ofL d = ofL ([] ++ d) := by apply ByteArray.ext; simp [ofL]
  have z0 : ((ByteArray.mk #[]) ++ ofL d).size ≤ 40 := by rw [a1]; exact z1
  clear a1 z1
  obtain ⟨hc1, hc2, hc3⟩ := hc
  go_enter Tryz.func77, Tryz.ntmps77
  go_wp2_with fail
  refine (HS.out _).mono ?_
  rintro e w1 ⟨rfl, hF⟩
  have HF := hid hF
  clear hF
  go_wp2_with (go_at_call 133; refine (rnoughts_any k (by omega) _).mono ?_; rintro e w' ⟨rfl, rfl⟩)
  go_ret2
  refine ⟨congrArg (fun t => Ending.returned (Value.tuple #[Value.string t, .int .i64 0])) (?_ : _ = ofL ([] ++ layL d (k : Int))), HF.out⟩
  rw [HR.out]
  apply ByteArray.ext
  simp [ofL]
set_option maxRecDepth 100000 in
set_option maxHeartbeats 4000000 in
theorem rprint_an (BB MM : Int) (d : List UInt8) (x : Int) (w : World) (hneg : decide ((9223372036854775808 : Int) ≤ BB) = true) (hsub : IntKind.u64.wrap (BB - 9223372036854775808) = MM) (hfin : decide ((9218868437227405312 : Int) ≤ MM) = false) (h0 : (MM == 0) = false)
    (hd0 : 0 < d.length) (hd : d.length ≤ 20) (hx1 : -5000 ≤ x) (hx2 : x ≤ 5000)
    (hS : ∀ w, Calls Tryz.prog 132 #[.int .u64 MM] w fun e w' => e = .returned (.tuple #[.string (ofL d), .int .i64 x]) ∧ Fr (fun _ => False) w w') (hc : 1 ≤ (d.length : Int) + x ∧ (d.length : Int) + x ≤ 21 ∧ 0 ≤ x) :
    Calls Tryz.prog 77 #[.int .u64 BB] w fun e w' => e = .returned (.tuple #[.string (ofL ([45] ++ layL d x)), .int .i64 0]) ∧ Fr (fun _ => False) w w' := by
  have HS := hid hS
  have hxx := And.intro (And.intro hx1 hx2) (And.intro hd0 hd)
  clear hS hxx
  have hsz := ofL_size d
  obtain ⟨k, rfl⟩ : ∃ k : Nat, x = (k : Int) := ⟨x.toNat, by omega⟩
  have HR := hid (show layL d (k : Int) = d ++ List.replicate k 48 from by
    rw [layL, if_neg (by omega), if_neg (by omega), if_pos (by omega), show (k : Int).toNat = k by omega])
  have z1 : (ofL ([45] ++ d)).size ≤ 40 := by rw [ofL_size]; simp; omega
  have z2 : (ofL (List.replicate k 48)).size = k := by rw [ofL_size]; simp
  have a1 : (ByteArray.mk #[45]) ++ ofL d = ofL ([45] ++ d) := by apply ByteArray.ext; simp [ofL]
  have z0 : ((ByteArray.mk #[45]) ++ ofL d).size ≤ 40 := by rw [a1]; exact z1
  clear a1 z1
  obtain ⟨hc1, hc2, hc3⟩ := hc
  go_enter Tryz.func77, Tryz.ntmps77
  go_wp2_with fail
  refine (HS.out _).mono ?_
  rintro e w1 ⟨rfl, hF⟩
  have HF := hid hF
  clear hF
  go_wp2_with (go_at_call 133; refine (rnoughts_any k (by omega) _).mono ?_; rintro e w' ⟨rfl, rfl⟩)
  go_ret2
  refine ⟨congrArg (fun t => Ending.returned (Value.tuple #[Value.string t, .int .i64 0])) (?_ : _ = ofL ([45] ++ layL d (k : Int))), HF.out⟩
  rw [HR.out]
  apply ByteArray.ext
  simp [ofL]
set_option maxRecDepth 100000 in
set_option maxHeartbeats 4000000 in
theorem rprint_bp (BB : Int) (d : List UInt8) (x : Int) (w : World) (hneg : decide ((9223372036854775808 : Int) ≤ BB) = false) (hfin : decide ((9218868437227405312 : Int) ≤ BB) = false) (h0 : (BB == 0) = false)
    (hd0 : 0 < d.length) (hd : d.length ≤ 20) (hx1 : -5000 ≤ x) (hx2 : x ≤ 5000)
    (hS : ∀ w, Calls Tryz.prog 132 #[.int .u64 BB] w fun e w' => e = .returned (.tuple #[.string (ofL d), .int .i64 x]) ∧ Fr (fun _ => False) w w') (hc : 1 ≤ (d.length : Int) + x ∧ (d.length : Int) + x ≤ 21 ∧ x < 0) :
    Calls Tryz.prog 77 #[.int .u64 BB] w fun e w' => e = .returned (.tuple #[.string (ofL ([] ++ layL d x)), .int .i64 0]) ∧ Fr (fun _ => False) w w' := by
  have HS := hid hS
  have hxx := And.intro (And.intro hx1 hx2) (And.intro hd0 hd)
  clear hS hxx
  have hsz := ofL_size d
  obtain ⟨q, hq⟩ : ∃ q : Nat, (d.length : Int) + x = q := ⟨((d.length : Int) + x).toNat, by omega⟩
  have HR := hid (show layL d x = d.take q ++ [46] ++ d.drop q from by
    rw [layL, if_neg (by omega), if_neg (by omega), if_neg (by omega), hq]; rfl)
  have e1 : (ofL d).extract 0 q = ofL (d.take q) := by rw [ofL_extract, List.drop_zero]
  have e2 : (ofL d).extract q d.length = ofL (d.drop q) := by rw [ofL_extract, List.take_length]
  have z1 : (ofL ([] ++ d.take q)).size ≤ 40 := by rw [ofL_size]; simp; omega
  have z2 : (ofL ([] ++ d.take q ++ [46])).size ≤ 60 := by rw [ofL_size]; simp; omega
  have z3 : (ofL (d.take q)).size ≤ 20 := by rw [ofL_size]; simp; omega
  have z4 : (ofL (d.drop q)).size ≤ 20 := by rw [ofL_size]; simp; omega
  have a1 : (ByteArray.mk #[]) ++ ofL (d.take q) = ofL ([] ++ d.take q) := by apply ByteArray.ext; simp [ofL]
  have y0 : ((ByteArray.mk #[]) ++ ofL (d.take q)).size ≤ 40 := by rw [a1]; exact z1
  have a2 : ofL ([] ++ d.take q) ++ (ByteArray.mk #[46]) = ofL ([] ++ d.take q ++ [46]) := by apply ByteArray.ext; simp [ofL]
  have a3 : ofL ([] ++ d.take q ++ [46]) ++ ofL (d.drop q) = ofL ([] ++ d.take q ++ [46] ++ d.drop q) := ofL_append _ _
  obtain ⟨hc1, hc2, hc3⟩ := hc
  have y1 : ((ByteArray.mk #[]) ++ ofL (d.take q) ++ (ByteArray.mk #[46])).size ≤ 60 := by rw [a1, a2]; exact z2
  clear a1 a2 a3 z1 z2
  have hql : q ≤ d.length := by omega
  go_enter Tryz.func77, Tryz.ntmps77
  go_wp2_with fail
  refine (HS.out _).mono ?_
  rintro e w1 ⟨rfl, hF⟩
  have HF := hid hF
  clear hF
  go_wp2_with fail
  go_region
  all_goals
    go_wp2
    go_ret2
    refine ⟨congrArg (fun t => Ending.returned (Value.tuple #[Value.string t, .int .i64 0])) (?_ : _ = ofL ([] ++ layL d x)), HF.out.drew⟩
    rw [HR.out]
    apply ByteArray.ext
    simp [ofL]
set_option maxRecDepth 100000 in
set_option maxHeartbeats 4000000 in
theorem rprint_bn (BB MM : Int) (d : List UInt8) (x : Int) (w : World) (hneg : decide ((9223372036854775808 : Int) ≤ BB) = true) (hsub : IntKind.u64.wrap (BB - 9223372036854775808) = MM) (hfin : decide ((9218868437227405312 : Int) ≤ MM) = false) (h0 : (MM == 0) = false)
    (hd0 : 0 < d.length) (hd : d.length ≤ 20) (hx1 : -5000 ≤ x) (hx2 : x ≤ 5000)
    (hS : ∀ w, Calls Tryz.prog 132 #[.int .u64 MM] w fun e w' => e = .returned (.tuple #[.string (ofL d), .int .i64 x]) ∧ Fr (fun _ => False) w w') (hc : 1 ≤ (d.length : Int) + x ∧ (d.length : Int) + x ≤ 21 ∧ x < 0) :
    Calls Tryz.prog 77 #[.int .u64 BB] w fun e w' => e = .returned (.tuple #[.string (ofL ([45] ++ layL d x)), .int .i64 0]) ∧ Fr (fun _ => False) w w' := by
  have HS := hid hS
  have hxx := And.intro (And.intro hx1 hx2) (And.intro hd0 hd)
  clear hS hxx
  have hsz := ofL_size d
  obtain ⟨q, hq⟩ : ∃ q : Nat, (d.length : Int) + x = q := ⟨((d.length : Int) + x).toNat, by omega⟩
  have HR := hid (show layL d x = d.take q ++ [46] ++ d.drop q from by
    rw [layL, if_neg (by omega), if_neg (by omega), if_neg (by omega), hq]; rfl)
  have e1 : (ofL d).extract 0 q = ofL (d.take q) := by rw [ofL_extract, List.drop_zero]
  have e2 : (ofL d).extract q d.length = ofL (d.drop q) := by rw [ofL_extract, List.take_length]
  have z1 : (ofL ([45] ++ d.take q)).size ≤ 40 := by rw [ofL_size]; simp; omega
  have z2 : (ofL ([45] ++ d.take q ++ [46])).size ≤ 60 := by rw [ofL_size]; simp; omega
  have z3 : (ofL (d.take q)).size ≤ 20 := by rw [ofL_size]; simp; omega
  have z4 : (ofL (d.drop q)).size ≤ 20 := by rw [ofL_size]; simp; omega
  have a1 : (ByteArray.mk #[45]) ++ ofL (d.take q) = ofL ([45] ++ d.take q) := by apply ByteArray.ext; simp [ofL]
  have y0 : ((ByteArray.mk #[45]) ++ ofL (d.take q)).size ≤ 40 := by rw [a1]; exact z1
  have a2 : ofL ([45] ++ d.take q) ++ (ByteArray.mk #[46]) = ofL ([45] ++ d.take q ++ [46]) := by apply ByteArray.ext; simp [ofL]
  have a3 : ofL ([45] ++ d.take q ++ [46]) ++ ofL (d.drop q) = ofL ([45] ++ d.take q ++ [46] ++ d.drop q) := ofL_append _ _
  obtain ⟨hc1, hc2, hc3⟩ := hc
  have y1 : ((ByteArray.mk #[45]) ++ ofL (d.take q) ++ (ByteArray.mk #[46])).size ≤ 60 := by rw [a1, a2]; exact z2
  clear a1 a2 a3 z1 z2
  have hql : q ≤ d.length := by omega
  go_enter Tryz.func77, Tryz.ntmps77
  go_wp2_with fail
  refine (HS.out _).mono ?_
  rintro e w1 ⟨rfl, hF⟩
  have HF := hid hF
  clear hF
  go_wp2_with fail
  go_region
  all_goals
    go_wp2
    go_ret2
    refine ⟨congrArg (fun t => Ending.returned (Value.tuple #[Value.string t, .int .i64 0])) (?_ : _ = ofL ([45] ++ layL d x)), HF.out.drew⟩
    rw [HR.out]
    apply ByteArray.ext
    simp [ofL]
set_option maxRecDepth 100000 in
set_option maxHeartbeats 4000000 in
theorem rprint_cp (BB : Int) (d : List UInt8) (x : Int) (w : World) (hneg : decide ((9223372036854775808 : Int) ≤ BB) = false) (hfin : decide ((9218868437227405312 : Int) ≤ BB) = false) (h0 : (BB == 0) = false)
    (hd0 : 0 < d.length) (hd : d.length ≤ 20) (hx1 : -5000 ≤ x) (hx2 : x ≤ 5000)
    (hS : ∀ w, Calls Tryz.prog 132 #[.int .u64 BB] w fun e w' => e = .returned (.tuple #[.string (ofL d), .int .i64 x]) ∧ Fr (fun _ => False) w w') (hc : -5 ≤ (d.length : Int) + x ∧ (d.length : Int) + x ≤ 0) :
    Calls Tryz.prog 77 #[.int .u64 BB] w fun e w' => e = .returned (.tuple #[.string (ofL ([] ++ layL d x)), .int .i64 0]) ∧ Fr (fun _ => False) w w' := by
  have HS := hid hS
  have hxx := And.intro (And.intro hx1 hx2) (And.intro hd0 hd)
  clear hS hxx
  have hsz := ofL_size d
  obtain ⟨k, hk⟩ : ∃ k : Nat, -((d.length : Int) + x) = k := ⟨(-((d.length : Int) + x)).toNat, by omega⟩
  have HR := hid (show layL d x = [48, 46] ++ List.replicate k 48 ++ d from by
    rw [layL, if_neg (by omega), if_pos (by omega), hk]; rfl)
  have z2 : (ofL (List.replicate k 48)).size = k := by rw [ofL_size]; simp
  have z3 : (ofL ([] ++ [48, 46] ++ List.replicate k 48)).size ≤ 60 := by rw [ofL_size]; simp; omega
  have a2 : ofL ([] ++ [48, 46]) ++ ofL (List.replicate k 48) = ofL ([] ++ [48, 46] ++ List.replicate k 48) := ofL_append _ _
  have a3 : ofL ([] ++ [48, 46] ++ List.replicate k 48) ++ ofL d = ofL ([] ++ [48, 46] ++ List.replicate k 48 ++ d) := ofL_append _ _
  have HK := hid hk
  have hkb : k ≤ 5 := by omega
  obtain ⟨hc1, hc2⟩ := hc
  clear hk
  go_enter Tryz.func77, Tryz.ntmps77
  go_wp2_with fail
  refine (HS.out _).mono ?_
  rintro e w1 ⟨rfl, hF⟩
  have HF := hid hF
  clear hF
  go_wp2_with (go_at_call 133; rw [HK.out]; refine (rnoughts_any k (by omega) _).mono ?_; rintro e w' ⟨rfl, rfl⟩)
  go_ret2
  refine ⟨congrArg (fun t => Ending.returned (Value.tuple #[Value.string t, .int .i64 0])) (?_ : _ = ofL ([] ++ layL d x)), HF.out⟩
  rw [HR.out]
  apply ByteArray.ext
  simp [ofL]
set_option maxRecDepth 100000 in
set_option maxHeartbeats 4000000 in
theorem rprint_cn (BB MM : Int) (d : List UInt8) (x : Int) (w : World) (hneg : decide ((9223372036854775808 : Int) ≤ BB) = true) (hsub : IntKind.u64.wrap (BB - 9223372036854775808) = MM) (hfin : decide ((9218868437227405312 : Int) ≤ MM) = false) (h0 : (MM == 0) = false)
    (hd0 : 0 < d.length) (hd : d.length ≤ 20) (hx1 : -5000 ≤ x) (hx2 : x ≤ 5000)
    (hS : ∀ w, Calls Tryz.prog 132 #[.int .u64 MM] w fun e w' => e = .returned (.tuple #[.string (ofL d), .int .i64 x]) ∧ Fr (fun _ => False) w w') (hc : -5 ≤ (d.length : Int) + x ∧ (d.length : Int) + x ≤ 0) :
    Calls Tryz.prog 77 #[.int .u64 BB] w fun e w' => e = .returned (.tuple #[.string (ofL ([45] ++ layL d x)), .int .i64 0]) ∧ Fr (fun _ => False) w w' := by
  have HS := hid hS
  have hxx := And.intro (And.intro hx1 hx2) (And.intro hd0 hd)
  clear hS hxx
  have hsz := ofL_size d
  obtain ⟨k, hk⟩ : ∃ k : Nat, -((d.length : Int) + x) = k := ⟨(-((d.length : Int) + x)).toNat, by omega⟩
  have HR := hid (show layL d x = [48, 46] ++ List.replicate k 48 ++ d from by
    rw [layL, if_neg (by omega), if_pos (by omega), hk]; rfl)
  have z2 : (ofL (List.replicate k 48)).size = k := by rw [ofL_size]; simp
  have z3 : (ofL ([45] ++ [48, 46] ++ List.replicate k 48)).size ≤ 60 := by rw [ofL_size]; simp; omega
  have a2 : ofL ([45] ++ [48, 46]) ++ ofL (List.replicate k 48) = ofL ([45] ++ [48, 46] ++ List.replicate k 48) := ofL_append _ _
  have a3 : ofL ([45] ++ [48, 46] ++ List.replicate k 48) ++ ofL d = ofL ([45] ++ [48, 46] ++ List.replicate k 48 ++ d) := ofL_append _ _
  have HK := hid hk
  have hkb : k ≤ 5 := by omega
  obtain ⟨hc1, hc2⟩ := hc
  clear hk
  go_enter Tryz.func77, Tryz.ntmps77
  go_wp2_with fail
  refine (HS.out _).mono ?_
  rintro e w1 ⟨rfl, hF⟩
  have HF := hid hF
  clear hF
  go_wp2_with (go_at_call 133; rw [HK.out]; refine (rnoughts_any k (by omega) _).mono ?_; rintro e w' ⟨rfl, rfl⟩)
  go_ret2
  refine ⟨congrArg (fun t => Ending.returned (Value.tuple #[Value.string t, .int .i64 0])) (?_ : _ = ofL ([45] ++ layL d x)), HF.out⟩
  rw [HR.out]
  apply ByteArray.ext
  simp [ofL]
set_option maxRecDepth 100000 in
set_option maxHeartbeats 4000000 in
theorem rprint_ep (BB : Int) (d : List UInt8) (x : Int) (w : World) (hneg : decide ((9223372036854775808 : Int) ≤ BB) = false) (hfin : decide ((9218868437227405312 : Int) ≤ BB) = false) (h0 : (BB == 0) = false)
    (hd0 : 0 < d.length) (hd : d.length ≤ 20) (hx1 : -5000 ≤ x) (hx2 : x ≤ 5000)
    (hS : ∀ w, Calls Tryz.prog 132 #[.int .u64 BB] w fun e w' => e = .returned (.tuple #[.string (ofL d), .int .i64 x]) ∧ Fr (fun _ => False) w w') (hc : (d.length : Int) + x < -5 ∧ 1 < d.length) :
    Calls Tryz.prog 77 #[.int .u64 BB] w fun e w' => e = .returned (.tuple #[.string (ofL ([] ++ layL d x)), .int .i64 0]) ∧ Fr (fun _ => False) w w' := by
  have HS := hid hS
  have hxx := And.intro (And.intro hx1 hx2) (And.intro hd0 hd)
  clear hS hxx
  have hsz := ofL_size d
  obtain ⟨k, hk⟩ : ∃ k : Nat, 1 - ((d.length : Int) + x) = k := ⟨(1 - ((d.length : Int) + x)).toNat, by omega⟩
  have hkk : k < 6000 := by omega
  have HR := hid (show layL d x = d.take 1 ++ (46 :: d.drop 1) ++ ([101, 45] ++ dgs k) from by
    rw [layL, if_pos (by omega), expL, if_pos (by omega), if_pos (by omega)]
    rw [show (-((d.length : Int) + x - 1)).toNat = k by omega])
  have e1 : (ofL d).extract 0 1 = ofL (d.take 1) := by rw [ofL_extract, List.drop_zero]
  have e2 : (ofL d).extract 1 d.length = ofL (d.drop 1) := by rw [ofL_extract, List.take_length]
  have z3 : (ofL (d.take 1)).size ≤ 20 := by rw [ofL_size]; simp; omega
  have z4 : (ofL d.tail).size ≤ 20 := by rw [ofL_size, List.length_tail]; omega
  have z5 : (ofL (dgs k)).size ≤ 20 := by rw [ofL_size]; exact dgs_len20 k (by omega)
  have HK := hid hk
  obtain ⟨hc1, hc2⟩ := hc
  clear hk
  go_enter Tryz.func77, Tryz.ntmps77
  go_wp2_with fail
  refine (HS.out _).mono ?_
  rintro e w1 ⟨rfl, hF⟩
  have HF := hid hF
  clear hF
  go_wp2_with (go_at_call 134; refine (rdecimal_int _ k (by have := HK.out; omega) (by omega) _).mono ?_; rintro e w' ⟨rfl, rfl⟩)
  go_ret2
  refine ⟨congrArg (fun t => Ending.returned (Value.tuple #[Value.string t, .int .i64 0])) (?_ : _ = ofL ([] ++ layL d x)), HF.out⟩
  rw [HR.out]
  apply ByteArray.ext
  simp [ofL]
set_option maxRecDepth 100000 in
set_option maxHeartbeats 4000000 in
theorem rprint_en (BB MM : Int) (d : List UInt8) (x : Int) (w : World) (hneg : decide ((9223372036854775808 : Int) ≤ BB) = true) (hsub : IntKind.u64.wrap (BB - 9223372036854775808) = MM) (hfin : decide ((9218868437227405312 : Int) ≤ MM) = false) (h0 : (MM == 0) = false)
    (hd0 : 0 < d.length) (hd : d.length ≤ 20) (hx1 : -5000 ≤ x) (hx2 : x ≤ 5000)
    (hS : ∀ w, Calls Tryz.prog 132 #[.int .u64 MM] w fun e w' => e = .returned (.tuple #[.string (ofL d), .int .i64 x]) ∧ Fr (fun _ => False) w w') (hc : (d.length : Int) + x < -5 ∧ 1 < d.length) :
    Calls Tryz.prog 77 #[.int .u64 BB] w fun e w' => e = .returned (.tuple #[.string (ofL ([45] ++ layL d x)), .int .i64 0]) ∧ Fr (fun _ => False) w w' := by
  have HS := hid hS
  have hxx := And.intro (And.intro hx1 hx2) (And.intro hd0 hd)
  clear hS hxx
  have hsz := ofL_size d
  obtain ⟨k, hk⟩ : ∃ k : Nat, 1 - ((d.length : Int) + x) = k := ⟨(1 - ((d.length : Int) + x)).toNat, by omega⟩
  have hkk : k < 6000 := by omega
  have HR := hid (show layL d x = d.take 1 ++ (46 :: d.drop 1) ++ ([101, 45] ++ dgs k) from by
    rw [layL, if_pos (by omega), expL, if_pos (by omega), if_pos (by omega)]
    rw [show (-((d.length : Int) + x - 1)).toNat = k by omega])
  have e1 : (ofL d).extract 0 1 = ofL (d.take 1) := by rw [ofL_extract, List.drop_zero]
  have e2 : (ofL d).extract 1 d.length = ofL (d.drop 1) := by rw [ofL_extract, List.take_length]
  have z3 : (ofL (d.take 1)).size ≤ 20 := by rw [ofL_size]; simp; omega
  have z4 : (ofL d.tail).size ≤ 20 := by rw [ofL_size, List.length_tail]; omega
  have z5 : (ofL (dgs k)).size ≤ 20 := by rw [ofL_size]; exact dgs_len20 k (by omega)
  have HK := hid hk
  obtain ⟨hc1, hc2⟩ := hc
  clear hk
  go_enter Tryz.func77, Tryz.ntmps77
  go_wp2_with fail
  refine (HS.out _).mono ?_
  rintro e w1 ⟨rfl, hF⟩
  have HF := hid hF
  clear hF
  go_wp2_with (go_at_call 134; refine (rdecimal_int _ k (by have := HK.out; omega) (by omega) _).mono ?_; rintro e w' ⟨rfl, rfl⟩)
  go_ret2
  refine ⟨congrArg (fun t => Ending.returned (Value.tuple #[Value.string t, .int .i64 0])) (?_ : _ = ofL ([45] ++ layL d x)), HF.out⟩
  rw [HR.out]
  apply ByteArray.ext
  simp [ofL]
set_option maxRecDepth 100000 in
set_option maxHeartbeats 4000000 in
theorem rprint_fp (BB : Int) (d : List UInt8) (x : Int) (w : World) (hneg : decide ((9223372036854775808 : Int) ≤ BB) = false) (hfin : decide ((9218868437227405312 : Int) ≤ BB) = false) (h0 : (BB == 0) = false)
    (hd0 : 0 < d.length) (hd : d.length ≤ 20) (hx1 : -5000 ≤ x) (hx2 : x ≤ 5000)
    (hS : ∀ w, Calls Tryz.prog 132 #[.int .u64 BB] w fun e w' => e = .returned (.tuple #[.string (ofL d), .int .i64 x]) ∧ Fr (fun _ => False) w w') (hc : (d.length : Int) + x < -5 ∧ d.length = 1) :
    Calls Tryz.prog 77 #[.int .u64 BB] w fun e w' => e = .returned (.tuple #[.string (ofL ([] ++ layL d x)), .int .i64 0]) ∧ Fr (fun _ => False) w w' := by
  have HS := hid hS
  have hxx := And.intro (And.intro hx1 hx2) (And.intro hd0 hd)
  clear hS hxx
  have hsz := ofL_size d
  obtain ⟨k, hk⟩ : ∃ k : Nat, 1 - ((d.length : Int) + x) = k := ⟨(1 - ((d.length : Int) + x)).toNat, by omega⟩
  have hkk : k < 6000 := by omega
  have HR := hid (show layL d x = d.take 1 ++ [] ++ ([101, 45] ++ dgs k) from by
    rw [layL, if_pos (by omega), expL, if_neg (by omega), if_pos (by omega)]
    rw [show (-((d.length : Int) + x - 1)).toNat = k by omega])
  have e1 : (ofL d).extract 0 1 = ofL (d.take 1) := by rw [ofL_extract, List.drop_zero]
  have e2 : (ofL d).extract 1 d.length = ofL (d.drop 1) := by rw [ofL_extract, List.take_length]
  have z3 : (ofL (d.take 1)).size ≤ 20 := by rw [ofL_size]; simp; omega
  have z4 : (ofL d.tail).size ≤ 20 := by rw [ofL_size, List.length_tail]; omega
  have z5 : (ofL (dgs k)).size ≤ 20 := by rw [ofL_size]; exact dgs_len20 k (by omega)
  have HK := hid hk
  obtain ⟨hc1, hc2⟩ := hc
  clear hk
  go_enter Tryz.func77, Tryz.ntmps77
  go_wp2_with fail
  refine (HS.out _).mono ?_
  rintro e w1 ⟨rfl, hF⟩
  have HF := hid hF
  clear hF
  go_wp2_with (go_at_call 134; refine (rdecimal_int _ k (by have := HK.out; omega) (by omega) _).mono ?_; rintro e w' ⟨rfl, rfl⟩)
  go_ret2
  refine ⟨congrArg (fun t => Ending.returned (Value.tuple #[Value.string t, .int .i64 0])) (?_ : _ = ofL ([] ++ layL d x)), HF.out⟩
  rw [HR.out]
  apply ByteArray.ext
  simp [ofL]
set_option maxRecDepth 100000 in
set_option maxHeartbeats 4000000 in
theorem rprint_fn (BB MM : Int) (d : List UInt8) (x : Int) (w : World) (hneg : decide ((9223372036854775808 : Int) ≤ BB) = true) (hsub : IntKind.u64.wrap (BB - 9223372036854775808) = MM) (hfin : decide ((9218868437227405312 : Int) ≤ MM) = false) (h0 : (MM == 0) = false)
    (hd0 : 0 < d.length) (hd : d.length ≤ 20) (hx1 : -5000 ≤ x) (hx2 : x ≤ 5000)
    (hS : ∀ w, Calls Tryz.prog 132 #[.int .u64 MM] w fun e w' => e = .returned (.tuple #[.string (ofL d), .int .i64 x]) ∧ Fr (fun _ => False) w w') (hc : (d.length : Int) + x < -5 ∧ d.length = 1) :
    Calls Tryz.prog 77 #[.int .u64 BB] w fun e w' => e = .returned (.tuple #[.string (ofL ([45] ++ layL d x)), .int .i64 0]) ∧ Fr (fun _ => False) w w' := by
  have HS := hid hS
  have hxx := And.intro (And.intro hx1 hx2) (And.intro hd0 hd)
  clear hS hxx
  have hsz := ofL_size d
  obtain ⟨k, hk⟩ : ∃ k : Nat, 1 - ((d.length : Int) + x) = k := ⟨(1 - ((d.length : Int) + x)).toNat, by omega⟩
  have hkk : k < 6000 := by omega
  have HR := hid (show layL d x = d.take 1 ++ [] ++ ([101, 45] ++ dgs k) from by
    rw [layL, if_pos (by omega), expL, if_neg (by omega), if_pos (by omega)]
    rw [show (-((d.length : Int) + x - 1)).toNat = k by omega])
  have e1 : (ofL d).extract 0 1 = ofL (d.take 1) := by rw [ofL_extract, List.drop_zero]
  have e2 : (ofL d).extract 1 d.length = ofL (d.drop 1) := by rw [ofL_extract, List.take_length]
  have z3 : (ofL (d.take 1)).size ≤ 20 := by rw [ofL_size]; simp; omega
  have z4 : (ofL d.tail).size ≤ 20 := by rw [ofL_size, List.length_tail]; omega
  have z5 : (ofL (dgs k)).size ≤ 20 := by rw [ofL_size]; exact dgs_len20 k (by omega)
  have HK := hid hk
  obtain ⟨hc1, hc2⟩ := hc
  clear hk
  go_enter Tryz.func77, Tryz.ntmps77
  go_wp2_with fail
  refine (HS.out _).mono ?_
  rintro e w1 ⟨rfl, hF⟩
  have HF := hid hF
  clear hF
  go_wp2_with (go_at_call 134; refine (rdecimal_int _ k (by have := HK.out; omega) (by omega) _).mono ?_; rintro e w' ⟨rfl, rfl⟩)
  go_ret2
  refine ⟨congrArg (fun t => Ending.returned (Value.tuple #[Value.string t, .int .i64 0])) (?_ : _ = ofL ([45] ++ layL d x)), HF.out⟩
  rw [HR.out]
  apply ByteArray.ext
  simp [ofL]
set_option maxRecDepth 100000 in
set_option maxHeartbeats 4000000 in
theorem rprint_gp (BB : Int) (d : List UInt8) (x : Int) (w : World) (hneg : decide ((9223372036854775808 : Int) ≤ BB) = false) (hfin : decide ((9218868437227405312 : Int) ≤ BB) = false) (h0 : (BB == 0) = false)
    (hd0 : 0 < d.length) (hd : d.length ≤ 20) (hx1 : -5000 ≤ x) (hx2 : x ≤ 5000)
    (hS : ∀ w, Calls Tryz.prog 132 #[.int .u64 BB] w fun e w' => e = .returned (.tuple #[.string (ofL d), .int .i64 x]) ∧ Fr (fun _ => False) w w') (hc : 21 < (d.length : Int) + x ∧ 1 < d.length) :
    Calls Tryz.prog 77 #[.int .u64 BB] w fun e w' => e = .returned (.tuple #[.string (ofL ([] ++ layL d x)), .int .i64 0]) ∧ Fr (fun _ => False) w w' := by
  have HS := hid hS
  have hxx := And.intro (And.intro hx1 hx2) (And.intro hd0 hd)
  clear hS hxx
  have hsz := ofL_size d
  obtain ⟨k, hk⟩ : ∃ k : Nat, (d.length : Int) + x - 1 = k := ⟨((d.length : Int) + x - 1).toNat, by omega⟩
  have hkk : k < 6000 := by omega
  have HR := hid (show layL d x = d.take 1 ++ (46 :: d.drop 1) ++ ([101, 43] ++ dgs k) from by
    rw [layL, if_pos (by omega), expL, if_pos (by omega), if_neg (by omega)]
    rw [show ((d.length : Int) + x - 1).toNat = k by omega])
  have e1 : (ofL d).extract 0 1 = ofL (d.take 1) := by rw [ofL_extract, List.drop_zero]
  have e2 : (ofL d).extract 1 d.length = ofL (d.drop 1) := by rw [ofL_extract, List.take_length]
  have z3 : (ofL (d.take 1)).size ≤ 20 := by rw [ofL_size]; simp; omega
  have z4 : (ofL d.tail).size ≤ 20 := by rw [ofL_size, List.length_tail]; omega
  have z5 : (ofL (dgs k)).size ≤ 20 := by rw [ofL_size]; exact dgs_len20 k (by omega)
  have HK := hid hk
  obtain ⟨hc1, hc2⟩ := hc
  clear hk
  go_enter Tryz.func77, Tryz.ntmps77
  go_wp2_with fail
  refine (HS.out _).mono ?_
  rintro e w1 ⟨rfl, hF⟩
  have HF := hid hF
  clear hF
  go_wp2_with (go_at_call 134; refine (rdecimal_int _ k (by have := HK.out; omega) (by omega) _).mono ?_; rintro e w' ⟨rfl, rfl⟩)
  go_ret2
  refine ⟨congrArg (fun t => Ending.returned (Value.tuple #[Value.string t, .int .i64 0])) (?_ : _ = ofL ([] ++ layL d x)), HF.out⟩
  rw [HR.out]
  apply ByteArray.ext
  simp [ofL]
set_option maxRecDepth 100000 in
set_option maxHeartbeats 4000000 in
theorem rprint_gn (BB MM : Int) (d : List UInt8) (x : Int) (w : World) (hneg : decide ((9223372036854775808 : Int) ≤ BB) = true) (hsub : IntKind.u64.wrap (BB - 9223372036854775808) = MM) (hfin : decide ((9218868437227405312 : Int) ≤ MM) = false) (h0 : (MM == 0) = false)
    (hd0 : 0 < d.length) (hd : d.length ≤ 20) (hx1 : -5000 ≤ x) (hx2 : x ≤ 5000)
    (hS : ∀ w, Calls Tryz.prog 132 #[.int .u64 MM] w fun e w' => e = .returned (.tuple #[.string (ofL d), .int .i64 x]) ∧ Fr (fun _ => False) w w') (hc : 21 < (d.length : Int) + x ∧ 1 < d.length) :
    Calls Tryz.prog 77 #[.int .u64 BB] w fun e w' => e = .returned (.tuple #[.string (ofL ([45] ++ layL d x)), .int .i64 0]) ∧ Fr (fun _ => False) w w' := by
  have HS := hid hS
  have hxx := And.intro (And.intro hx1 hx2) (And.intro hd0 hd)
  clear hS hxx
  have hsz := ofL_size d
  obtain ⟨k, hk⟩ : ∃ k : Nat, (d.length : Int) + x - 1 = k := ⟨((d.length : Int) + x - 1).toNat, by omega⟩
  have hkk : k < 6000 := by omega
  have HR := hid (show layL d x = d.take 1 ++ (46 :: d.drop 1) ++ ([101, 43] ++ dgs k) from by
    rw [layL, if_pos (by omega), expL, if_pos (by omega), if_neg (by omega)]
    rw [show ((d.length : Int) + x - 1).toNat = k by omega])
  have e1 : (ofL d).extract 0 1 = ofL (d.take 1) := by rw [ofL_extract, List.drop_zero]
  have e2 : (ofL d).extract 1 d.length = ofL (d.drop 1) := by rw [ofL_extract, List.take_length]
  have z3 : (ofL (d.take 1)).size ≤ 20 := by rw [ofL_size]; simp; omega
  have z4 : (ofL d.tail).size ≤ 20 := by rw [ofL_size, List.length_tail]; omega
  have z5 : (ofL (dgs k)).size ≤ 20 := by rw [ofL_size]; exact dgs_len20 k (by omega)
  have HK := hid hk
  obtain ⟨hc1, hc2⟩ := hc
  clear hk
  go_enter Tryz.func77, Tryz.ntmps77
  go_wp2_with fail
  refine (HS.out _).mono ?_
  rintro e w1 ⟨rfl, hF⟩
  have HF := hid hF
  clear hF
  go_wp2_with (go_at_call 134; refine (rdecimal_int _ k (by have := HK.out; omega) (by omega) _).mono ?_; rintro e w' ⟨rfl, rfl⟩)
  go_ret2
  refine ⟨congrArg (fun t => Ending.returned (Value.tuple #[Value.string t, .int .i64 0])) (?_ : _ = ofL ([45] ++ layL d x)), HF.out⟩
  rw [HR.out]
  apply ByteArray.ext
  simp [ofL]
set_option maxRecDepth 100000 in
set_option maxHeartbeats 4000000 in
theorem rprint_hp (BB : Int) (d : List UInt8) (x : Int) (w : World) (hneg : decide ((9223372036854775808 : Int) ≤ BB) = false) (hfin : decide ((9218868437227405312 : Int) ≤ BB) = false) (h0 : (BB == 0) = false)
    (hd0 : 0 < d.length) (hd : d.length ≤ 20) (hx1 : -5000 ≤ x) (hx2 : x ≤ 5000)
    (hS : ∀ w, Calls Tryz.prog 132 #[.int .u64 BB] w fun e w' => e = .returned (.tuple #[.string (ofL d), .int .i64 x]) ∧ Fr (fun _ => False) w w') (hc : 21 < (d.length : Int) + x ∧ d.length = 1) :
    Calls Tryz.prog 77 #[.int .u64 BB] w fun e w' => e = .returned (.tuple #[.string (ofL ([] ++ layL d x)), .int .i64 0]) ∧ Fr (fun _ => False) w w' := by
  have HS := hid hS
  have hxx := And.intro (And.intro hx1 hx2) (And.intro hd0 hd)
  clear hS hxx
  have hsz := ofL_size d
  obtain ⟨k, hk⟩ : ∃ k : Nat, (d.length : Int) + x - 1 = k := ⟨((d.length : Int) + x - 1).toNat, by omega⟩
  have hkk : k < 6000 := by omega
  have HR := hid (show layL d x = d.take 1 ++ [] ++ ([101, 43] ++ dgs k) from by
    rw [layL, if_pos (by omega), expL, if_neg (by omega), if_neg (by omega)]
    rw [show ((d.length : Int) + x - 1).toNat = k by omega])
  have e1 : (ofL d).extract 0 1 = ofL (d.take 1) := by rw [ofL_extract, List.drop_zero]
  have e2 : (ofL d).extract 1 d.length = ofL (d.drop 1) := by rw [ofL_extract, List.take_length]
  have z3 : (ofL (d.take 1)).size ≤ 20 := by rw [ofL_size]; simp; omega
  have z4 : (ofL d.tail).size ≤ 20 := by rw [ofL_size, List.length_tail]; omega
  have z5 : (ofL (dgs k)).size ≤ 20 := by rw [ofL_size]; exact dgs_len20 k (by omega)
  have HK := hid hk
  obtain ⟨hc1, hc2⟩ := hc
  clear hk
  go_enter Tryz.func77, Tryz.ntmps77
  go_wp2_with fail
  refine (HS.out _).mono ?_
  rintro e w1 ⟨rfl, hF⟩
  have HF := hid hF
  clear hF
  go_wp2_with (go_at_call 134; refine (rdecimal_int _ k (by have := HK.out; omega) (by omega) _).mono ?_; rintro e w' ⟨rfl, rfl⟩)
  go_ret2
  refine ⟨congrArg (fun t => Ending.returned (Value.tuple #[Value.string t, .int .i64 0])) (?_ : _ = ofL ([] ++ layL d x)), HF.out⟩
  rw [HR.out]
  apply ByteArray.ext
  simp [ofL]
set_option maxRecDepth 100000 in
set_option maxHeartbeats 4000000 in
theorem rprint_hn (BB MM : Int) (d : List UInt8) (x : Int) (w : World) (hneg : decide ((9223372036854775808 : Int) ≤ BB) = true) (hsub : IntKind.u64.wrap (BB - 9223372036854775808) = MM) (hfin : decide ((9218868437227405312 : Int) ≤ MM) = false) (h0 : (MM == 0) = false)
    (hd0 : 0 < d.length) (hd : d.length ≤ 20) (hx1 : -5000 ≤ x) (hx2 : x ≤ 5000)
    (hS : ∀ w, Calls Tryz.prog 132 #[.int .u64 MM] w fun e w' => e = .returned (.tuple #[.string (ofL d), .int .i64 x]) ∧ Fr (fun _ => False) w w') (hc : 21 < (d.length : Int) + x ∧ d.length = 1) :
    Calls Tryz.prog 77 #[.int .u64 BB] w fun e w' => e = .returned (.tuple #[.string (ofL ([45] ++ layL d x)), .int .i64 0]) ∧ Fr (fun _ => False) w w' := by
  have HS := hid hS
  have hxx := And.intro (And.intro hx1 hx2) (And.intro hd0 hd)
  clear hS hxx
  have hsz := ofL_size d
  obtain ⟨k, hk⟩ : ∃ k : Nat, (d.length : Int) + x - 1 = k := ⟨((d.length : Int) + x - 1).toNat, by omega⟩
  have hkk : k < 6000 := by omega
  have HR := hid (show layL d x = d.take 1 ++ [] ++ ([101, 43] ++ dgs k) from by
    rw [layL, if_pos (by omega), expL, if_neg (by omega), if_neg (by omega)]
    rw [show ((d.length : Int) + x - 1).toNat = k by omega])
  have e1 : (ofL d).extract 0 1 = ofL (d.take 1) := by rw [ofL_extract, List.drop_zero]
  have e2 : (ofL d).extract 1 d.length = ofL (d.drop 1) := by rw [ofL_extract, List.take_length]
  have z3 : (ofL (d.take 1)).size ≤ 20 := by rw [ofL_size]; simp; omega
  have z4 : (ofL d.tail).size ≤ 20 := by rw [ofL_size, List.length_tail]; omega
  have z5 : (ofL (dgs k)).size ≤ 20 := by rw [ofL_size]; exact dgs_len20 k (by omega)
  have HK := hid hk
  obtain ⟨hc1, hc2⟩ := hc
  clear hk
  go_enter Tryz.func77, Tryz.ntmps77
  go_wp2_with fail
  refine (HS.out _).mono ?_
  rintro e w1 ⟨rfl, hF⟩
  have HF := hid hF
  clear hF
  go_wp2_with (go_at_call 134; refine (rdecimal_int _ k (by have := HK.out; omega) (by omega) _).mono ?_; rintro e w' ⟨rfl, rfl⟩)
  go_ret2
  refine ⟨congrArg (fun t => Ending.returned (Value.tuple #[Value.string t, .int .i64 0])) (?_ : _ = ofL ([45] ++ layL d x)), HF.out⟩
  rw [HR.out]
  apply ByteArray.ext
  simp [ofL]
theorem rprint_p (BB : Int) (d : List UInt8) (x : Int) (w : World) (hneg : decide ((9223372036854775808 : Int) ≤ BB) = false) (hfin : decide ((9218868437227405312 : Int) ≤ BB) = false) (h0 : (BB == 0) = false)
    (hd0 : 0 < d.length) (hd : d.length ≤ 20) (hx1 : -5000 ≤ x) (hx2 : x ≤ 5000)
    (hS : ∀ w, Calls Tryz.prog 132 #[.int .u64 BB] w fun e w' => e = .returned (.tuple #[.string (ofL d), .int .i64 x]) ∧ Fr (fun _ => False) w w') :
    Calls Tryz.prog 77 #[.int .u64 BB] w fun e w' => e = .returned (.tuple #[.string (ofL ([] ++ layL d x)), .int .i64 0]) ∧ Fr (fun _ => False) w w' := by
  by_cases h1 : 21 < (d.length : Int) + x
  · by_cases h2 : d.length = 1
    · exact rprint_hp BB d x w hneg hfin h0 hd0 hd hx1 hx2 hS ⟨h1, h2⟩
    · exact rprint_gp BB d x w hneg hfin h0 hd0 hd hx1 hx2 hS ⟨h1, by omega⟩
  · by_cases h3 : (d.length : Int) + x < -5
    · by_cases h2 : d.length = 1
      · exact rprint_fp BB d x w hneg hfin h0 hd0 hd hx1 hx2 hS ⟨h3, h2⟩
      · exact rprint_ep BB d x w hneg hfin h0 hd0 hd hx1 hx2 hS ⟨h3, by omega⟩
    · by_cases h4 : (d.length : Int) + x ≤ 0
      · exact rprint_cp BB d x w hneg hfin h0 hd0 hd hx1 hx2 hS ⟨by omega, h4⟩
      · by_cases h5 : 0 ≤ x
        · exact rprint_ap BB d x w hneg hfin h0 hd0 hd hx1 hx2 hS ⟨by omega, by omega, h5⟩
        · exact rprint_bp BB d x w hneg hfin h0 hd0 hd hx1 hx2 hS ⟨by omega, by omega, by omega⟩
theorem rprint_n (BB MM : Int) (d : List UInt8) (x : Int) (w : World) (hneg : decide ((9223372036854775808 : Int) ≤ BB) = true) (hsub : IntKind.u64.wrap (BB - 9223372036854775808) = MM) (hfin : decide ((9218868437227405312 : Int) ≤ MM) = false) (h0 : (MM == 0) = false)
    (hd0 : 0 < d.length) (hd : d.length ≤ 20) (hx1 : -5000 ≤ x) (hx2 : x ≤ 5000)
    (hS : ∀ w, Calls Tryz.prog 132 #[.int .u64 MM] w fun e w' => e = .returned (.tuple #[.string (ofL d), .int .i64 x]) ∧ Fr (fun _ => False) w w') :
    Calls Tryz.prog 77 #[.int .u64 BB] w fun e w' => e = .returned (.tuple #[.string (ofL ([45] ++ layL d x)), .int .i64 0]) ∧ Fr (fun _ => False) w w' := by
  by_cases h1 : 21 < (d.length : Int) + x
  · by_cases h2 : d.length = 1
    · exact rprint_hn BB MM d x w hneg hsub hfin h0 hd0 hd hx1 hx2 hS ⟨h1, h2⟩
    · exact rprint_gn BB MM d x w hneg hsub hfin h0 hd0 hd hx1 hx2 hS ⟨h1, by omega⟩
  · by_cases h3 : (d.length : Int) + x < -5
    · by_cases h2 : d.length = 1
      · exact rprint_fn BB MM d x w hneg hsub hfin h0 hd0 hd hx1 hx2 hS ⟨h3, h2⟩
      · exact rprint_en BB MM d x w hneg hsub hfin h0 hd0 hd hx1 hx2 hS ⟨h3, by omega⟩
    · by_cases h4 : (d.length : Int) + x ≤ 0
      · exact rprint_cn BB MM d x w hneg hsub hfin h0 hd0 hd hx1 hx2 hS ⟨by omega, h4⟩
      · by_cases h5 : 0 ≤ x
        · exact rprint_an BB MM d x w hneg hsub hfin h0 hd0 hd hx1 hx2 hS ⟨by omega, by omega, h5⟩
        · exact rprint_bn BB MM d x w hneg hsub hfin h0 hd0 hd hx1 hx2 hS ⟨by omega, by omega, by omega⟩
end Go.Proofs.YtmkkibaacclhnaaGreatDoor

namespace Go.Proofs.YtmkkibaacclhnaaGreatDoor
open Go.RowKit

set_option maxRecDepth 100000 in
set_option maxHeartbeats 2000000 in
theorem rprint_zerop (w : World) : Calls Tryz.prog 77 #[.int .u64 0] w fun e w' => e = .returned (.tuple #[.string (ofL [48]), .int .i64 0]) ∧ w' = w := by
  go_enter Tryz.func77, Tryz.ntmps77
  go_wp2
  go_ret2
  exact ⟨rfl, rfl⟩
set_option maxRecDepth 100000 in
set_option maxHeartbeats 2000000 in
theorem rprint_zeron (w : World) : Calls Tryz.prog 77 #[.int .u64 9223372036854775808] w fun e w' => e = .returned (.tuple #[.string (ofL [45, 48]), .int .i64 0]) ∧ w' = w := by
  go_enter Tryz.func77, Tryz.ntmps77
  go_wp2
  go_ret2
  exact ⟨rfl, rfl⟩
end Go.Proofs.YtmkkibaacclhnaaGreatDoor

namespace Go.Proofs.YtmkkibaacclhnaaGreatDoor
open Go.RowKit

theorem tenth_rnd : RndAt 1 (-1) 4591870180066957722 := by
  show Rnd (1 * pP (-1)) (p10 1) 4591870180066957722
  unfold Rnd
  decide +kernel
theorem tenth_a : mid 4591870180066957722 < 2 * p2 1074 := by decide +kernel
theorem tenth_b : mid 4591870180066957722 * 10 < 4 * p2 1074 := by decide +kernel
theorem tenth_c : 2 * p2 1074 < mid 4591870180066957721 * 100 := by decide +kernel
theorem tenth_pred : 4591870180066957722 - 1 = 4591870180066957721 := by omega
theorem tenth_short {D : Nat} {pw : Int} (h : Short 4591870180066957722 D pw) : D = 1 ∧ pw = -1 := by
  have hr := h.rnd (by omega)
  have hpos := hr.pos (by omega)
  have e2 : D * pP pw = D * p10 pw.toNat * p2 1074 := by rw [pP, Nat.mul_assoc]
  have hp := p2_pos 1074
  have hup : pw ≤ -1 := by
    rcases Int.lt_or_le (-1) pw with h1 | h1
    · exfalso
      obtain ⟨_, b⟩ := hr
      rw [e2, show (-pw).toNat = 0 by omega, show p10 0 = 1 from rfl, Nat.mul_one] at b
      have h2 : 1 * p2 1074 ≤ D * p10 pw.toNat * p2 1074 := Nat.mul_le_mul_right _ (Nat.mul_pos hpos (p10_pos _))
      have := tenth_a
      omega
    · exact h1
  have hlo : -1 ≤ pw := by
    rcases Int.lt_or_le pw (-1) with h1 | h1
    · exfalso
      obtain ⟨dg, R, L, H, U, hI, hpk, hd⟩ := h
      rcases hd with rfl | hd
      · have hD1 : D = 1 := by rcases pick_true hpk with rfl | rfl <;> omega
        obtain ⟨a, _⟩ := hr
        have hk : mid (4591870180066957722 - 1) * p10 (-pw).toNat ≤ 2 * (D * pP pw) := by
          rcases a with a | a | ⟨a, _⟩
          · exact absurd a (by decide)
          · exact Nat.le_of_lt a
          · exact Nat.le_of_eq a
        rw [tenth_pred] at hk
        have hz : D * pP pw = p2 1074 := by
          rw [e2, hD1, show pw.toNat = 0 by omega, show p10 0 = 1 from rfl, Nat.one_mul]
        rw [hz] at hk
        have h3 := p10_le 2 (-pw).toNat (by omega)
        have h4 : p10 2 = 100 := rfl
        rw [h4] at h3
        have h5 := Nat.mul_le_mul_left (mid 4591870180066957721) h3
        exact absurd tenth_c (Nat.not_lt.2 (Nat.le_trans h5 hk))
      · refine hd.none (by omega) (1 * p10 (-2 - pw).toNat) ?_
        have := tenth_rnd.same (SameV.shift 1 (-2 - pw).toNat (-1))
        rwa [show (-1 : Int) - ((-2 - pw).toNat : Int) = pw + 1 by omega] at this
    · exact h1
  obtain rfl : pw = -1 := by omega
  refine ⟨?_, rfl⟩
  obtain ⟨_, b⟩ := hr
  rw [e2, show (-1 : Int).toNat = 0 from rfl, show p10 0 = 1 from rfl, Nat.mul_one, show (-(-1 : Int)).toNat = 1 from rfl, show p10 1 = 10 from rfl] at b
  have := tenth_b
  rcases Nat.lt_or_ge D 2 with h1 | h1
  · omega
  · exfalso
    have h2 : 2 * p2 1074 ≤ D * p2 1074 := Nat.mul_le_mul_right _ h1
    omega
theorem tenth_tok : Tok [48, 46, 49] [48] [49] [] [] false :=
  ⟨rfl, by intro c hc; simp at hc; subst hc; decide, by intro c hc; simp at hc; subst hc; decide, allD_nil, .inl ⟨rfl, rfl⟩, fun _ => rfl, by simp, by simp⟩
theorem shown_p1 (w : World) : Calls Tryz.prog 22 #[.string ⟨#[48, 46, 49]⟩] w fun e w' => e = .returned (.tuple #[.int .u64 4591870180066957722, .int .i64 0]) ∧ Fr (fun _ => False) w w' := by
  refine parse_val (m := 4591870180066957722) tenth_tok (by decide) (by decide) (by omega) (fun h => by omega) (fun _ => ?_) w
  rw [powI_nil]
  exact tenth_rnd
theorem shown_p2 (w : World) : Calls Tryz.prog 22 #[.string ⟨#[49, 46]⟩] w fun e w' => e = .returned (.tuple #[.int .u64 0, .int .i64 3]) ∧ Fr (fun _ => False) w w' := by
  have := parse_run [49, 46] w (by decide)
  refine Calls.mono this ?_
  rintro e w' ⟨⟨_, h2⟩, hF⟩
  refine ⟨h2 ?_, hF⟩
  intro t ht
  have hr : run t0 [49, 46] = some ⟨4, false, [1], 1, 0, false⟩ := rfl
  rw [hr] at ht
  cases ht
  unfold Ends
  simp
theorem shown_p3 (w : World) : Calls Tryz.prog 23 #[.int .u64 4591870180066957722] w fun e w' => e = .returned (.tuple #[.string ⟨#[48, 46, 49]⟩, .int .i64 0]) ∧ Fr (fun _ => False) w w' := by
  refine (print_num 4591870180066957722 4591870180066957722 w (u64_andNot_sign 4591870180066957722 (by omega)) (by omega) (by omega)).mono ?_
  rintro e w' ⟨D, pw, hs, _, _, _, he, hF⟩
  obtain ⟨rfl, rfl⟩ := tenth_short hs
  have h1 : dgs 1 = [49] := by rw [dgs_lt (by omega)]; rfl
  rw [h1] at he
  exact ⟨he, hF⟩
set_option maxRecDepth 100000 in
set_option maxHeartbeats 2000000 in
theorem shown_any (w : World) : Calls Tryz.prog 7 #[] w fun e w' => e = .returned (.bool true) ∧ Fr (fun _ => False) w w' := by
  go_enter Tryz.func7, Tryz.ntmps7
  go_wp2_with fail
  refine (shown_p1 _).mono ?_
  rintro e w1 ⟨rfl, hF1⟩
  go_wp2_with fail
  refine (shown_p2 _).mono ?_
  rintro e w2 ⟨rfl, hF2⟩
  go_wp2_with fail
  refine (shown_p3 _).mono ?_
  rintro e w3 ⟨rfl, hF3⟩
  go_wp2_with (go_at_call 10; refine (num_any _ _).mono ?_; rintro e w' ⟨rfl, rfl⟩)
  go_ret
  exact ⟨rfl, (hF1.trans hF2).trans hF3⟩
end Go.Proofs.YtmkkibaacclhnaaGreatDoor
