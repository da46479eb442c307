/-
  A step of the walk, the part named Wn. No theorem of the row.
-/
import Derived.Test.YtmkkibaacclhnaaGreatDoorWl
namespace Go.Proofs.YtmkkibaacclhnaaGreatDoor
open Go.RowKit

/-- so many values, or pairs, one behind the other: how many items -/
def partsG (sz : List Im → Nat) (obj : Bool) : Nat → List Im → Option Nat
  | 0, _ => some 0
  | c + 1, l =>
    if obj = true then
      match l with
      | [] => none
      | k :: r => if k.k = 4 ∧ goodI k = true then (if sz r = 0 then none else (partsG sz obj c (r.drop (sz r))).map (fun m => 1 + sz r + m)) else none
    else if sz l = 0 then none else (partsG sz obj c (l.drop (sz l))).map (fun m => sz l + m)
def outN : Option Nat → Nat
  | none => 0
  | some m => m + 1
/-- how many items the value at the front has, so deep at most; 0: it is none -/
def sizeD : Nat → List Im → Nat
  | _, [] => 0
  | 0, x :: _ => if goodI x = true ∧ x.k < 5 then 1 else 0
  | d + 1, x :: r => if goodI x = true then (if x.k < 5 then 1 else outN (partsG (sizeD d) (decide (x.k = 6)) x.n.toNat r)) else 0
/-- a list of items that can be read -/
def LR (w : World) (pa : Option Addr) (l : List Im) : Prop := l ≠ [] → ∃ ad, pa = some ad ∧ ad.block < w.heap.size ∧ ∀ i x, l[i]? = some x →
  w.cell? (ad.add (i * 4)) = some (.int .i64 x.k) ∧ w.cell? ((ad.add (i * 4)).add 1) = some (.int .i64 x.n) ∧ w.cell? ((ad.add (i * 4)).add 2) = some (.int .u64 (x.b : Int)) ∧ w.cell? ((ad.add (i * 4)).add 3) = some (.string (ofL x.s))
theorem add_block (a : Addr) (i : Nat) : (a.add i).block = a.block := by unfold Addr.add; split <;> rfl
theorem LR.fr {w w' : World} {pa : Option Addr} {l : List Im} (h : LR w pa l) (hf : Fr (fun _ => False) w w') : LR w' pa l := by
  intro hl
  obtain ⟨ad, h1, h2, h3⟩ := h hl
  refine ⟨ad, h1, Nat.lt_of_lt_of_le h2 hf.size, fun i x hx => ?_⟩
  obtain ⟨a, b, c, d⟩ := h3 i x hx
  have k : ∀ j, w'.cell? (ad.add j) = w.cell? (ad.add j) := fun j => hf.cell (p := ad.add j) (by rw [add_block]; exact h2) id
  have k2 : ∀ j m, w'.cell? ((ad.add j).add m) = w.cell? ((ad.add j).add m) := fun j m => hf.cell (p := (ad.add j).add m) (by rw [add_block, add_block]; exact h2) id
  exact ⟨by rw [k]; exact a, by rw [k2]; exact b, by rw [k2]; exact c, by rw [k2]; exact d⟩
theorem LR.drop {w : World} {ad : Addr} {l : List Im} (h : LR w (some ad) l) (n : Nat) : LR w (some (ad.add (n * 4))) (l.drop n) := by
  intro hl
  obtain ⟨ad', h1, h2, h3⟩ := h (by rintro rfl; simp at hl)
  obtain rfl : ad = ad' := by simpa using h1
  refine ⟨_, rfl, by rw [add_block]; exact h2, fun i x hx => ?_⟩
  rw [List.getElem?_drop] at hx
  have := h3 (n + i) x hx
  rw [Addr.add_add, show n * 4 + i * 4 = (n + i) * 4 by omega]
  exact this
/-- the cells of one of them, as the walk reads them -/
theorem LR.at_ {w : World} {ad : Addr} {l : List Im} (h : LR w (some ad) l) {i : Nat} {x : Im} (hx : l[i]? = some x) :
    w.cell? (ad.add (i * 4)) = some (.int .i64 x.k) ∧ w.cell? ⟨(ad.add (i * 4)).block, (ad.add (i * 4)).off + 1, none⟩ = some (.int .i64 x.n) ∧ w.cell? ⟨(ad.add (i * 4)).block, (ad.add (i * 4)).off + 2, none⟩ = some (.int .u64 (x.b : Int)) ∧ w.cell? ⟨(ad.add (i * 4)).block, (ad.add (i * 4)).off + 3, none⟩ = some (.string (ofL x.s)) := by
  obtain ⟨ad', h1, h2, h3⟩ := h (by rintro rfl; simp at hx)
  obtain rfl : ad = ad' := by simpa using h1
  obtain ⟨a, b, c, d⟩ := h3 i x hx
  exact ⟨a, by simpa [Addr.add] using b, by simpa [Addr.add] using c, by simpa [Addr.add] using d⟩
theorem LR.at0 {w : World} {ad : Addr} {x : Im} {r : List Im} (h : LR w (some ad) (x :: r)) :
    w.cell? ad = some (.int .i64 x.k) ∧ w.cell? ⟨ad.block, ad.off + 1, none⟩ = some (.int .i64 x.n) ∧ w.cell? ⟨ad.block, ad.off + 2, none⟩ = some (.int .u64 (x.b : Int)) ∧ w.cell? ⟨ad.block, ad.off + 3, none⟩ = some (.string (ofL x.s)) := by
  have := h.at_ (i := 0) (x := x) rfl
  simpa [Addr.add] using this
def SizeOk (d : Nat) : Prop := ∀ (w : World) (pa : Option Addr) (cap inn : Nat) (l : List Im), d + inn = 1000 → LR w pa l → l.length ≤ cap → cap ≤ 1000000000 → (∀ x, x ∈ l → x.s.length ≤ 100000000) →
  Calls Tryz.prog 46 #[.slice pa l.length cap, .int .i64 (inn : Int)] w fun e w' => e = .returned (.int .i64 ((sizeD d l : Nat) : Int)) ∧ Fr (fun _ => False) w w'
set_option maxRecDepth 100000 in
set_option maxHeartbeats 8000000 in
theorem size_nil (w : World) (pa : Option Addr) (cap inn : Nat) :
    Calls Tryz.prog 46 #[.slice pa 0 cap, .int .i64 (inn : Int)] w fun e w' => e = .returned (.int .i64 0) ∧ Fr (fun _ => False) w w' := by
  have HF := hid (Fr.refl (fun _ => False) w)
  go_enter Tryz.func46, Tryz.ntmps46
  go_wp2
  go_ret
  exact ⟨rfl, HF.out⟩
set_option maxRecDepth 100000 in
set_option maxHeartbeats 16000000 in
theorem size_deep (w : World) (ad : Addr) (cap inn : Nat) (x : Im) (r : List Im) (hinn : inn ≤ 1000) (h : LR w (some ad) (x :: r)) (_hcap : r.length + 1 ≤ cap) (_hc : cap ≤ 1000000000) (hs : x.s.length ≤ 100000000) (hd : inn = 1000) (hk : 5 ≤ x.k) :
    Calls Tryz.prog 46 #[.slice (some ad) (r.length + 1) cap, .int .i64 (inn : Int)] w fun e w' => e = .returned (.int .i64 0) ∧ Fr (fun _ => False) w w' := by
  have HC := hid (fun (wx : World) (hf : Fr (fun _ => False) w wx) => (h.fr hf).at0)
  obtain ⟨c0, c1, c2, c3⟩ := h.at0
  have HF := hid (Fr.refl (fun _ => False) w)
  have HG := hid (fun w => good_any x w hs)
  obtain ⟨k, n, b, s⟩ := x
  simp only at c0 c1 c2 c3 hs
  have hnz : (((r.length + 1 : Nat) : Int) == 0) = false := beq_eq_false_iff_ne.2 (by omega)
  have hnz2 : ((r.length : Int) + 1 == 0) = false := beq_eq_false_iff_ne.2 (by omega)
  have hnz3 : (0 : Int) < (r.length : Int) + 1 := by omega
  generalize r.length = rl at *
  clear h hs
  subst hd
  simp only at hk
  have hk2 : decide ((5 : Int) ≤ k) = true := decide_eq_true hk
  go_enter Tryz.func46, Tryz.ntmps46
  go_wp2
  go_ret
  exact ⟨rfl, HF.out⟩
set_option maxRecDepth 100000 in
set_option maxHeartbeats 16000000 in
theorem size_bad (w : World) (ad : Addr) (cap inn : Nat) (x : Im) (r : List Im) (hinn : inn ≤ 1000) (h : LR w (some ad) (x :: r)) (_hcap : r.length + 1 ≤ cap) (_hc : cap ≤ 1000000000) (hs : x.s.length ≤ 100000000) (hd : inn < 1000 ∨ x.k < 5) (hg : goodI x = false) :
    Calls Tryz.prog 46 #[.slice (some ad) (r.length + 1) cap, .int .i64 (inn : Int)] w fun e w' => e = .returned (.int .i64 0) ∧ Fr (fun _ => False) w w' := by
  have HC := hid (fun (wx : World) (hf : Fr (fun _ => False) w wx) => (h.fr hf).at0)
  obtain ⟨c0, c1, c2, c3⟩ := h.at0
  have HF := hid (Fr.refl (fun _ => False) w)
  have HG := hid (fun w => good_any x w hs)
  obtain ⟨k, n, b, s⟩ := x
  simp only at c0 c1 c2 c3 hs
  have hnz : (((r.length + 1 : Nat) : Int) == 0) = false := beq_eq_false_iff_ne.2 (by omega)
  have hnz2 : ((r.length : Int) + 1 == 0) = false := beq_eq_false_iff_ne.2 (by omega)
  have hnz3 : (0 : Int) < (r.length : Int) + 1 := by omega
  generalize r.length = rl at *
  clear h hs
  simp only at hd
  have ht : (decide ((1000 : Int) ≤ (inn : Int)) = false) ∨ (decide ((1000 : Int) ≤ (inn : Int)) = true ∧ decide ((5 : Int) ≤ k) = false) := by
    by_cases h1 : inn < 1000
    · exact .inl (decide_eq_false (by omega))
    · exact .inr ⟨decide_eq_true (by omega), decide_eq_false (by omega)⟩
  rw [hg] at HG
  clear hg hd
  rcases ht with ht | ⟨ht1, ht2⟩
  · go_enter Tryz.func46, Tryz.ntmps46
    go_wp2_with fail
    refine Calls.mono (HG.out _) ?_
    rintro e w2 ⟨rfl, hf2⟩
    have HF2 := hid hf2
    obtain ⟨d0, d1, d2, d3⟩ := HC.out w2 hf2
    clear hf2 c0 c1 c2 c3
    go_wp2
    go_ret
    exact ⟨rfl, HF2.out⟩
  · go_enter Tryz.func46, Tryz.ntmps46
    go_wp2_with fail
    refine Calls.mono (HG.out _) ?_
    rintro e w2 ⟨rfl, hf2⟩
    have HF2 := hid hf2
    obtain ⟨d0, d1, d2, d3⟩ := HC.out w2 hf2
    clear hf2 c0 c1 c2 c3
    go_wp2
    go_ret
    exact ⟨rfl, HF2.out⟩
theorem goodI_n {x : Im} (h : goodI x = true) (hk : x.k < 5) : x.n = 0 := by
  unfold goodI at h
  split at h
  · simp at h; exact h.1.1
  · split at h
    · simp at h; exact h.1.1
    · split at h
      · simp at h; exact h.1.1
      · rw [if_neg (by omega)] at h; cases h
theorem goodI_nest {x : Im} (h : goodI x = true) (hk : ¬ x.k < 5) : (x.k = 5 ∨ x.k = 6) ∧ 0 ≤ x.n := by
  unfold goodI at h
  rw [if_neg (by omega), if_neg (by omega), if_neg (by omega)] at h
  split at h
  · rename_i h2
    simp at h
    exact ⟨h2, h.1.1⟩
  · cases h
set_option maxRecDepth 100000 in
set_option maxHeartbeats 16000000 in
theorem size_leaf (w : World) (ad : Addr) (cap inn : Nat) (x : Im) (r : List Im) (hinn : inn ≤ 1000) (h : LR w (some ad) (x :: r)) (_hcap : r.length + 1 ≤ cap) (_hc : cap ≤ 1000000000) (hs : x.s.length ≤ 100000000) (hd : x.k < 5) (hg : goodI x = true) :
    Calls Tryz.prog 46 #[.slice (some ad) (r.length + 1) cap, .int .i64 (inn : Int)] w fun e w' => e = .returned (.int .i64 1) ∧ Fr (fun _ => False) w w' := by
  have HC := hid (fun (wx : World) (hf : Fr (fun _ => False) w wx) => (h.fr hf).at0)
  obtain ⟨c0, c1, c2, c3⟩ := h.at0
  have HF := hid (Fr.refl (fun _ => False) w)
  have HG := hid (fun w => good_any x w hs)
  obtain ⟨k, n, b, s⟩ := x
  simp only at c0 c1 c2 c3 hs
  have hnz : (((r.length + 1 : Nat) : Int) == 0) = false := beq_eq_false_iff_ne.2 (by omega)
  have hnz2 : ((r.length : Int) + 1 == 0) = false := beq_eq_false_iff_ne.2 (by omega)
  have hnz3 : (0 : Int) < (r.length : Int) + 1 := by omega
  generalize r.length = rl at *
  clear h hs
  have hn0 : n = 0 := goodI_n hg hd
  subst hn0
  simp only at hd
  have ht : (decide ((1000 : Int) ≤ (inn : Int)) = false) ∨ (decide ((1000 : Int) ≤ (inn : Int)) = true ∧ decide ((5 : Int) ≤ k) = false) := by
    by_cases h1 : inn < 1000
    · exact .inl (decide_eq_false (by omega))
    · exact .inr ⟨decide_eq_true (by omega), decide_eq_false (by omega)⟩
  rw [hg] at HG
  clear hg hd
  rcases ht with ht | ⟨ht1, ht2⟩
  · go_enter Tryz.func46, Tryz.ntmps46
    go_wp2_with fail
    refine Calls.mono (HG.out _) ?_
    rintro e w2 ⟨rfl, hf2⟩
    have HF2 := hid hf2
    obtain ⟨d0, d1, d2, d3⟩ := HC.out w2 hf2
    clear hf2 c0 c1 c2 c3
    go_wp2
    go_loopw [6, 7] (fun s t wr => s = .int .i64 1 ∧ t = .int .i64 0 ∧ wr = w2) (fun _ _ _ => 0)
    case atStart => exact ⟨rfl, rfl, rfl⟩
    case round =>
      obtain ⟨rfl, rfl, rfl⟩ := hrel
      go_wp2
      go_ret
      exact ⟨rfl, HF2.out⟩
  · go_enter Tryz.func46, Tryz.ntmps46
    go_wp2_with fail
    refine Calls.mono (HG.out _) ?_
    rintro e w2 ⟨rfl, hf2⟩
    have HF2 := hid hf2
    obtain ⟨d0, d1, d2, d3⟩ := HC.out w2 hf2
    clear hf2 c0 c1 c2 c3
    go_wp2
    go_loopw [6, 7] (fun s t wr => s = .int .i64 1 ∧ t = .int .i64 0 ∧ wr = w2) (fun _ _ _ => 0)
    case atStart => exact ⟨rfl, rfl, rfl⟩
    case round =>
      obtain ⟨rfl, rfl, rfl⟩ := hrel
      go_wp2
      go_ret
      exact ⟨rfl, HF2.out⟩
end Go.Proofs.YtmkkibaacclhnaaGreatDoor

namespace Go.Proofs.YtmkkibaacclhnaaGreatDoor
open Go.RowKit

theorem partsG_le {sz : List Im → Nat} (h : ∀ l, sz l ≤ l.length) (obj : Bool) (c : Nat) (l : List Im) (m : Nat) (hm : partsG sz obj c l = some m) : m ≤ l.length := by
  induction c generalizing l m with
  | zero => simp [partsG] at hm; omega
  | succ c ih =>
    cases obj with
    | true =>
      cases l with
      | nil => simp [partsG] at hm
      | cons k r =>
        simp only [partsG, if_true] at hm
        split at hm
        · split at hm
          · cases hm
          · obtain ⟨m', h1, rfl⟩ := Option.map_eq_some_iff.1 hm
            have h2 := ih _ _ h1
            have h3 := h r
            rw [List.length_drop] at h2
            simp only [List.length_cons]
            omega
        · cases hm
    | false =>
      simp only [partsG, Bool.false_eq_true, if_false] at hm
      split at hm
      · cases hm
      · obtain ⟨m', h1, rfl⟩ := Option.map_eq_some_iff.1 hm
        have h2 := ih _ _ h1
        have h3 := h l
        rw [List.length_drop] at h2
        omega
theorem sizeD_le (d : Nat) (l : List Im) : sizeD d l ≤ l.length := by
  induction d generalizing l with
  | zero =>
    cases l with
    | nil => simp [sizeD]
    | cons x r => simp only [sizeD, List.length_cons]; split <;> omega
  | succ d ih =>
    cases l with
    | nil => simp [sizeD]
    | cons x r =>
      simp only [sizeD, List.length_cons]
      split
      · split
        · omega
        · cases hp : partsG (sizeD d) (decide (x.k = 6)) x.n.toNat r with
          | none => simp [outN]
          | some m =>
            have := partsG_le ih _ _ _ _ hp
            simp only [outN]
            omega
      · omega
def contN : Option Nat → Nat → Nat
  | none, _ => 0
  | some m, a => a + m
theorem contN_one (o : Option Nat) : contN o 1 = outN o := by cases o <;> simp [contN, outN]; omega
theorem contN_map (o : Option Nat) (k a : Nat) : contN (o.map (fun m => k + m)) a = contN o (a + k) := by cases o <;> simp [contN]; omega
set_option maxRecDepth 100000 in
set_option maxHeartbeats 16000000 in
theorem size_arr (d : Nat) (IH : SizeOk d) (w : World) (ad : Addr) (cap inn : Nat) (n : Int) (b : Nat) (s : List UInt8) (r : List Im) (hinn : d + 1 + inn = 1000) (h : LR w (some ad) (⟨5, n, b, s⟩ :: r)) (hcap : r.length + 1 ≤ cap) (hc : cap ≤ 1000000000) (hs : ∀ y, y ∈ (⟨5, n, b, s⟩ : Im) :: r → y.s.length ≤ 100000000) (hg : goodI ⟨5, n, b, s⟩ = true) :
    Calls Tryz.prog 46 #[.slice (some ad) (r.length + 1) cap, .int .i64 (inn : Int)] w fun e w' => e = .returned (.int .i64 ((outN (partsG (sizeD d) false n.toNat r) : Nat) : Int)) ∧ Fr (fun _ => False) w w' := by
  have hn0 : 0 ≤ n := (goodI_nest hg (by simp)).2
  obtain ⟨N, rfl⟩ : ∃ N : Nat, n = (N : Int) := ⟨n.toNat, by omega⟩
  have hN63 : (0 : Int) ≤ (N : Int) := by omega
  rw [Int.toNat_natCast]
  obtain ⟨l, hl⟩ : ∃ l, (⟨5, (N : Int), b, s⟩ : Im) :: r = l := ⟨_, rfl⟩
  have HLR := hid (show LR w (some ad) l from by rw [← hl]; exact h)
  have HC := hid (fun (wx : World) (hf : Fr (fun _ => False) w wx) => (h.fr hf).at0)
  obtain ⟨c0, c1, c2, c3⟩ := h.at0
  have HF := hid (Fr.refl (fun _ => False) w)
  have HG := hid (fun w => good_any ⟨5, (N : Int), b, s⟩ w (hs _ (by simp)))
  rw [hg] at HG
  try simp only at c0 c1 c2 c3
  have hll : l.length = r.length + 1 := by rw [← hl]; rfl
  obtain ⟨L, hL⟩ : ∃ L, r.length + 1 = L := ⟨_, rfl⟩
  rw [hL] at hll hcap
  have HLL := hid hll
  have H1 := hid (show contN (partsG (sizeD d) false (N - 0) (l.drop 1)) 1 = outN (partsG (sizeD d) false N r) from by rw [contN_one, ← hl]; rfl)
  generalize outN (partsG (sizeD d) false N r) = U at *
  have hL1 : 1 ≤ L := by omega
  rw [hL]
  have hnz : ((L : Int) == 0) = false := beq_eq_false_iff_ne.2 (by omega)
  have hiz : decide ((1000 : Int) ≤ (inn : Int)) = false := decide_eq_false (by omega)
  have hw1 : IntKind.i64.wrap ((inn : Int) + 1) = (inn : Int) + 1 := IntWalk.i64_in _ (by omega)
  have hL0 : (0 : Int) < (L : Int) := by omega
  have HSS := hid (show ∀ y, y ∈ l → y.s.length ≤ 100000000 from by rw [← hl]; exact hs)
  have HIN := hid (show d + (inn + 1) = 1000 from by omega)
  have HIH := hid (fun (wx : World) (a : Nat) (hf : Fr (fun _ => False) w wx) (ha : a < cap) => IH wx (some (ad.add (a * 4))) (cap - a) (inn + 1) (l.drop a) HIN.out ((HLR.out.fr hf).drop a) (by have := HLL.out; rw [List.length_drop]; omega) (by omega) (fun y hy => HSS.out y (List.mem_of_mem_drop hy)))
  have HIZ := hid (fun (wx : World) => size_nil wx (some ad) 0 (inn + 1))
  clear h hs hg hl hll hL hn0
  go_enter Tryz.func46, Tryz.ntmps46
  go_wp2_with fail
  refine Calls.mono (HG.out _) ?_
  rintro e w2 ⟨rfl, hf2⟩
  have HF2 := hid hf2
  obtain ⟨d0, d1, d2, d3⟩ := HC.out w2 hf2
  clear hf2 c0 c1 c2 c3
  go_wp2
  go_loopw [6, 7] (fun s t wr => ∃ a i : Nat, i + 1 ≤ a ∧ a ≤ L ∧ i ≤ N ∧ s = .int .i64 (a : Int) ∧ t = .int .i64 (i : Int) ∧ Hid (contN (partsG (sizeD d) false (N - i) (l.drop a)) a = U) ∧ Hid (Fr (fun _ => False) w wr)) (fun _ t _ => N - (intOf t).toNat)
  case atStart => exact ⟨1, 0, by omega, by omega, by omega, by go_num, by go_num, H1, HF2⟩
  case round =>
    clear d0 d1 d2 d3 H1
    obtain ⟨a, i, hia, haL, hiN, rfl, rfl, hG, hF⟩ := hrel
    obtain ⟨c0, c1, c2, c3⟩ := HC.out wr hF.out
    try simp only at c0 c1 c2 c3
    by_cases hlt : i < N
    · have hiz2 : (i : Int) < (N : Int) := by omega
      obtain ⟨c, hc2⟩ : ∃ c, N - i = c + 1 := ⟨N - i - 1, by omega⟩
      have hG1 := hG.out
      rw [hc2] at hG1
      have hw3 : IntKind.i64.wrap ((i : Int) + 1) = (i : Int) + 1 := IntWalk.i64_in _ (by omega)
      have hcN : c = N - (i + 1) := by omega
      simp only [partsG, Bool.false_eq_true, if_false] at hG1
      obtain ⟨n1, hn1⟩ : ∃ n1, sizeD d (l.drop a) = n1 := ⟨_, rfl⟩
      have hle : n1 ≤ L - a := by have h1 := sizeD_le d (l.drop a); have h2 := HLL.out; rw [hn1, List.length_drop] at h1; omega
      rw [hn1] at hG1
      have hcall : ∀ wx, Fr (fun _ => False) w wx → Calls Tryz.prog 46 #[(if a < cap then .slice (some (ad.add (a * 4))) (L - a) (cap - a) else .slice (some ad) (L - a) 0), .int .i64 ((inn + 1 : Nat) : Int)] wx fun e w' => e = .returned (.int .i64 ((n1 : Nat) : Int)) ∧ Fr (fun _ => False) wx w' := by
        intro wx hf
        by_cases hac : a < cap
        · rw [if_pos hac]
          have := HIH.out wx a hf hac
          rw [List.length_drop, HLL.out, hn1] at this
          exact this
        · rw [if_neg hac]
          have e0 : L - a = 0 := by omega
          have e1 : n1 = 0 := by omega
          rw [e0, e1]
          exact HIZ.out wx
      have HCL := hid hcall
      clear hcall hn1
      have hw4 : IntKind.i64.wrap ((a : Int) + (n1 : Int)) = (a : Int) + (n1 : Int) := IntWalk.i64_in _ (by omega)
      have hi1 : (inn : Int) + 1 = ((inn + 1 : Nat) : Int) := by omega
      by_cases hac : a < cap
      · have H5 := hid (fun wx hf => (show Calls Tryz.prog 46 #[.slice (some (ad.add (a * 4))) (L - a) (cap - a), .int .i64 ((inn + 1 : Nat) : Int)] wx _ from by have := HCL.out wx hf; rw [if_pos hac] at this; exact this))
        generalize inn + 1 = inn1 at *
        by_cases h10 : n1 = 0
        · subst h10
          rw [if_pos rfl] at hG1
          have hU : U = 0 := by rw [← hG1]; rfl
          have HUU := hid hU
          clear hG1 hU hc2 hcN
          go_wp2_with fail
          refine Calls.mono (H5.out _ hF.out) ?_
          rintro e w4 ⟨rfl, hf4⟩
          have HF4 := hid (hF.out.trans hf4)
          clear hf4
          go_wp2
          go_ret
          exact ⟨by rw [HUU.out]; rfl, HF4.out⟩
        · rw [if_neg h10, List.drop_drop, contN_map, hcN] at hG1
          obtain ⟨a2, ha2⟩ : ∃ a2, a + n1 = a2 := ⟨_, rfl⟩
          have ha2z : (a : Int) + (n1 : Int) = (a2 : Int) := by omega
          rw [ha2] at hG1
          have HGG := hid hG1
          have h10z : ((n1 : Int) == 0) = false := beq_eq_false_iff_ne.2 (by omega)
          have ha2L : a2 ≤ L := by omega
          have ha2i : i + 2 ≤ a2 := by omega
          clear hG1 hc2 ha2 hw4 hcN hle h10
          go_wp2_with fail
          refine Calls.mono (H5.out _ hF.out) ?_
          rintro e w4 ⟨rfl, hf4⟩
          have HF4 := hid (hF.out.trans hf4)
          clear hf4
          go_wp2
          go_roundw
          case rel => exact ⟨a2, i + 1, by omega, ha2L, by omega, rfl, by go_num, HGG, HF4⟩
          case measure => simp [intOf]; omega
      · have H5 := hid (fun (wx : World) (hf : Fr (fun _ => False) w wx) => HIZ.out wx)
        have h10 : n1 = 0 := by omega
        subst h10
        have hLa : L = a := by omega
        have hca : cap = a := by omega
        subst hLa
        subst hca
        clear HCL HIH
        generalize inn + 1 = inn1 at *
        rw [if_pos rfl] at hG1
        have hU : U = 0 := by rw [← hG1]; rfl
        have HUU := hid hU
        clear hG1 hU hc2 hcN
        go_wp2_with fail
        refine Calls.mono (H5.out _ hF.out) ?_
        rintro e w4 ⟨rfl, hf4⟩
        have HF4 := hid (hF.out.trans hf4)
        clear hf4
        go_wp2
        go_ret
        exact ⟨by rw [HUU.out]; rfl, HF4.out⟩
    · have hiN2 : i = N := by omega
      subst hiN2
      have hni : ¬ ((i : Int) < (i : Int)) := by omega
      have hU : a = U := by have := hG.out; rw [Nat.sub_self] at this; exact this
      have HUU := hid hU
      clear hU hG
      go_wp2
      go_ret
      exact ⟨by have hu := HUU.out; subst hu; rfl, hF.out⟩
set_option maxRecDepth 100000 in
set_option maxHeartbeats 16000000 in
theorem size_obj (d : Nat) (IH : SizeOk d) (w : World) (ad : Addr) (cap inn : Nat) (n : Int) (b : Nat) (s : List UInt8) (r : List Im) (hinn : d + 1 + inn = 1000) (h : LR w (some ad) (⟨6, n, b, s⟩ :: r)) (hcap : r.length + 1 ≤ cap) (hc : cap ≤ 1000000000) (hs : ∀ y, y ∈ (⟨6, n, b, s⟩ : Im) :: r → y.s.length ≤ 100000000) (hg : goodI ⟨6, n, b, s⟩ = true) :
    Calls Tryz.prog 46 #[.slice (some ad) (r.length + 1) cap, .int .i64 (inn : Int)] w fun e w' => e = .returned (.int .i64 ((outN (partsG (sizeD d) true n.toNat r) : Nat) : Int)) ∧ Fr (fun _ => False) w w' := by
  have hn0 : 0 ≤ n := (goodI_nest hg (by simp)).2
  obtain ⟨N, rfl⟩ : ∃ N : Nat, n = (N : Int) := ⟨n.toNat, by omega⟩
  have hN63 : (0 : Int) ≤ (N : Int) := by omega
  rw [Int.toNat_natCast]
  obtain ⟨l, hl⟩ : ∃ l, (⟨6, (N : Int), b, s⟩ : Im) :: r = l := ⟨_, rfl⟩
  have HLR := hid (show LR w (some ad) l from by rw [← hl]; exact h)
  have HC := hid (fun (wx : World) (hf : Fr (fun _ => False) w wx) => (h.fr hf).at0)
  obtain ⟨c0, c1, c2, c3⟩ := h.at0
  have HF := hid (Fr.refl (fun _ => False) w)
  have HG := hid (fun w => good_any ⟨6, (N : Int), b, s⟩ w (hs _ (by simp)))
  rw [hg] at HG
  try simp only at c0 c1 c2 c3
  have hll : l.length = r.length + 1 := by rw [← hl]; rfl
  obtain ⟨L, hL⟩ : ∃ L, r.length + 1 = L := ⟨_, rfl⟩
  rw [hL] at hll hcap
  have HLL := hid hll
  have H1 := hid (show contN (partsG (sizeD d) true (N - 0) (l.drop 1)) 1 = outN (partsG (sizeD d) true N r) from by rw [contN_one, ← hl]; rfl)
  generalize outN (partsG (sizeD d) true N r) = U at *
  have hL1 : 1 ≤ L := by omega
  rw [hL]
  have hnz : ((L : Int) == 0) = false := beq_eq_false_iff_ne.2 (by omega)
  have hiz : decide ((1000 : Int) ≤ (inn : Int)) = false := decide_eq_false (by omega)
  have hw1 : IntKind.i64.wrap ((inn : Int) + 1) = (inn : Int) + 1 := IntWalk.i64_in _ (by omega)
  have hL0 : (0 : Int) < (L : Int) := by omega
  have HSS := hid (show ∀ y, y ∈ l → y.s.length ≤ 100000000 from by rw [← hl]; exact hs)
  have HIN := hid (show d + (inn + 1) = 1000 from by omega)
  have HIH := hid (fun (wx : World) (a : Nat) (hf : Fr (fun _ => False) w wx) (ha : a < cap) => IH wx (some (ad.add (a * 4))) (cap - a) (inn + 1) (l.drop a) HIN.out ((HLR.out.fr hf).drop a) (by have := HLL.out; rw [List.length_drop]; omega) (by omega) (fun y hy => HSS.out y (List.mem_of_mem_drop hy)))
  have HIZ := hid (fun (wx : World) => size_nil wx (some ad) 0 (inn + 1))
  clear h hs hg hl hll hL hn0
  go_enter Tryz.func46, Tryz.ntmps46
  go_wp2_with fail
  refine Calls.mono (HG.out _) ?_
  rintro e w2 ⟨rfl, hf2⟩
  have HF2 := hid hf2
  obtain ⟨d0, d1, d2, d3⟩ := HC.out w2 hf2
  clear hf2 c0 c1 c2 c3
  go_wp2
  go_loopw [6, 7] (fun s t wr => ∃ a i : Nat, i + 1 ≤ a ∧ a ≤ L ∧ i ≤ N ∧ s = .int .i64 (a : Int) ∧ t = .int .i64 (i : Int) ∧ Hid (contN (partsG (sizeD d) true (N - i) (l.drop a)) a = U) ∧ Hid (Fr (fun _ => False) w wr)) (fun _ t _ => N - (intOf t).toNat)
  case atStart => exact ⟨1, 0, by omega, by omega, by omega, by go_num, by go_num, H1, HF2⟩
  case round =>
    clear d0 d1 d2 d3 H1
    obtain ⟨a, i, hia, haL, hiN, rfl, rfl, hG, hF⟩ := hrel
    obtain ⟨c0, c1, c2, c3⟩ := HC.out wr hF.out
    try simp only at c0 c1 c2 c3
    by_cases hlt : i < N
    · have hiz2 : (i : Int) < (N : Int) := by omega
      obtain ⟨c, hc2⟩ : ∃ c, N - i = c + 1 := ⟨N - i - 1, by omega⟩
      have hG1 := hG.out
      rw [hc2] at hG1
      have hw3 : IntKind.i64.wrap ((i : Int) + 1) = (i : Int) + 1 := IntWalk.i64_in _ (by omega)
      have hcN : c = N - (i + 1) := by omega
      by_cases haL2 : a < L
      · obtain ⟨y, hy⟩ : ∃ y, l[a]? = some y := ⟨l[a]'(by have := HLL.out; omega), List.getElem?_eq_getElem _⟩
        have hdr : l.drop a = y :: l.drop (a + 1) := by
          obtain ⟨h1, h2⟩ := List.getElem?_eq_some_iff.1 hy
          rw [← h2]; exact List.drop_eq_getElem_cons h1
        rw [hdr] at hG1
        simp only [partsG, if_true] at hG1
        have HY := hid (fun (wx : World) (hf : Fr (fun _ => False) w wx) => (HLR.out.fr hf).at_ hy)
        have HGY := hid (fun w => good_any y w (HSS.out y (List.mem_of_getElem? hy)))
        obtain ⟨q0, q1, q2, q3⟩ := HY.out wr hF.out
        obtain ⟨yk, yn, yb, ys⟩ := y
        simp only at q0 q1 q2 q3 hG1 HGY
        have haz : decide ((L : Int) ≤ (a : Int)) = false := decide_eq_false (by omega)
        have haz2 : (a : Int) < (L : Int) := by omega
        clear hdr hy
        by_cases hyk : yk = 4
        · subst hyk
          cases hgy : goodI ⟨4, yn, yb, ys⟩ with
          | false =>
            rw [hgy] at HGY hG1
            rw [if_neg (by simp)] at hG1
            have hU : U = 0 := by rw [← hG1]; rfl
            have HUU := hid hU
            clear hG1 hU hgy hc2 hcN
            go_wp2_with fail
            refine Calls.mono (HGY.out _) ?_
            rintro e w3 ⟨rfl, hf3⟩
            have HF3 := hid (hF.out.trans hf3)
            clear hf3
            go_wp2
            go_ret
            exact ⟨by rw [HUU.out]; rfl, HF3.out⟩
          | true =>
            rw [hgy] at HGY hG1
            rw [if_pos ⟨rfl, rfl⟩] at hG1
            obtain ⟨a1, ha1⟩ : ∃ a1, a + 1 = a1 := ⟨_, rfl⟩
            rw [ha1] at hG1
            have ha1z : (a : Int) + 1 = (a1 : Int) := by omega
            have ha1L : a1 ≤ L := by omega
            obtain ⟨n1, hn1⟩ : ∃ n1, sizeD d (l.drop a1) = n1 := ⟨_, rfl⟩
            have hle : n1 ≤ L - a1 := by have h1 := sizeD_le d (l.drop a1); have h2 := HLL.out; rw [hn1, List.length_drop] at h1; omega
            rw [hn1] at hG1
            have hcall : ∀ wx, Fr (fun _ => False) w wx → Calls Tryz.prog 46 #[(if a1 < cap then .slice (some (ad.add (a1 * 4))) (L - a1) (cap - a1) else .slice (some ad) (L - a1) 0), .int .i64 ((inn + 1 : Nat) : Int)] wx fun e w' => e = .returned (.int .i64 ((n1 : Nat) : Int)) ∧ Fr (fun _ => False) wx w' := by
              intro wx hf
              by_cases hac : a1 < cap
              · rw [if_pos hac]
                have := HIH.out wx a1 hf hac
                rw [List.length_drop, HLL.out, hn1] at this
                exact this
              · rw [if_neg hac]
                have e0 : L - a1 = 0 := by omega
                have e1 : n1 = 0 := by omega
                rw [e0, e1]
                exact HIZ.out wx
            have HCL := hid hcall
            have HA1 := hid ha1
            clear hcall hn1 ha1 hgy
            have hw4 : IntKind.i64.wrap ((a1 : Int) + (n1 : Int)) = (a1 : Int) + (n1 : Int) := IntWalk.i64_in _ (by omega)
            have hi1 : (inn : Int) + 1 = ((inn + 1 : Nat) : Int) := by omega
            by_cases hac : a1 < cap
            · have H5 := hid (fun wx hf => (show Calls Tryz.prog 46 #[.slice (some (ad.add (a1 * 4))) (L - a1) (cap - a1), .int .i64 ((inn + 1 : Nat) : Int)] wx _ from by have := HCL.out wx hf; rw [if_pos hac] at this; exact this))
              generalize inn + 1 = inn1 at *
              by_cases h10 : n1 = 0
              · subst h10
                rw [if_pos rfl] at hG1
                have hU : U = 0 := by rw [← hG1]; rfl
                have HUU := hid hU
                clear hG1 hU hc2 hcN
                go_wp2_with fail
                refine Calls.mono (HGY.out _) ?_
                rintro e w3 ⟨rfl, hf3⟩
                have HF3 := hid (hF.out.trans hf3)
                obtain ⟨p0, p1, p2, p3⟩ := HC.out w3 (hF.out.trans hf3)
                clear hf3 c0 c1 c2 c3 q0 q1 q2 q3
                go_wp2_with fail
                refine Calls.mono (H5.out _ HF3.out) ?_
                rintro e w4 ⟨rfl, hf4⟩
                have HF4 := hid (HF3.out.trans hf4)
                clear hf4
                go_wp2
                go_ret
                exact ⟨by rw [HUU.out]; rfl, HF4.out⟩
              · rw [if_neg h10, List.drop_drop, contN_map, hcN] at hG1
                rw [show a + (1 + n1) = a1 + n1 by have := HA1.out; omega] at hG1
                obtain ⟨a2, ha2⟩ : ∃ a2, a1 + n1 = a2 := ⟨_, rfl⟩
                have ha2z : (a1 : Int) + (n1 : Int) = (a2 : Int) := by omega
                rw [ha2] at hG1
                have HGG := hid hG1
                have h10z : ((n1 : Int) == 0) = false := beq_eq_false_iff_ne.2 (by omega)
                have ha2L : a2 ≤ L := by omega
                have ha2i : i + 2 ≤ a2 := by have := HA1.out; omega
                clear hG1 hc2 ha2 hw4 hcN hle h10
                go_wp2_with fail
                refine Calls.mono (HGY.out _) ?_
                rintro e w3 ⟨rfl, hf3⟩
                have HF3 := hid (hF.out.trans hf3)
                obtain ⟨p0, p1, p2, p3⟩ := HC.out w3 (hF.out.trans hf3)
                clear hf3 c0 c1 c2 c3 q0 q1 q2 q3
                go_wp2_with fail
                refine Calls.mono (H5.out _ HF3.out) ?_
                rintro e w4 ⟨rfl, hf4⟩
                have HF4 := hid (HF3.out.trans hf4)
                clear hf4
                go_wp2
                go_roundw
                case rel => exact ⟨a2, i + 1, by omega, ha2L, by omega, rfl, by go_num, HGG, HF4⟩
                case measure => simp [intOf]; omega
            · have H5 := hid (fun (wx : World) (hf : Fr (fun _ => False) w wx) => HIZ.out wx)
              have h10 : n1 = 0 := by omega
              subst h10
              have hLa : L = a1 := by omega
              have hca : cap = a1 := by omega
              subst hLa
              subst hca
              clear HCL HIH
              generalize inn + 1 = inn1 at *
              rw [if_pos rfl] at hG1
              have hU : U = 0 := by rw [← hG1]; rfl
              have HUU := hid hU
              clear hG1 hU hc2 hcN
              go_wp2_with fail
              refine Calls.mono (HGY.out _) ?_
              rintro e w3 ⟨rfl, hf3⟩
              have HF3 := hid (hF.out.trans hf3)
              obtain ⟨p0, p1, p2, p3⟩ := HC.out w3 (hF.out.trans hf3)
              clear hf3 c0 c1 c2 c3 q0 q1 q2 q3
              go_wp2_with fail
              refine Calls.mono (H5.out _ HF3.out) ?_
              rintro e w4 ⟨rfl, hf4⟩
              have HF4 := hid (HF3.out.trans hf4)
              clear hf4
              go_wp2
              go_ret
              exact ⟨by rw [HUU.out]; rfl, HF4.out⟩
        · rw [if_neg (fun h => hyk h.1)] at hG1
          have hU : U = 0 := by rw [← hG1]; rfl
          have HUU := hid hU
          have hyk2 : (yk != 4) = true := by simpa using hyk
          have hyk3 : (yk == 4) = false := beq_eq_false_iff_ne.2 hyk
          clear hG1 hU hc2 hcN
          go_wp2
          go_ret
          exact ⟨by rw [HUU.out]; rfl, hF.out⟩
      · have hnl : l.drop a = [] := List.drop_eq_nil_of_le (by have := HLL.out; omega)
        rw [hnl] at hG1
        simp only [partsG, if_true] at hG1
        have hU : U = 0 := by rw [← hG1]; rfl
        have HUU := hid hU
        have haz : decide ((L : Int) ≤ (a : Int)) = true := decide_eq_true (by omega)
        clear hG1 hU hc2 hnl hcN
        go_wp2
        go_ret
        exact ⟨by rw [HUU.out]; rfl, hF.out⟩
    · have hiN2 : i = N := by omega
      subst hiN2
      have hni : ¬ ((i : Int) < (i : Int)) := by omega
      have hU : a = U := by have := hG.out; rw [Nat.sub_self] at this; exact this
      have HUU := hid hU
      clear hU hG
      go_wp2
      go_ret
      exact ⟨by have hu := HUU.out; subst hu; rfl, hF.out⟩
end Go.Proofs.YtmkkibaacclhnaaGreatDoor
