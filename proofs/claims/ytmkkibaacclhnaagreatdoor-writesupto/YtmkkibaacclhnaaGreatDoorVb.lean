/-
  A step of the walk, the part named Vb. No theorem of the row.
-/
import Derived.Test.YtmkkibaacclhnaaGreatDoorVs
import Derived.Lib.UnsafeStr
import Derived.Test.YtmkkibaacclhnaaGreatDoorVi
namespace Go.Proofs.YtmkkibaacclhnaaGreatDoor
open Go.RowKit

theorem Fr.freeze {S : Nat → Prop} {a w : World} (h : Fr S a w) {p : Addr} (hp : S p.block ∨ a.heap.size ≤ p.block) (n : Nat) : Fr S a (w.freeze p n) := by
  unfold World.freeze
  split
  · exact h
  · refine ⟨h.os, h.tape, h.output, by simpa using h.size, fun k hk hs => ?_⟩
    simp only [Array.getElem?_modify]
    rw [if_neg (by rintro rfl; rcases hp with hp | hp
                   · exact hs hp
                   · omega)]
    exact h.block k hk hs
theorem us_byteCells (l : List UInt8) (j : Nat) (x : UInt8) (h : l[j]? = some x) : (us l)[j]? = some (.int .u8 (x.toNat : Int)) := by
  unfold us
  rw [List.getElem?_map, h]
  rfl
theorem Tryz.cells5B : Tryz.prog.cellsOf 5 = 1 := by kernel_rfl
set_option maxRecDepth 100000 in
set_option maxHeartbeats 8000000 in
theorem string_any (B : Nat) (w : World) (vi vb : Value) (nx ind : Int) (so : Bool) (op : Nat) (ad vo : Value) (bs : List UInt8) (h : WAt B w vi vb nx ind so op ad vo bs) (h0 : bs ≠ []) (hl : bs.length ≤ 100000000000) :
    Calls Tryz.prog 27 #[.pointer (some ⟨B, 6, none⟩)] w fun e w' => e = .returned (.string (ofL bs)) ∧ Fr (fun i => vo.ownBlock = some i) w w' := by
  have hl0 : bs.length ≠ 0 := by simpa using h0
  obtain ⟨g, cap, cur, rfl, hbg, hg, hnc, hcm, hcs, htake⟩ : ∃ g cap cur, vo = .slice (some ⟨g, 0, none⟩) bs.length cap ∧ 0 ≤ g ∧ w.heap[g]? = some (.cells cur 5 (0, 0)) ∧ bs.length ≤ cap ∧ cap ≤ maxLen ∧ cur.size = cap * 1 ∧ cur.toList.take (bs.length * 1) = us bs := by
    rcases h.row.2 with ⟨_, hz⟩ | ⟨g, cap, cur, hv, r⟩
    · exact absurd hz hl0
    · exact ⟨g, cap, cur, hv, r⟩
  have c7 := blk_cell h.blk (show (wCells vi vb nx ind so op ad (.slice (some ⟨g, 0, none⟩) bs.length cap))[7]? = some (.slice (some ⟨g, 0, none⟩) bs.length cap) from rfl)
  have hSD : (Builtin.unsafeSliceData_ #[65] 105 #[.slice (some ⟨g, 0, none⟩) bs.length cap]).run Tryz.prog w.drew = .ok (.pointer (some ⟨g, 0, none⟩)) w.drew :=
    Lib.run_unsafeSliceData_row _ _ _ _ _ _ (by omega)
  have hUS : (Builtin.unsafeString_ #[105, 3] 9 #[.pointer (some ⟨g, 0, none⟩), .int .i64 bs.length]).run Tryz.prog w.drew = .ok (.string ⟨bs.toArray⟩) (w.drew.freeze ⟨g, 0, none⟩ bs.length) := by
    refine Lib.run_unsafeString_row w.drew 105 3 9 5 Tryz.underlying105 Tryz.cells5B g cur.size (by have hg' : w.drew.heap[g]? = some (.cells cur 5 (0, 0)) := hg; simp [World.shape?, hg']) bs h0 (by omega) (by unfold maxLen at hcm; omega) ?_
    intro j x hx
    have := h.row.cells (g := g) rfl j (.int .u8 x.toNat) (us_byteCells bs j x hx)
    exact this
  have HF := hid (((Fr.refl (fun i => (Value.slice (some ⟨g, 0, none⟩) bs.length cap).ownBlock = some i) w).drew).freeze (p := ⟨g, 0, none⟩) (.inl rfl) bs.length)
  have mixed := Tryz.mixedR
  clear h hg hcs htake
  go_enter Tryz.func27, Tryz.ntmps27
  go_wp2
  go_region
  all_goals (go_wp2; go_ret; exact ⟨rfl, HF.out⟩)
end Go.Proofs.YtmkkibaacclhnaaGreatDoor

namespace Go.Proofs.YtmkkibaacclhnaaGreatDoor
open Go.RowKit

set_option maxRecDepth 100000 in
set_option maxHeartbeats 16000000 in
theorem wr_leaf (w : World) (ad : Addr) (cap inn : Nat) (x : Im) (r : List Im) (indent : Int) (so : Bool) (h : LR w (some ad) (x :: r)) (hs : x.s.length ≤ 100000000) (hk : x.k < 5) (hg : goodI x = true) (hb : x.b < 18446744073709551616) :
    Calls Tryz.prog 47 #[.slice (some ad) (r.length + 1) cap, .int .i64 indent, .bool so, .int .i64 (inn : Int)] w fun e w' => e = .returned (.string (ofL (leafT x))) ∧ Fr (fun _ => False) w w' := by
  obtain ⟨c0, c1, c2, c3⟩ := h.at0
  have HF := hid (fun o => (Fr.refl (fun _ => False) w).alloc o)
  have hnz : (0 : Int) < (r.length : Int) + 1 := by omega
  have hnum := goodI_num hg
  have hk04 : x.k = 0 ∨ x.k = 1 ∨ x.k = 2 ∨ x.k = 3 ∨ x.k = 4 := by
    unfold goodI at hg
    split at hg
    · omega
    split at hg
    · omega
    split at hg
    · omega
    · rw [if_neg (by omega)] at hg; cases hg
  obtain ⟨k, n, b, s⟩ := x
  simp only at c0 c1 c2 c3 hs hnum hk04 hb
  generalize r.length = rl at *
  clear h hg hk
  rcases hk04 with rfl | rfl | rfl | rfl | rfl
  · go_enter Tryz.func47, Tryz.ntmps47
    go_wp2
    go_ret
    exact ⟨rfl, HF.out _⟩
  · go_enter Tryz.func47, Tryz.ntmps47
    go_wp2
    go_ret
    exact ⟨rfl, HF.out _⟩
  · go_enter Tryz.func47, Tryz.ntmps47
    go_wp2
    go_ret
    exact ⟨rfl, HF.out _⟩
  · have HP := hid (fun w => rprint_T b w hb (hnum rfl))
    rw [show leafT ⟨3, n, b, s⟩ = printT b from rfl]
    generalize printT b = T at *
    clear hnum
    go_enter Tryz.func47, Tryz.ntmps47
    go_wp2_with fail
    refine Calls.mono (HP.out _) ?_
    rintro e w2 ⟨rfl, hf2⟩
    have HF2 := hid ((HF.out _).trans hf2)
    clear hf2
    go_wp2
    go_ret
    exact ⟨rfl, HF2.out⟩
  · have HP := hid (fun w => quoted_any s w hs)
    rw [show leafT ⟨4, n, b, s⟩ = quoteL s from rfl]
    generalize quoteL s = T at *
    clear hnum
    go_enter Tryz.func47, Tryz.ntmps47
    go_wp2_with fail
    refine Calls.mono (HP.out _) ?_
    rintro e w2 ⟨rfl, hf2⟩
    have HF2 := hid ((HF.out _).trans hf2)
    clear hf2
    go_wp2
    go_ret
    exact ⟨rfl, HF2.out⟩
end Go.Proofs.YtmkkibaacclhnaaGreatDoor

namespace Go.Proofs.YtmkkibaacclhnaaGreatDoor
open Go.RowKit

set_option maxRecDepth 100000 in
set_option maxHeartbeats 8000000 in
theorem line_same (indent : Int) (inn : Nat) (w : World) (h1 : indent ≤ 16) (h2 : inn ≤ 1001) :
    Calls Tryz.prog 80 #[.int .i64 indent, .int .i64 (inn : Int)] w fun e w' => e = .returned (.string (ofL (lineL indent inn))) ∧ w' = w := by
  unfold lineL
  by_cases h : indent < 0
  · rw [if_pos h]
    go_enter Tryz.func80, Tryz.ntmps80
    go_wp2
    go_ret
    exact ⟨rfl, rfl⟩
  · rw [if_neg h]
    obtain ⟨n, rfl⟩ : ∃ n : Nat, indent = (n : Int) := ⟨indent.toNat, by omega⟩
    rw [Int.toNat_natCast]
    have hn0 : ¬ ((n : Int) < 0) := by omega
    obtain ⟨T, hT⟩ : ∃ T, n * inn = T := ⟨_, rfl⟩
    have hTz : (n : Int) * (inn : Int) = (T : Int) := by rw [← hT]; simp
    have hTb : T ≤ 17000 := by rw [← hT]; exact Nat.le_trans (Nat.mul_le_mul (show n ≤ 16 by omega) h2) (by omega)
    have hw : IntKind.i64.wrap ((n : Int) * (inn : Int)) = (T : Int) := by rw [hTz]; exact IntWalk.i64_in _ (by omega)
    rw [hT]
    have h10 : (⟨#[10]⟩ : ByteArray) = ofL [10] := rfl
    clear hT h1 h2 h
    go_enter Tryz.func80, Tryz.ntmps80
    go_wp2
    go_loopw [5, 6] (fun s t wr => ∃ k : Nat, k ≤ T ∧ s = .string (ofL (10 :: List.replicate k 32)) ∧ t = .int .i64 (k : Int) ∧ wr = w) (fun _ t _ => T - (intOf t).toNat)
    case atStart => exact ⟨0, by omega, rfl, rfl, rfl⟩
    case round =>
      obtain ⟨k, hk, rfl, rfl, rfl⟩ := hrel
      by_cases hlt : k < T
      · have hcat : ofL (10 :: List.replicate k 32) ++ (⟨#[32]⟩ : ByteArray) = ofL (10 :: List.replicate (k + 1) 32) := by
          rw [show (⟨#[32]⟩ : ByteArray) = ofL [32] from rfl, ofL_append]
          congr 1
          rw [List.replicate_succ']
          rfl
        have hsz : (ofL (10 :: List.replicate k 32)).size = k + 1 := by rw [ofL_size]; simp
        have hsz2 : (⟨#[32]⟩ : ByteArray).size = 1 := rfl
        generalize ofL (10 :: List.replicate k 32) = S at *
        obtain ⟨S', hS'⟩ : ∃ S', ofL (10 :: List.replicate (k + 1) 32) = S' := ⟨_, rfl⟩
        rw [hS'] at hcat
        have HS' := hid hS'
        clear hS'
        have hkz : (k : Int) < (T : Int) := by omega
        go_wp2
        go_roundw
        case rel => exact ⟨k + 1, by omega, by rw [HS'.out], by go_num, by trivial⟩
        case measure => simp [intOf]; omega
      · obtain rfl : k = T := by omega
        have hnk : ¬ ((k : Int) < (k : Int)) := by omega
        go_wp2
        go_ret
        exact ⟨rfl, rfl⟩
/-- what is known between two rounds: so many parts have been taken up, and so many items gone through -/
structure InvW (d : Nat) (indent : Int) (so obj : Bool) (N : Nat) (l : List Im) (F : List KT) (i a : Nat) (cur : List KT) : Prop where
  m : ∃ m, partsG (sizeD d) obj (N - i) (l.drop a) = some m
  f : (partsW (sizeD d) (wrD indent so d) indent obj (N - i) (l.drop a)).foldl (stepP (so && obj)) cur = F
  n : cur.length = i
theorem stepP_len (so : Bool) (L : List KT) (p : KT) : (stepP so L p).length = L.length + 1 := by
  unfold stepP
  have h := posGo_le (L.map (·.1)) p.1 L.length
  simp only [List.length_append, List.length_take, List.length_drop, List.length_singleton]
  split <;> omega
theorem InvW.totle {d : Nat} {indent : Int} {so obj : Bool} {N : Nat} {l : List Im} {F : List KT} {i a : Nat} {cur : List KT} (h : InvW d indent so obj N l F i a cur) : tot cur ≤ tot F := by
  rw [← h.f, tot_fold]
  omega
theorem tot_mem {L : List KT} {p : KT} (h : p ∈ L) : p.2.length ≤ tot L := by
  induction L with
  | nil => cases h
  | cons q L ih =>
    rw [tot_cons]
    rcases List.mem_cons.1 h with rfl | h
    · omega
    · have := ih h; omega
theorem InvW.arr {d : Nat} {indent : Int} {so : Bool} {N : Nat} {l : List Im} {F : List KT} {i a : Nat} {cur : List KT} (h : InvW d indent so false N l F i a cur) (hi : i < N) :
    ∃ n1, 0 < n1 ∧ sizeD d (l.drop a) = n1 ∧ a + n1 ≤ l.length ∧ a < l.length ∧ (wrD indent so d (l.drop a)).length ≤ tot F ∧ InvW d indent so false N l F (i + 1) (a + n1) (cur ++ [([], wrD indent so d (l.drop a))]) := by
  obtain ⟨c, hc⟩ : ∃ c, N - i = c + 1 := ⟨N - i - 1, by omega⟩
  obtain ⟨m, hm⟩ := h.m
  have hf := h.f
  rw [hc] at hm hf
  simp only [partsG, partsW, Bool.false_eq_true, if_false, List.foldl_cons] at hm hf
  split at hm
  · cases hm
  · rename_i h0
    obtain ⟨m', h1, rfl⟩ := Option.map_eq_some_iff.1 hm
    rw [List.drop_drop] at h1 hf
    have hle := sizeD_le d (l.drop a)
    rw [List.length_drop] at hle
    have hst : stepP (so && false) cur ([], wrD indent so d (l.drop a)) = cur ++ [([], wrD indent so d (l.drop a))] := by simp [stepP]
    rw [hst] at hf
    have hI : InvW d indent so false N l F (i + 1) (a + sizeD d (l.drop a)) (cur ++ [([], wrD indent so d (l.drop a))]) := by
      refine ⟨⟨m', ?_⟩, ?_, by simp [h.n]⟩
      · rw [show N - (i + 1) = c by omega]; exact h1
      · rw [show N - (i + 1) = c by omega]; exact hf
    refine ⟨sizeD d (l.drop a), by omega, rfl, by omega, by omega, ?_, hI⟩
    have := hI.totle
    have h5 := tot_mem (L := cur ++ [(([] : List UInt8), wrD indent so d (l.drop a))]) (p := ([], wrD indent so d (l.drop a))) (by simp)
    simp only at h5
    omega
theorem InvW.obj {d : Nat} {indent : Int} {so : Bool} {N : Nat} {l : List Im} {F : List KT} {i a : Nat} {cur : List KT} (h : InvW d indent so true N l F i a cur) (hi : i < N) :
    ∃ y n1, 0 < n1 ∧ l[a]? = some y ∧ sizeD d (l.drop (a + 1)) = n1 ∧ a + 1 + n1 ≤ l.length ∧ (headL indent y.s ++ wrD indent so d (l.drop (a + 1))).length ≤ tot F ∧ InvW d indent so true N l F (i + 1) (a + 1 + n1) (stepP so cur (y.s, headL indent y.s ++ wrD indent so d (l.drop (a + 1)))) := by
  obtain ⟨c, hc⟩ : ∃ c, N - i = c + 1 := ⟨N - i - 1, by omega⟩
  obtain ⟨m, hm⟩ := h.m
  have hf := h.f
  rw [hc] at hm hf
  cases hl : l.drop a with
  | nil => rw [hl] at hm; simp [partsG] at hm
  | cons y r =>
    have hal : a < l.length := by
      by_cases hh : a < l.length
      · exact hh
      · rw [List.drop_eq_nil_of_le (by omega)] at hl; cases hl
    rw [List.drop_eq_getElem_cons hal] at hl
    injection hl with hy hr
    have hya : l[a]? = some y := by rw [List.getElem?_eq_getElem hal, hy]
    rw [List.drop_eq_getElem_cons hal, hy] at hm hf
    simp only [partsG, partsW, if_true, List.foldl_cons] at hm hf
    split at hm
    · split at hm
      · cases hm
      · rename_i h0
        obtain ⟨m', h1, rfl⟩ := Option.map_eq_some_iff.1 hm
        rw [List.drop_drop] at h1 hf
        have hle := sizeD_le d (l.drop (a + 1))
        rw [List.length_drop] at hle
        rw [Bool.and_true] at hf
        have hI : InvW d indent so true N l F (i + 1) (a + 1 + sizeD d (l.drop (a + 1))) (stepP so cur (y.s, headL indent y.s ++ wrD indent so d (l.drop (a + 1)))) := by
          refine ⟨⟨m', ?_⟩, ?_, by rw [stepP_len, h.n]⟩
          · rw [show N - (i + 1) = c by omega]; exact h1
          · rw [show N - (i + 1) = c by omega, Bool.and_true]; exact hf
        refine ⟨y, sizeD d (l.drop (a + 1)), by omega, hya, rfl, by omega, ?_, hI⟩
        have h6 := hI.totle
        rw [tot_step] at h6
        simp only at h6
        omega
    · cases hm
theorem InvW.done {d : Nat} {indent : Int} {so obj : Bool} {N : Nat} {l : List Im} {F : List KT} {a : Nat} {cur : List KT} (h : InvW d indent so obj N l F N a cur) : cur = F := by
  have := h.f
  rw [Nat.sub_self] at this
  exact this
def WrOk (d : Nat) : Prop := ∀ (w : World) (pa : Option Addr) (cap inn : Nat) (l : List Im) (indent : Int) (so : Bool), d + inn = 1000 → LR w pa l → l.length ≤ cap → cap ≤ 1000000000 → l.length ≤ 10000000 → (∀ x, x ∈ l → x.s.length ≤ 100000000) → Bok l → -1 ≤ indent → indent ≤ 16 → sizeD d l ≠ 0 → wgt l ≤ 100000000000 →
  Calls Tryz.prog 47 #[.slice pa l.length cap, .int .i64 indent, .bool so, .int .i64 (inn : Int)] w fun e w' => e = .returned (.string (ofL (wrD indent so d l))) ∧ Fr (fun _ => False) w w'
theorem box_cells (w : World) (v0 v1 v2 v3 : Value) (T : Nat) (wx : World) (hf : Fr (fun _ => False) (w.alloc (.cells #[v0, v1, v2, v3] T)) wx) :
    wx.cell? ⟨w.heap.size, 0, none⟩ = some v0 ∧ wx.cell? ⟨w.heap.size, 1, none⟩ = some v1 := by
  have hn := hf.heap (heap_alloc_new w (.cells #[v0, v1, v2, v3] T)) id
  exact ⟨blk_cell hn rfl, blk_cell hn rfl⟩
end Go.Proofs.YtmkkibaacclhnaaGreatDoor

namespace Go.Proofs.YtmkkibaacclhnaaGreatDoor
open Go.RowKit

theorem nest_pure (w : World) (d : Nat) (inn : Nat) (x : Im) (r : List Im) (N : Nat) (indent : Int) (so obj : Bool) (hinn : d + 1 + inn = 1000) (hi2 : indent ≤ 16) (hb : Bok (x :: r)) (hg : goodI x = true) (hk : ¬ x.k < 5) (hN : x.n = (N : Int)) (ho : decide (x.k = 6) = obj) (hs : sizeD (d + 1) (x :: r) ≠ 0) :
    ∃ F, wrD indent so (d + 1) (x :: r) = joinL indent inn obj (F.map (·.2)) ∧ InvW d indent so obj N (x :: r) F 0 1 [] ∧ tot F + 33000 ≤ wgt (x :: r) := by
  simp only [sizeD] at hs
  rw [if_pos hg, if_neg hk, ho, hN, Int.toNat_natCast] at hs
  cases hp : partsG (sizeD d) obj N r with
  | none => rw [hp] at hs; exact absurd rfl hs
  | some m =>
    refine ⟨ordL (so && obj) (partsW (sizeD d) (wrD indent so d) indent obj N r), ?_, ⟨⟨m, by rw [Nat.sub_zero]; exact hp⟩, by rw [Nat.sub_zero]; rfl, rfl⟩, ?_⟩
    · simp only [wrD]
      rw [if_neg hk, ho, hN, Int.toNat_natCast, show 999 - d = inn by omega]
    · have h1 := partsW_len (wr := wrD indent so d) (indent := indent) obj (fun l hb h0 => wrD_len w indent so hi2 d l hb h0) N r m (fun y hy => hb y (List.mem_cons_of_mem _ hy)) hp
      unfold ordL
      rw [tot_fold, wgt_cons]
      have h2 := wgt_take_le r m
      have : tot [] = 0 := rfl
      omega
theorem map_put (cur : List KT) (k i : Nat) (p : KT) (hi : cur.length = i) (f : KT → List UInt8) (h : k = i) : (cur.map f).take k ++ [f p] ++ (cur.map f).drop k = (cur ++ [p]).map f := by
  subst h
  rw [List.take_of_length_le (by simp [hi]), List.drop_eq_nil_of_le (by simp [hi])]
  simp
theorem map_put2 (cur : List KT) (k : Nat) (p : KT) (f : KT → List UInt8) : (cur.map f).take k ++ [f p] ++ (cur.map f).drop k = (cur.take k ++ [p] ++ cur.drop k).map f := by simp
theorem joinGo_step (indent : Int) (inn : Nat) (ps : List (List UInt8)) (j : Nat) (p : List UInt8) (S : List UInt8) (h : ps[j]? = some p) :
    S ++ joinGo indent inn (decide (j = 0)) (ps.drop j) = S ++ (if j = 0 then [] else [44]) ++ lineL indent inn ++ p ++ joinGo indent inn (decide (j + 1 = 0)) (ps.drop (j + 1)) := by
  obtain ⟨h1, h2⟩ := List.getElem?_eq_some_iff.1 h
  rw [List.drop_eq_getElem_cons h1, h2]
  simp [joinGo]
set_option maxRecDepth 100000 in
set_option maxHeartbeats 32000000 in
theorem wr_arr (d : Nat) (IH : WrOk d) (w : World) (ad : Addr) (cap inn : Nat) (n : Int) (b : Nat) (s : List UInt8) (r : List Im) (indent : Int) (so : Bool) (hinn : d + 1 + inn = 1000) (h : LR w (some ad) (⟨5, n, b, s⟩ :: r)) (hcap : r.length + 1 ≤ cap) (hc : cap ≤ 1000000000) (hlm : r.length + 1 ≤ 10000000) (hs : ∀ y, y ∈ (⟨5, n, b, s⟩ : Im) :: r → y.s.length ≤ 100000000) (hb : Bok (⟨5, n, b, s⟩ :: r)) (hi1 : -1 ≤ indent) (hi2 : indent ≤ 16) (hg : goodI ⟨5, n, b, s⟩ = true) (hsz : sizeD (d + 1) (⟨5, n, b, s⟩ :: r) ≠ 0) (hwg : wgt (⟨5, n, b, s⟩ :: r) ≤ 100000000000) :
    Calls Tryz.prog 47 #[.slice (some ad) (r.length + 1) cap, .int .i64 indent, .bool so, .int .i64 (inn : Int)] w fun e w' => e = .returned (.string (ofL (wrD indent so (d + 1) (⟨5, n, b, s⟩ :: r)))) ∧ Fr (fun _ => False) w w' := by
  have hn0 : 0 ≤ n := (goodI_nest hg (by simp)).2
  obtain ⟨N, rfl⟩ : ∃ N : Nat, n = (N : Int) := ⟨n.toNat, by omega⟩
  obtain ⟨F, hW, hI0, htF⟩ := nest_pure w d inn ⟨5, (N : Int), b, s⟩ r N indent so false hinn hi2 hb hg (by simp) rfl rfl hsz
  rw [hW]
  obtain ⟨U, hU⟩ : ∃ U, joinL indent inn false (F.map (·.2)) = U := ⟨_, rfl⟩
  rw [hU]
  have HU := hid hU
  clear hU
  obtain ⟨l, hl⟩ : ∃ l, (⟨5, (N : Int), b, s⟩ : Im) :: r = l := ⟨_, rfl⟩
  have HLR := hid (show LR w (some ad) l from by rw [← hl]; exact h)
  obtain ⟨c0, c1, c2, c3⟩ := h.at0
  try simp only at c0 c1 c2 c3
  have hll : l.length = r.length + 1 := by rw [← hl]; rfl
  obtain ⟨L, hL⟩ : ∃ L, r.length + 1 = L := ⟨_, rfl⟩
  rw [hL] at hll hcap hlm
  have HLL := hid hll
  rw [hl] at hI0 htF hwg
  have HTF := hid (show tot F ≤ 100000000000 from by omega)
  have HI0 := hid hI0
  have hL1 : 1 ≤ L := by omega
  rw [hL]
  have hw1 : IntKind.i64.wrap ((inn : Int) + 1) = (inn : Int) + 1 := IntWalk.i64_in _ (by omega)
  have hL0 : (0 : Int) < (L : Int) := by omega
  have HSS := hid (show ∀ y, y ∈ l → y.s.length ≤ 100000000 from by rw [← hl]; exact hs)
  have HBK := hid (show Bok l from by rw [← hl]; exact hb)
  have HIN := hid (show d + (inn + 1) = 1000 from by omega)
  have HWG := hid hwg
  have HIH := hid (fun (wx : World) (a : Nat) (hf : Fr (fun _ => False) w wx) (ha : a < L) (hz : sizeD d (l.drop a) ≠ 0) => (show Calls Tryz.prog 47 #[.slice (some (ad.add (a * 4))) (L - a) (cap - a), .int .i64 indent, .bool so, .int .i64 ((inn + 1 : Nat) : Int)] wx fun e w' => e = .returned (.string (ofL (wrD indent so d (l.drop a)))) ∧ Fr (fun _ => False) wx w' from by
    have := IH wx (some (ad.add (a * 4))) (cap - a) (inn + 1) (l.drop a) indent so HIN.out ((HLR.out.fr hf).drop a) (by have := HLL.out; rw [List.length_drop]; omega) (by omega) (by have := HLL.out; rw [List.length_drop]; omega) (fun y hy => HSS.out y (List.mem_of_mem_drop hy)) (HBK.out.drop a) hi1 hi2 hz (Nat.le_trans (wgt_drop_le l a) HWG.out)
    rw [List.length_drop, HLL.out] at this
    exact this))
  have HSZ := hid (fun (wx : World) (a : Nat) (hf : Fr (fun _ => False) w wx) (ha : a < L) => (show Calls Tryz.prog 46 #[.slice (some (ad.add (a * 4))) (L - a) (cap - a), .int .i64 ((inn + 1 : Nat) : Int)] wx fun e w' => e = .returned (.int .i64 ((sizeD d (l.drop a) : Nat) : Int)) ∧ Fr (fun _ => False) wx w' from by
    have := size_all d wx (some (ad.add (a * 4))) (cap - a) (inn + 1) (l.drop a) HIN.out ((HLR.out.fr hf).drop a) (by have := HLL.out; rw [List.length_drop]; omega) (by omega) (fun y hy => HSS.out y (List.mem_of_mem_drop hy))
    rw [List.length_drop, HLL.out] at this
    exact this))
  have HW0 := hid (Fr.refl (fun _ => False) (w.alloc (.cells #[.int .i64 5, .int .i64 (N : Int), .int .u64 (b : Int), .string (ofL s)] 29)))
  have HWW := hid ((Fr.refl (fun _ => False) w).alloc (.cells #[.int .i64 5, .int .i64 (N : Int), .int .u64 (b : Int), .string (ofL s)] 29))
  have HX := hid (fun (wx : World) hf => box_cells w (.int .i64 5) (.int .i64 (N : Int)) (.int .u64 (b : Int)) (.string (ofL s)) 29 wx hf)
  have HSP := hid (SP.nil (w.alloc (.cells #[.int .i64 5, .int .i64 (N : Int), .int .u64 (b : Int), .string (ofL s)] 29)))
  have HLN := hid (fun (k : Nat) (wx : World) (hk : k ≤ inn + 1) => line_same indent k wx hi2 (by omega))
  have hi1z : (inn : Int) + 1 = ((inn + 1 : Nat) : Int) := by omega
  clear h hs hg hl hll hL hn0 hb hsz hwg htF hI0 hW IH
  go_enter Tryz.func47, Tryz.ntmps47
  go_wp2
  go_loopw [12, 13, 14, 15] (fun p q s2 t wr => ∃ (pa : Option Addr) (pc : Nat) (ka : Option Addr) (kc a i : Nat) (cur : List KT), i + 1 ≤ a ∧ a ≤ L ∧ i ≤ N ∧ p = .slice pa i pc ∧ q = .slice ka i kc ∧ s2 = .int .i64 (a : Int) ∧ t = .int .i64 (i : Int) ∧ Hid (InvW d indent so false N l F i a cur) ∧ Hid (SP wr (.slice pa i pc) (cur.map (·.2))) ∧ Hid (SP wr (.slice ka i kc) (cur.map (·.1))) ∧ Hid (Fr (fun _ => False) (w.alloc (.cells #[.int .i64 5, .int .i64 (N : Int), .int .u64 (b : Int), .string (ofL s)] 29)) wr)) (fun _ _ _ t _ => N - (intOf t).toNat)
  case atStart => exact ⟨none, 0, none, 0, 1, 0, [], by omega, by omega, by omega, rfl, rfl, by go_num, by go_num, HI0, HSP, HSP, HW0⟩
  case round =>
    clear c0 c1 c2 c3 HI0 HSP HW0
    obtain ⟨pa, pc, ka, kc, a, i, cur, hia, haL, hiN, rfl, rfl, rfl, rfl, hI, hP, hK, hF⟩ := hrel
    obtain ⟨x0, x1⟩ := HX.out wr hF.out
    by_cases hlt : i < N
    · have hiz : (i : Int) < (N : Int) := by omega
      obtain ⟨n1, hn1, hsz, ha1, ha2, hT, hI2⟩ := hI.out.arr hlt
      rw [HLL.out] at ha1 ha2
      have HI2 := hid hI2
      have HW := hid (fun wx hf => HIH.out wx a hf ha2 (by rw [hsz]; omega))
      have HS := hid (fun wx hf => HSZ.out wx a hf ha2)
      rw [hsz] at HS
      obtain ⟨T, hTe⟩ : ∃ T, wrD indent so d (l.drop a) = T := ⟨_, rfl⟩
      rw [hTe] at HW HI2 hT
      have HCL := hid hI.out.n
      have hTl : T.length ≤ 100000000000 := Nat.le_trans hT HTF.out
      have hsT : (ofL T).size = T.length := ofL_size T
      have hcat : (⟨#[]⟩ : ByteArray) ++ ofL T = ofL T := by rw [show (⟨#[]⟩ : ByteArray) = ofL [] from rfl, ofL_append]; rfl
      have hx0 : (⟨#[]⟩ : ByteArray).size = 0 := rfl
      have HP1 := hid (fun (wx : World) (h : SP wx (.slice pa i pc) (cur.map (·.2))) => put_any T wx pa i pc i _ h (by simp [HCL.out]) (by simp [HCL.out]; omega))
      have HP2 := hid (fun (wx : World) (h : SP wx (.slice ka i kc) (cur.map (·.1))) => (show Calls Tryz.prog 79 #[.slice ka i kc, .int .i64 (i : Int), .string ⟨#[]⟩] wx _ from put_any [] wx ka i kc i _ h (by simp [HCL.out]) (by simp [HCL.out]; omega)))
      rw [List.length_map, HCL.out] at HP1 HP2
      have HM1 := hid (map_put cur i i ([], T) HCL.out (·.2) rfl)
      have HM2 := hid (map_put cur i i ([], T) HCL.out (·.1) rfl)
      obtain ⟨a2, ha2e⟩ : ∃ a2, a + n1 = a2 := ⟨_, rfl⟩
      rw [ha2e] at HI2 ha1
      have ha2z : (a : Int) + (n1 : Int) = (a2 : Int) := by omega
      have hw4 : IntKind.i64.wrap ((a : Int) + (n1 : Int)) = (a2 : Int) := by rw [ha2z]; exact IntWalk.i64_in _ (by omega)
      have hia2 : i + 2 ≤ a2 := by omega
      have hw3 : IntKind.i64.wrap ((i : Int) + 1) = (i : Int) + 1 := IntWalk.i64_in _ (by omega)
      have hacz : a < cap := by omega
      generalize ofL T = TS at *
      generalize T.length = tl at *
      generalize inn + 1 = inn1 at *
      clear hT hsz hTe hI2 ha2e hn1 hI
      go_wp2_with fail
      refine Calls.mono (HW.out _ (HWW.out.trans hF.out)) ?_
      rintro e w3 ⟨rfl, hf3⟩
      have HF3 := hid (hF.out.trans hf3)
      have hP3 := hid (hP.out.fr hf3)
      have hK3 := hid (hK.out.fr hf3)
      obtain ⟨y0, y1⟩ := HX.out w3 (hF.out.trans hf3)
      clear hf3 x0 x1 hF hP hK HW
      go_wp2_with fail
      refine Calls.mono (HS.out _ (HWW.out.trans HF3.out)) ?_
      rintro e w4 ⟨rfl, hf4⟩
      have HF4 := hid (HF3.out.trans hf4)
      have hP4 := hid (hP3.out.fr hf4)
      have hK4 := hid (hK3.out.fr hf4)
      obtain ⟨x0, x1⟩ := HX.out w4 (HF3.out.trans hf4)
      clear hf4 y0 y1 HF3 hP3 hK3 HS
      go_wp2_with fail
      refine Calls.mono (HP1.out _ hP4.out) ?_
      rintro e w5 ⟨pa', pc', rfl, h5, hf5⟩
      have HF5 := hid (HF4.out.trans hf5)
      have hP5 := hid h5
      have hK5 := hid (hK4.out.fr hf5)
      clear hf5 x0 x1 HF4 hP4 hK4 HP1 h5
      go_wp2_with fail
      refine Calls.mono (HP2.out _ hK5.out) ?_
      rintro e w6 ⟨ka', kc', rfl, h6, hf6⟩
      have HF6 := hid (HF5.out.trans hf6)
      have hK6 := hid h6
      have hP6 := hid (hP5.out.fr hf6)
      clear hf6 HF5 hP5 hK5 HP2 h6
      go_wp2
      go_roundw
      case rel => exact ⟨pa', pc', ka', kc', a2, i + 1, cur ++ [([], T)], by omega, ha1, by omega, rfl, rfl, rfl, by go_num, HI2, hid (by rw [← HM1.out]; exact hP6.out), hid (by rw [← HM2.out]; exact hK6.out), HF6⟩
      case measure => simp [intOf]; omega
    · have hiN2 : i = N := by omega
      subst hiN2
      have hni : ¬ ((i : Int) < (i : Int)) := by omega
      have hcF := hI.out.done
      have HCL := hid hI.out.n
      subst hcF
      obtain ⟨ps, hps⟩ : ∃ ps, cur.map (·.2) = ps := ⟨_, rfl⟩
      have HJL := hid (joinGo_len indent (inn + 1) true cur hi2 (by have := HIN.out; omega))
      have HPM := hid (fun p (hp : p ∈ cur) => tot_mem hp)
      have HPS := hid (show ∀ (j : Nat) p, ps[j]? = some p → p.length ≤ 100000000000 from by
        intro j p hp
        rw [← hps] at hp
        obtain ⟨q, hq, rfl⟩ := List.mem_map.1 (List.mem_of_getElem? hp)
        exact Nat.le_trans (HPM.out q hq) HTF.out)
      have HPL := hid (show ps.length = i from by rw [← hps, List.length_map, HCL.out])
      rw [hps] at hP HJL HU
      clear hps HPM hI hK HIH HSZ
      by_cases hi0 : i = 0
      · subst hi0
        have hjl : joinL indent inn false ps = [91, 93] := by unfold joinL; rw [if_pos HPL.out]; rfl
        rw [hjl] at HU
        have HFX := hid (HWW.out.trans hF.out)
        have hcat : (⟨#[91]⟩ : ByteArray) ++ (⟨#[93]⟩ : ByteArray) = ofL [91, 93] := rfl
        have hx1 : (⟨#[91]⟩ : ByteArray).size = 1 := rfl
        have hx2 : (⟨#[93]⟩ : ByteArray).size = 1 := rfl
        go_wp2
        go_ret
        exact ⟨by rw [← HU.out]; rfl, HFX.out⟩
      · have hi0z : ((i : Int) == 0) = false := beq_eq_false_iff_ne.2 (by omega)
        obtain ⟨J, hJ⟩ : ∃ J, 91 :: joinGo indent (inn + 1) true ps = J := ⟨_, rfl⟩
        have hjl : joinL indent inn false ps = J ++ lineL indent inn ++ [93] := by unfold joinL; rw [if_neg (by have := HPL.out; omega), ← hJ]; simp [openB, endB]
        have hJlen : J.length ≤ 100000000001 := by rw [← hJ, List.length_cons]; have := HJL.out; have := HTF.out; omega
        rw [hjl] at HU
        obtain ⟨gi, rfl⟩ := row_some hP.out.1 (by have := HPL.out; omega)
        have HROW := hid (show ∀ (wx : World) (j : Nat) p, Fr (fun _ => False) wr wx → ps[j]? = some p → wx.cell? ⟨gi, j, none⟩ = some (.string (ofL p)) from by
          intro wx j p hf hp
          have h1 := rowFr hP.out.1 hf (fun _ _ => id)
          rw [HPL.out] at h1
          exact rowCell h1 j _ (by unfold strV; rw [List.getElem?_map, hp]; rfl))
        have HL0 := hid (fun wx => HLN.out inn wx (by omega))
        have HL1 := hid (fun wx => HLN.out (inn + 1) wx (by omega))
        have hln0 := line_len indent inn hi2 (by have := HIN.out; omega)
        have hln1 := line_len indent (inn + 1) hi2 (by have := HIN.out; omega)
        have HJ0 := hid (show [91] ++ joinGo indent (inn + 1) (decide (0 = 0)) (ps.drop 0) = J from hJ)
        have HJG := hid (fun (j : Nat) (p S : List UInt8) (hp : ps[j]? = some p) => joinGo_step indent (inn + 1) ps j p S hp)
        obtain ⟨l0, hl0⟩ : ∃ l0, lineL indent inn = l0 := ⟨_, rfl⟩
        obtain ⟨l1, hl1⟩ : ∃ l1, lineL indent (inn + 1) = l1 := ⟨_, rfl⟩
        rw [hl0] at HL0 hln0 HU
        rw [hl1] at HL1 hln1 HJG
        have HWJ := hid (Fr.refl (fun _ => False) wr)
        clear hl0 hl1 hjl hJ HLN
        generalize inn + 1 = inn1 at *
        go_wp2
        go_loopw [20, 22] (fun s2 t wj => ∃ (j : Nat) (S : List UInt8), j ≤ i ∧ s2 = .string (ofL S) ∧ t = .int .i64 (j : Int) ∧ Hid (S ++ joinGo indent inn1 (decide (j = 0)) (ps.drop j) = J) ∧ Hid (Fr (fun _ => False) wr wj)) (fun _ t _ => i - (intOf t).toNat)
        case atStart => exact ⟨0, [91], by omega, rfl, by go_num, HJ0, HWJ⟩
        case round =>
          clear HJ0 HWJ x0 x1
          rename_i wr0
          obtain ⟨j, S, hji, rfl, rfl, hS, hFj⟩ := hrel
          by_cases hjlt : j < i
          · have hjz : (j : Int) < (i : Int) := by omega
            obtain ⟨p, hp⟩ : ∃ p, ps[j]? = some p := ⟨ps[j]'(by have := HPL.out; omega), List.getElem?_eq_getElem _⟩
            have hcell := HROW.out _ j p hFj.out hp
            have hpl := HPS.out j p hp
            have hst := HJG.out j p S hp
            rw [hS.out] at hst
            have hjl2 := congrArg List.length hst
            have hw5 : IntKind.i64.wrap ((j : Int) + 1) = (j : Int) + 1 := IntWalk.i64_in _ (by omega)
            have z1 : (ofL S).size = S.length := ofL_size S
            have z2 : (ofL l1).size = l1.length := ofL_size l1
            have z3 : (ofL p).size = p.length := ofL_size p
            have HFN := hid (fun n => hFj.out.drewN n)
            by_cases hj0 : j = 0
            · subst hj0
              rw [if_pos rfl, List.append_nil] at hst hjl2
              have hcat1 : ofL S ++ ofL l1 = ofL (S ++ l1) := ofL_append _ _
              have hcat2 : ofL (S ++ l1) ++ ofL p = ofL (S ++ l1 ++ p) := ofL_append _ _
              have z4 : (ofL (S ++ l1)).size = S.length + l1.length := by rw [ofL_size]; simp
              have HST := hid hst.symm
              simp only [List.length_append] at hjl2
              obtain ⟨A2, hA2⟩ : ∃ A2, ofL (S ++ l1 ++ p) = A2 := ⟨_, rfl⟩
              rw [hA2] at hcat2
              have HA2 := hid hA2
              generalize ofL (S ++ l1) = A1 at *
              generalize ofL S = A0 at *
              generalize ofL l1 = L1 at *
              generalize ofL p = PP at *
              clear hst hA2 hp hS hFj
              go_wp2
              go_quiet ((go_at_call 80; exact Calls.quiet_of_same (HL1.out _)))
              go_wp2
              go_roundw
              case rel => exact ⟨1, S ++ l1 ++ p, by omega, by rw [HA2.out], by go_num, HST, hid (HFN.out _)⟩
              case measure => simp [intOf]; omega
            · rw [if_neg hj0] at hst hjl2
              have hj0z : (0 : Int) < (j : Int) := by omega
              have hcat0 : ofL S ++ (⟨#[44]⟩ : ByteArray) = ofL (S ++ [44]) := ofL_append _ [44]
              have hcat1 : ofL (S ++ [44]) ++ ofL l1 = ofL (S ++ [44] ++ l1) := ofL_append _ _
              have hcat2 : ofL (S ++ [44] ++ l1) ++ ofL p = ofL (S ++ [44] ++ l1 ++ p) := ofL_append _ _
              have z4 : (ofL (S ++ [44] ++ l1)).size = S.length + 1 + l1.length := by rw [ofL_size]; simp only [List.length_append, List.length_singleton]
              have z5 : (ofL (S ++ [44])).size = S.length + 1 := by rw [ofL_size]; simp
              have z6 : (⟨#[44]⟩ : ByteArray).size = 1 := rfl
              have HST := hid hst.symm
              simp only [List.length_append, List.length_singleton] at hjl2
              obtain ⟨A2, hA2⟩ : ∃ A2, ofL (S ++ [44] ++ l1 ++ p) = A2 := ⟨_, rfl⟩
              rw [hA2] at hcat2
              have HA2 := hid hA2
              generalize ofL (S ++ [44] ++ l1) = A1 at *
              generalize ofL (S ++ [44]) = A01 at *
              generalize ofL S = A0 at *
              generalize ofL l1 = L1 at *
              generalize ofL p = PP at *
              clear hst hA2 hp hS hFj hj0
              go_wp2
              go_quiet ((go_at_call 80; exact Calls.quiet_of_same (HL1.out _)))
              go_wp2
              go_roundw
              case rel => exact ⟨j + 1, S ++ [44] ++ l1 ++ p, by omega, by rw [HA2.out], by go_num, HST, hid (HFN.out _)⟩
              case measure => simp [intOf]; omega
          · obtain rfl : j = i := by omega
            have hnj : ¬ ((j : Int) < (j : Int)) := by omega
            have hSJ : S = J := by
              have := hS.out
              rw [List.drop_eq_nil_of_le (by have := HPL.out; omega)] at this
              simpa [joinGo] using this
            subst hSJ
            have HFX := hid (HWW.out.trans (hF.out.trans hFj.out))
            have z1 : (ofL S).size = S.length := ofL_size S
            have z2 : (ofL l0).size = l0.length := ofL_size l0
            have z3 : (⟨#[93]⟩ : ByteArray).size = 1 := rfl
            have hcat1 : ofL S ++ ofL l0 = ofL (S ++ l0) := ofL_append _ _
            have hcat2 : ofL (S ++ l0) ++ (⟨#[93]⟩ : ByteArray) = ofL (S ++ l0 ++ [93]) := ofL_append _ [93]
            have z4 : (ofL (S ++ l0)).size = S.length + l0.length := by rw [ofL_size]; simp
            obtain ⟨A2, hA2⟩ : ∃ A2, ofL (S ++ l0 ++ [93]) = A2 := ⟨_, rfl⟩
            rw [hA2] at hcat2
            have HA2 := hid hA2
            generalize ofL (S ++ l0) = A1 at *
            generalize ofL S = A0 at *
            generalize ofL l0 = L0 at *
            clear hA2 hS hFj hi0
            go_wp2_with fail
            refine Calls.mono (HL0.out _) ?_
            rintro e w7 ⟨rfl, rfl⟩
            go_wp2
            go_ret
            exact ⟨by rw [← HU.out, HA2.out]; rfl, HFX.out⟩
end Go.Proofs.YtmkkibaacclhnaaGreatDoor
