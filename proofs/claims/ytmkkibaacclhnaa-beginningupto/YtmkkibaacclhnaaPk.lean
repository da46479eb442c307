/-
  A step of the walk of the parser, the part named Pk: where a character may begin. No theorem of the row.
-/
import Derived.Test.YtmkkibaacclhnaaPi
namespace Go.Proofs.Ytmkkibaacclhnaa
open Go.RowKit

/-- what a function of the reader leaves -/
def TrDone (B o T : Nat) (cs : Array Value) (v : Value) (w : World) (r : Except Nat (Tr × Bool)) (e : Ending) (w' : World) : Prop :=
  match r with
  | .ok (t', b) => e = .returned (.bool b) ∧ TrPost 0 B o T cs v w w' t'
  | .error n => e = gave n ∧ TrErr B o T cs v w w'
theorem TrErr.same {B o T : Nat} {cs : Array Value} {v : Value} {t : Tr} {w w' : World} (h : TrAt 0 w B o T cs v t) (hF : Fr (fun _ => False) w w') : TrErr B o T cs v w w' :=
  ⟨cs, hF.heap h.1 id, ApartR.refl _ _, hF.mono (fun _ h => h.elim)⟩

set_option maxRecDepth 100000 in
set_option maxHeartbeats 8000000 in
theorem trChar_any (B o T : Nat) (cs : Array Value) (v : Value) (t : Tr) (k : Nat) (c : UInt8) (w : World) (hT : T ≠ 5) (h : TrAt 0 w B o T cs v t) (hok : TrOk t k) (hk : k ≤ 10000000) :
    Calls Try.prog 117 #[.pointer (some ⟨B, o, none⟩), .int .u8 (c.toNat : Int)] w (TrDone B o T cs v w (trChar t c)) := by
  have hln : t.made.length ≤ 40000000 := by have := hok.len; omega
  have H := hid h
  have HT := hid hT
  obtain ⟨hh, hI, ho⟩ := h
  have k0 := blk_cell hh hI.c0
  have k1 := blk_cell hh hI.c1
  have k7 := blk_cell hh hI.c7
  have f0 := blk_free (j := o) hh
  have f1 := blk_free (j := o + 1) hh
  have HI := hid hI
  have HO := hid ho
  have HS := hid (fun w h => trSev_any B o T cs v t k c w hT h hok hk)
  obtain ⟨a, cap, rfl⟩ := row_shape ho
  clear hh hI ho hT
  unfold trChar
  by_cases h92 : c = 92
  · rw [if_pos h92]
    subst h92
    show Calls Try.prog 117 #[.pointer (some ⟨B, o, none⟩), .int .u8 (92 : Int)] w _
    go_enter Try.func117, Try.ntmps117
    go_wp2
    go_ret
    have := (TrR.start H.out).s0 HT.out 2
    exact ⟨rfl, _, _, this⟩
  rw [if_neg h92]
  have q92 : ((c.toNat : Int) == 92) = false := beq_eq_false_iff_ne.2 (by have := toNat_neP h92; simp at this; omega)
  by_cases hh0 : t.high ≠ 0
  · rw [if_pos hh0]
    have hx2 : ((t.high : Int) != 0) = true := bne_iff_ne.2 (by omega)
    clear hh0 h92
    go_enter Try.func117, Try.ntmps117
    go_wp2
    exact ⟨rfl, rfl, TrErr.same H.out (Fr.refl _ _)⟩
  rw [if_neg hh0]
  have hx2 : ((t.high : Int) != 0) = false := by simp; omega
  by_cases h34 : c = 34
  · rw [if_pos h34]
    subst h34
    clear h92 q92 hh0
    show Calls Try.prog 117 #[.pointer (some ⟨B, o, none⟩), .int .u8 (34 : Int)] w _
    go_enter Try.func117, Try.ntmps117
    go_wp2
    go_ret
    exact ⟨rfl, _, _, TrR.start H.out⟩
  rw [if_neg h34]
  have q34 : ((c.toNat : Int) == 34) = false := beq_eq_false_iff_ne.2 (by have := toNat_neP h34; simp at this; omega)
  clear h92 h34 hh0
  by_cases h32 : c.toNat < 32
  · rw [if_pos h32]
    go_enter Try.func117, Try.ntmps117
    go_wp2
    exact ⟨rfl, rfl, TrErr.same H.out (Fr.refl _ _)⟩
  rw [if_neg h32]
  by_cases h128 : c.toNat < 128
  · rw [if_pos h128]
    obtain ⟨i0, hi, hz0, hz1, hz2⟩ := info_parts Try.info5
    have ho := HO.out
    go_enter Try.func117, Try.ntmps117
    go_wp2_with (first
      | (at_builtin; refine wpList_append_d _ rfl _ _ 52 rfl 5 i0 (.int .u8 0) 1 1 Try.underlying52 hi hz0 hz1 hz2 rfl (by decide) _ _ _ rfl (ho.alloc _) ⟨w.heap.size, 0, none⟩ 1 1 [.int .u8 (c.toNat : Int)] rfl rfl ?c1 ?c2 ?c3 ?c4 ?_)
      | go_in)
    case c1 => exact cell_one_new _ _ _
    case c2 => intro u hu; simp at hu; subst hu; rfl
    case c3 => unfold maxLen; omega
    case c4 => omega
    intro v' w1 hown' hgrow hnew
    obtain ⟨g', cap', rfl⟩ := row_succ hown'
    obtain ⟨hh1, hR⟩ := (TrR.start H.out).grow HT.out hown' hgrow hnew (us_one c) rfl
    have q1 := blk_cell hh1 HI.out.c1
    have p1 := blk_free (j := o + 1) hh1
    have HR := hid hR
    clear hown' hgrow hnew hh1 hR ho
    go_wp2
    go_ret
    exact ⟨rfl, _, _, HR.out⟩
  · rw [if_neg h128]
    have hs := HS.out w H.out
    cases hr : trSev t c with
    | error n =>
      rw [hr] at hs
      have HQ := hid hs
      clear hs hr
      go_enter Try.func117, Try.ntmps117
      go_wp2_with fail
      refine Calls.mono HQ.out ?_
      rintro e w2 ⟨rfl, rfl⟩
      exact ⟨rfl, rfl, TrErr.same H.out (Fr.refl _ _)⟩
    | ok t' =>
      rw [hr] at hs
      have HQ := hid hs
      clear hs hr
      go_enter Try.func117, Try.ntmps117
      go_wp2_with fail
      refine Calls.mono HQ.out ?_
      rintro e w2 ⟨rfl, hp⟩
      have HP := hid hp
      clear hp
      go_wp2
      go_ret
      exact ⟨rfl, HP.out⟩
end Go.Proofs.Ytmkkibaacclhnaa
