/-
  A step of the walk of the parser, the part named Pf: a byte within a character. No theorem of the row.
-/
import Derived.Test.YtmkkibaacclhnaaPe
namespace Go.Proofs.Ytmkkibaacclhnaa
open Go.RowKit

theorem us_one (c : UInt8) : us [c] = [.int .u8 ((c.toNat : Nat) : Int)] := rfl

set_option maxRecDepth 100000 in
set_option maxHeartbeats 4000000 in
theorem trGo_any (B o T : Nat) (cs : Array Value) (v : Value) (t : Tr) (k : Nat) (c : UInt8) (w : World) (hT : T ≠ 5) (h : TrAt 0 w B o T cs v t) (hok : TrOk t k) (hk : k ≤ 10000000) (h1 : t.st = 1) :
    Calls Try.prog 114 #[.pointer (some ⟨B, o, none⟩), .int .u8 (c.toNat : Int)] w fun e w' => match trGo t c with
      | .ok t' => e = .returned (.tuple #[]) ∧ TrPost 0 B o T cs v w w' t'
      | .error n => e = gave n ∧ w' = w := by
  obtain ⟨hh, hI, ho⟩ := h
  have hl1 := hok.lack1 h1
  have hl3 := hok.lack
  have hln := hok.len
  have hc1 := blk_cell hh hI.c1
  have hc3 := blk_cell hh hI.c3
  have hc4 := blk_cell hh hI.c4
  have H := hid (show TrAt 0 w B o T cs v t from ⟨hh, hI, ho⟩)
  have HT := hid hT
  obtain ⟨a, cap, rfl⟩ := row_shape ho
  unfold trGo
  by_cases hbad : c.toNat < t.lo ∨ t.hi < c.toNat
  · rw [if_pos hbad]
    simp only
    clear hh hI ho h1
    rcases hbad with hb | hb
    · go_enter Try.func114, Try.ntmps114
      go_wp2
      exact ⟨rfl, rfl, rfl⟩
    · by_cases hb2 : c.toNat < t.lo
      · go_enter Try.func114, Try.ntmps114
        go_wp2
        exact ⟨rfl, rfl, rfl⟩
      · go_enter Try.func114, Try.ntmps114
        go_wp2
        exact ⟨rfl, rfl, rfl⟩
  · rw [if_neg hbad]
    simp only
    have hb1 : ¬ c.toNat < t.lo := fun h => hbad (.inl h)
    have hb2 : ¬ t.hi < c.toNat := fun h => hbad (.inr h)
    clear hbad h1
    have hf1 := blk_free (j := o + 1) hh
    have HI := hid hI
    clear hh hI
    obtain ⟨i0, hi, hz0, hz1, hz2⟩ := info_parts Try.info5
    go_enter Try.func114, Try.ntmps114
    go_wp2_with (first
      | (at_builtin; refine wpList_append_d _ rfl _ _ 52 rfl 5 i0 (.int .u8 0) 1 1 Try.underlying52 hi hz0 hz1 hz2 rfl (by decide) _ _ _ rfl (ho.alloc _) ⟨w.heap.size, 0, none⟩ 1 1 [.int .u8 (c.toNat : Int)] rfl rfl ?c1 ?c2 ?c3 ?c4 ?_)
      | go_in)
    case c1 => exact cell_one_new _ _ _
    case c2 => intro u hu; simp at hu; subst hu; rfl
    case c3 => unfold maxLen; omega
    case c4 => omega
    intro v' w1 hown' hgrow hnew
    obtain ⟨g', cap', rfl⟩ := row_succ hown'
    obtain ⟨hh1, hR⟩ := (TrR.start H.out).grow HT.out hown' hgrow hnew (us_one c) rfl
    have k1 := blk_cell hh1 HI.out.c1
    have k2 := blk_cell hh1 HI.out.c2
    have k3 := blk_cell hh1 HI.out.c3
    have k4 := blk_cell hh1 HI.out.c4
    have k0 := blk_cell hh1 HI.out.c0
    have f0 := blk_free (j := o) hh1
    have f1 := blk_free (j := o + 1) hh1
    have f2 := blk_free (j := o + 2) hh1
    have f3 := blk_free (j := o + 3) hh1
    have f4 := blk_free (j := o + 4) hh1
    have HR := hid hR
    clear hown' hgrow hnew hh1 hR ho hc1 hc3 hc4 hf1
    by_cases hz : t.lack - 1 = 0
    · have HL := hid (show t.lack = 1 by omega)
      have hlk : (t.lack : Int) = 1 := by omega
      go_wp2
      go_end0
      have := ((((HR.out.s3 HT.out 128).s4 HT.out 191).s2 HT.out 0).s0 HT.out 0)
      exact ⟨rfl, _, _, this⟩
    · go_wp2
      go_end0
      have := (((HR.out.s3 HT.out 128).s4 HT.out 191).s2 HT.out (t.lack - 1))
      rw [show ((t.lack - 1 : Nat) : Int) = (t.lack : Int) - 1 by omega] at this
      try rw [if_neg hz]
      exact ⟨rfl, _, _, this⟩
end Go.Proofs.Ytmkkibaacclhnaa
