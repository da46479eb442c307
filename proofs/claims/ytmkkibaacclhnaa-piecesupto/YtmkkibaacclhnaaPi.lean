/-
  A step of the walk of the parser, the part named Pi: behind an escape's last digit. No theorem of the row.
-/
import Derived.Test.YtmkkibaacclhnaaPh
namespace Go.Proofs.Ytmkkibaacclhnaa
open Go.RowKit

/-- what a call that lays bytes behind leaves -/
theorem TrR.rune {base B o T : Nat} {cs0 cs : Array Value} {v0 v v' : Value} {w0 W w1 : World} {t : Tr} {e : List UInt8} (hT : T ≠ 5) (h : TrR base B o T cs0 v0 w0 cs v W t)
    (hown : w1.ownsRow base 5 1 v' (t.made ++ e).length (us (t.made ++ e))) (hF : Fr (fun i => v.ownBlock = some i) W w1) (hn : ∀ g, v'.ownBlock = some g → v.ownBlock = some g ∨ W.heap.size ≤ g) :
    w1.heap[B]? = some (.cells cs T (0, 0)) ∧ TrR base B o T cs0 v0 w0 (cs.setIfInBounds (o + 1) v') v' (w1.setCell ⟨B, o + 1, none⟩ v') ⟨t.st, t.made ++ e, t.lack, t.lo, t.hi, t.dg, t.code, t.high⟩ := by
  obtain ⟨⟨a, b, c⟩, d, f, ow⟩ := h
  have hro := row_other c a hT
  have hh : w1.heap[B]? = some (.cells cs T (0, 0)) := hF.heap a (fun h => hro h)
  have hs := b.size
  have hro1 := row_other hown hh hT
  have hfs := f.size
  refine ⟨hh, ⟨heap_setCell_same w1 B (o + 1) cs T v' hh, ⟨by rw [set_get_ne (by omega)]; exact b.c0, get_setP (by omega), by rw [set_get_ne (by omega)]; exact b.c2, by rw [set_get_ne (by omega)]; exact b.c3, by rw [set_get_ne (by omega)]; exact b.c4, by rw [set_get_ne (by omega)]; exact b.c5, by rw [set_get_ne (by omega)]; exact b.c6, by rw [set_get_ne (by omega)]; exact b.c7⟩, ownsRow_setCell_other hown (a := ⟨B, o + 1, none⟩) hro1 v'⟩, d.set 1 (by omega) _, ?_, ?_⟩
  · refine (f.trans' hF ?_).setCell (.inl (.inl rfl)) _
    intro i hi
    rcases ow i hi with h | h
    · exact .inl (.inr h)
    · exact .inr h
  · intro g hg'
    rcases hn g hg' with h | h
    · exact ow g h
    · exact .inr (by omega)

theorem row_shape3 {w : World} {base e size n : Nat} {v : Value} {xs : List Value} (h : w.ownsRow base e size v n xs) : ∃ a m c, v = .slice a m c := by
  rcases h.2 with ⟨h, _⟩ | ⟨g, c, cur, h, _⟩
  · exact ⟨_, _, _, h⟩
  · exact ⟨_, _, _, h⟩

set_option maxRecDepth 100000 in
set_option maxHeartbeats 4000000 in
theorem end_b (B o T : Nat) (cs : Array Value) (v : Value) (t : Tr) (w : World) (hT : T ≠ 5) (h : TrAt 0 w B o T cs v t) (hh0 : t.high = 0) (h1 : 55296 ≤ t.code) (h2 : t.code < 56320) :
    Calls Try.prog 129 #[.pointer (some ⟨B, o, none⟩)] w fun e w' => e = .returned (.tuple #[]) ∧ TrPost 0 B o T cs v w w' ⟨0, t.made, t.lack, t.lo, t.hi, t.dg, t.code, t.code⟩ := by
  have H := hid h
  have HT := hid hT
  obtain ⟨hh, hI, ho⟩ := h
  have q0 := blk_cell hh hI.c0
  have q6 := blk_cell hh hI.c6
  have q7 := blk_cell hh hI.c7
  rw [hh0] at q7
  have p0 := blk_free (j := o) hh
  have p7 := blk_free (j := o + 7) hh
  have g1 : (55296 : Int) ≤ (t.code : Int) := by omega
  have g2 : (t.code : Int) < 56320 := by omega
  clear hh hI ho hT hh0 h1 h2
  go_enter Try.func129, Try.ntmps129
  go_wp2
  go_end0
  have := ((TrR.start H.out).s7 HT.out t.code).s0 HT.out 0
  exact ⟨rfl, _, _, this⟩

set_option maxRecDepth 100000 in
set_option maxHeartbeats 8000000 in
theorem end_c (B o T : Nat) (cs : Array Value) (v : Value) (t : Tr) (w : World) (hT : T ≠ 5) (h : TrAt 0 w B o T cs v t) (hln : t.made.length ≤ 40000000) (hh0 : t.high = 0) (h1 : t.code < 55296 ∨ (57344 ≤ t.code ∧ t.code < 65536)) :
    Calls Try.prog 129 #[.pointer (some ⟨B, o, none⟩)] w fun e w' => e = .returned (.tuple #[]) ∧ TrPost 0 B o T cs v w w' ⟨0, t.made ++ encR t.code, t.lack, t.lo, t.hi, t.dg, t.code, t.high⟩ := by
  have HT := hid hT
  have H0 := hid (show TrR 0 B o T cs v w cs v w.drew t from ⟨h, ApartR.refl _ _, (Fr.refl _ _).drew, fun _ h => .inl h⟩)
  obtain ⟨hh, hI, ho⟩ := h
  have HR := hid (fun w ho => rune_any v t.made t.code w ho (by omega) (by omega))
  have HO := hid ho
  obtain ⟨a, cap, rfl⟩ := row_shape ho
  have q1 := blk_cell hh hI.c1
  have q6 := blk_cell hh hI.c6
  have q7 := blk_cell hh hI.c7
  rw [hh0] at q7
  have HI := hid hI
  obtain ⟨R, hR⟩ : ∃ R : Int, (t.code : Int) = R := ⟨_, rfl⟩
  have hg : R < 55296 ∨ (57344 ≤ R ∧ R < 65536) := by omega
  have hR0 : 0 ≤ R := by omega
  rw [hR] at q6 HR
  clear hh hI ho hT hh0 h1 hR
  rcases hg with g1 | ⟨g1, g2⟩
  all_goals
    go_enter Try.func129, Try.ntmps129
    go_wp2
    go_region_with (go_at_call 134; refine Calls.mono (HR.out _ HO.out) ?_; rintro e w2 ⟨v2, rfl, hown, hF, hnew⟩; obtain ⟨hh1, hR⟩ := H0.out.rune HT.out hown hF hnew; obtain ⟨a2, n2, cap2, rfl⟩ := row_shape3 hown; have r1 := blk_cell hh1 HI.out.c1; have r0 := blk_cell hh1 HI.out.c0; have s0 := blk_free (j := o) hh1; have s1 := blk_free (j := o + 1) hh1; have HRR := hid hR; clear hown hF hnew hh1 hR)
  all_goals
    go_wp2
    go_end0
    have := HRR.out.s0 HT.out 0
    exact ⟨rfl, _, _, this⟩

set_option maxRecDepth 100000 in
set_option maxHeartbeats 8000000 in
theorem end_a (B o T : Nat) (cs : Array Value) (v : Value) (t : Tr) (w : World) (hT : T ≠ 5) (h : TrAt 0 w B o T cs v t) (hln : t.made.length ≤ 40000000) (h1 : 55296 ≤ t.high) (h2 : t.high < 56320) (h3 : 56320 ≤ t.code) (h4 : t.code < 57344) :
    Calls Try.prog 129 #[.pointer (some ⟨B, o, none⟩)] w fun e w' => e = .returned (.tuple #[]) ∧ TrPost 0 B o T cs v w w' ⟨0, t.made ++ encR (65536 + (t.high - 55296) * 1024 + (t.code - 56320)), t.lack, t.lo, t.hi, t.dg, t.code, 0⟩ := by
  have HT := hid hT
  have H0 := hid (show TrR 0 B o T cs v w cs v w.drew t from ⟨h, ApartR.refl _ _, (Fr.refl _ _).drew, fun _ h => .inl h⟩)
  obtain ⟨hh, hI, ho⟩ := h
  obtain ⟨N, hN⟩ : ∃ N, 65536 + (t.high - 55296) * 1024 + (t.code - 56320) = N := ⟨_, rfl⟩
  rw [hN]
  have HR := hid (fun w ho => rune_any v t.made N w ho (by omega) (by omega))
  have HO := hid ho
  obtain ⟨a, cap, rfl⟩ := row_shape ho
  have q1 := blk_cell hh hI.c1
  have q6 := blk_cell hh hI.c6
  have q7 := blk_cell hh hI.c7
  have HI := hid hI
  obtain ⟨R, hR⟩ : ∃ R : Int, (t.code : Int) = R := ⟨_, rfl⟩
  obtain ⟨G, hG⟩ : ∃ G : Int, (t.high : Int) = G := ⟨_, rfl⟩
  have g1 : 55296 ≤ G := by omega
  have g2 : G < 56320 := by omega
  have g3 : 56320 ≤ R := by omega
  have g4 : R < 57344 := by omega
  have HN := hid (show 65536 + (G - 55296) * 1024 + R - 56320 = (N : Int) by omega)
  rw [hR] at q6
  rw [hG] at q7
  clear hh hI ho hT h1 h2 h3 h4 hR hG hN
  go_enter Try.func129, Try.ntmps129
  go_wp2
  go_region
  all_goals
    go_wp2_with fail
    rw [HN.out]
    refine Calls.mono (HR.out _ HO.out) ?_
    rintro e w2 ⟨v2, rfl, hown, hF, hnew⟩
    obtain ⟨hh1, hR⟩ := H0.out.rune HT.out hown hF hnew
    obtain ⟨a2, n2, cap2, rfl⟩ := row_shape3 hown
    have r1 := blk_cell hh1 HI.out.c1
    have r0 := blk_cell hh1 HI.out.c0
    have r7 := blk_cell hh1 HI.out.c7
    have s0 := blk_free (j := o) hh1
    have s1 := blk_free (j := o + 1) hh1
    have s7 := blk_free (j := o + 7) hh1
    have HRR := hid hR
    clear hown hF hnew hh1 hR
    go_wp2
    go_end0
    have := (HRR.out.s7 HT.out 0).s0 HT.out 0
    exact ⟨rfl, _, _, this⟩

theorem trEnd_any (B o T : Nat) (cs : Array Value) (v : Value) (t : Tr) (w : World) (hT : T ≠ 5) (h : TrAt 0 w B o T cs v t) (hln : t.made.length ≤ 40000000) (hc : t.code < 65536) (hhi : t.high = 0 ∨ (55296 ≤ t.high ∧ t.high < 56320)) (hlow : t.high ≠ 0 ↔ 56320 ≤ t.code ∧ t.code < 57344) :
    Calls Try.prog 129 #[.pointer (some ⟨B, o, none⟩)] w fun e w' => e = .returned (.tuple #[]) ∧ TrPost 0 B o T cs v w w' (trEnd t) := by
  unfold trEnd
  by_cases h0 : t.high ≠ 0
  · rw [if_pos h0]
    have := hlow.1 h0
    exact end_a B o T cs v t w hT h hln (by omega) (by omega) this.1 this.2
  · rw [if_neg h0]
    have h0' : t.high = 0 := by omega
    have hn : ¬ (56320 ≤ t.code ∧ t.code < 57344) := fun h => h0 (hlow.2 h)
    by_cases h1 : 55296 ≤ t.code ∧ t.code < 56320
    · rw [if_pos h1]
      exact end_b B o T cs v t w hT h h0' h1.1 h1.2
    · rw [if_neg h1]
      exact end_c B o T cs v t w hT h hln h0' (by omega)
end Go.Proofs.Ytmkkibaacclhnaa
