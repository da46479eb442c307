/-
  A step of the walk of the numbers, the part named TkA: a digit laid behind a decimal. No theorem of the row.
-/
import Derived.Test.YtmkkibaacclhnaaTnr
namespace Go.Proofs.Ytmkkibaacclhnaa
open Go.RowKit

theorem blk_cell {w : World} {B T j : Nat} {cs : Array Value} {v : Value} (h : w.heap[B]? = some (.cells cs T (0, 0))) (hj : cs[j]? = some v) : w.cell? ⟨B, j, none⟩ = some v := by simp [World.cell?, h, hj]
theorem blk_free {w : World} {B T j : Nat} {cs : Array Value} (h : w.heap[B]? = some (.cells cs T (0, 0))) : w.frozen? ⟨B, j, none⟩ = false := by simp [World.frozen?, h]

/-- a row's block is the one it was, or a new one -/
def Newer (v v' : Value) (w : World) : Prop := ∀ g, v'.ownBlock = some g → v.ownBlock = some g ∨ w.heap.size ≤ g
theorem ownsRow_up {w w1 : World} {base e size n m : Nat} {v v' : Value} {xs ys : List Value} (h : w1.ownsRow 0 e size v' n xs) (ho : w.ownsRow base e size v m ys) (hb : base ≤ w.heap.size) (hn : ∀ g', v'.ownBlock = some g' → v.ownBlock = some g' ∨ w.heap.size + 1 ≤ g') : w1.ownsRow base e size v' n xs := by
  refine ⟨h.1, ?_⟩
  rcases h.2 with h2 | ⟨g, cap, cur, hv, _, h4⟩
  · exact .inl h2
  · refine .inr ⟨g, cap, cur, hv, ?_, h4⟩
    rcases hn g (by rw [hv]; rfl) with h5 | h5
    · exact (ho.lt g h5).1
    · omega

/-- what a digit makes of the memory of a decimal -/
def AddPost (base B o T : Nat) (cs : Array Value) (w w' : World) (v : Value) (x : List Nat × Int) : Prop :=
  ∃ v', w'.heap[B]? = some (.cells ((cs.setIfInBounds o v').setIfInBounds (o + 1) (.int .i64 x.2)) T (0, 0)) ∧ w'.ownsRow base 5 1 v' x.1.length (bs x.1) ∧ Fr (fun i => i = B ∨ v.ownBlock = some i) w w' ∧ Newer v v' w

theorem set_same {cs : Array Value} {j : Nat} {v : Value} (h : cs[j]? = some v) : cs.setIfInBounds j v = cs := by
  apply Array.ext_getElem?
  intro i
  rw [Array.getElem?_setIfInBounds]
  split
  · rename_i e; subst e
    split
    · exact h.symm
    · rename_i hn; rw [Array.getElem?_eq_none (by omega)]
  · rfl
theorem set_get_ne {cs : Array Value} {j k : Nat} {v : Value} (h : j ≠ k) : (cs.setIfInBounds j v)[k]? = cs[k]? := by
  rw [Array.getElem?_setIfInBounds, if_neg h]

set_option maxRecDepth 100000 in
set_option maxHeartbeats 4000000 in
theorem add_any (base B o T : Nat) (cs : Array Value) (D : List Nat) (P : Int) (c : UInt8) (v : Value) (w : World) (hT : T ≠ 5) (hbw : base ≤ w.heap.size) (hh : w.heap[B]? = some (.cells cs T (0, 0)))
    (h0 : cs[o]? = some v) (h1 : cs[o + 1]? = some (.int .i64 P)) (ho : w.ownsRow base 5 1 v D.length (bs D)) (hlen : D.length ≤ 769) (hP1 : -4000000000000000 ≤ P) (hP2 : P ≤ 4000000000000000) (hc : isD c = true) :
    Calls Try.prog 45 #[.pointer (some ⟨B, o, none⟩), .int .u8 (c.toNat : Int)] w fun e w' => e = .returned (.tuple #[]) ∧ AddPost base B o T cs w w' v (addD (D, P) (c.toNat - 48)) := by
  obtain ⟨hcl, hch⟩ := (isD_iff c).1 hc
  obtain ⟨a, cap, rfl⟩ := row_shape ho
  have hc0 := blk_cell hh h0
  have hc1 := blk_cell hh h1
  have hf0 := blk_free (j := o) hh
  have hf1 := blk_free (j := o + 1) hh
  have hro := row_other ho hh hT
  have hBl := lt_of_block hh
  obtain ⟨i0, hi, hz0, hz1, hz2⟩ := info_parts Try.info5
  by_cases hA : D.length = 0 ∧ c.toNat = 48
  · have hDn : D = [] := List.eq_nil_of_length_eq_zero hA.1
    subst hDn
    have hdg : ((c.toNat : Int) == 48) = true := by simp; omega
    have hres : addD ([], P) (c.toNat - 48) = ([], P - 1) := by simp [addD, hA.2]
    have HR := hid hres
    have HS1 := hid (heap_setCell_same w B (o + 1) cs T (.int .i64 (P - 1)) hh)
    have HO := hid ho
    have HE := hid (set_same h0)
    have HH := hid hh
    clear hA hres ho h0 h1 hh
    simp only [List.length_nil] at *
    go_enter Try.func45, Try.ntmps45
    go_wp2
    go_end0
    rw [HR.out]
    refine ⟨rfl, .slice a 0 cap, ?_, ownsRow_setCell_other HO.out (a := ⟨B, o + 1, none⟩) hro _, (Fr.refl _ w).setCell (.inl (.inl rfl)) _, fun _ h => .inl h⟩
    rw [HE.out]
    exact HS1.out
  · by_cases hlt7 : D.length < 768
    · have hres : addD (D, P) (c.toNat - 48) = (D ++ [c.toNat - 48], P) := by
        unfold addD
        rw [if_neg (by rintro ⟨h1, h2⟩; simp only at h1; apply hA; rw [h1]; exact ⟨rfl, by omega⟩), if_pos hlt7]
      have HR := hid hres
      have HE := hid (show (cs.setIfInBounds o (.slice a D.length cap)).setIfInBounds (o + 1) (.int .i64 P) = cs by rw [set_same h0, set_same h1])
      have HE1 := hid h1
      clear hres
      have fin : ∀ w1 : World, ∀ v', w1.ownsRow base 5 1 v' (D.length + 1) (bs D ++ [.int .u8 (c.toNat : Int)]) → (w.alloc (.cells #[.int .u8 (c.toNat : Int)] 5)).grownBy w1 (Value.ownBlock (.slice a D.length cap)) → (∀ g', v'.ownBlock = some g' → (Value.slice a D.length cap).ownBlock = some g' ∨ w.heap.size + 1 ≤ g') →
          AddPost base B o T cs w (w1.setCell ⟨B, o, none⟩ v') (.slice a D.length cap) (D ++ [c.toNat - 48], P) := by
        intro w1 v' hown' hgrow hnew
        have hh1 : w1.heap[B]? = some (.cells cs T (0, 0)) := by
          rw [hgrow.block B (by simp; omega) (fun e => hro e.symm), Below.heap_alloc _ _ _ hBl]; exact hh
        have hro1 := row_other hown' hh1 hT
        refine ⟨v', ?_, row_snoc (ownsRow_setCell_other hown' (a := ⟨B, o, none⟩) hro1 _) (by omega), (((Fr.refl _ w).alloc _).grown hgrow (fun k hk => .inl (.inr hk))).setCell (.inl (.inl rfl)) _, fun g hg => (hnew g hg).imp id (fun h => by omega)⟩
        rw [set_same (j := o + 1) (by rw [set_get_ne (by omega)]; exact HE1.out)]
        exact heap_setCell_same w1 B o cs T v' hh1
      have FIN := hid fin
      clear fin
      by_cases hD0 : D.length = 0
      · have hl0 : ((D.length : Int) == 0) = true := beq_iff_eq.2 (by omega)
        have hdg : ((c.toNat : Int) == 48) = false := by simp; omega
        have HA := hid hA
        have HD0 := hid hD0
        have HX0 := hid h0
        clear hA hD0 h0 h1
        go_enter Try.func45, Try.ntmps45
        go_wp2_with (first
          | (at_builtin; refine wpList_append_d _ rfl _ _ 52 rfl 5 i0 (.int .u8 0) 1 1 Try.underlying52 hi hz0 hz1 hz2 rfl (by decide) _ _ _ rfl (ownsRow_base (ho.alloc _)) ⟨w.heap.size, 0, none⟩ 1 1 [.int .u8 (c.toNat : Int)] rfl rfl ?c1 ?c2 ?c3 ?c4 ?_)
          | go_in)
        case c1 => exact cell_one_new _ _ _
        case c2 => intro u hu; simp at hu; subst hu; rfl
        case c3 => unfold maxLen; omega
        case c4 => omega
        intro v' w1 hown0 hgrow hnew
        have hown' := ownsRow_up hown0 ho hbw hnew
        obtain ⟨g', cap', rfl⟩ := row_succ hown'
        have hh1 : w1.heap[B]? = some (.cells cs T (0, 0)) := by
          rw [hgrow.block B (by simp; omega) (fun e => hro e.symm), Below.heap_alloc _ _ _ hBl]; exact hh
        have hf2 := blk_free (j := o) hh1
        have hcu := blk_cell hh1 HX0.out
        have HFIN := hid (FIN.out w1 _ hown' hgrow hnew)
        clear hown' hown0 hgrow hnew hh1 hh ho hc0 hc1 hf0 hf1 hro
        go_wp2
        go_end0
        rw [HR.out]
        exact ⟨rfl, HFIN.out⟩
      · have hl0 : ((D.length : Int) == 0) = false := beq_eq_false_iff_ne.2 (by omega)
        have HA := hid hA
        clear hA
        have HX0 := hid h0
        clear h0 h1
        go_enter Try.func45, Try.ntmps45
        go_wp2_with (first
          | (at_builtin; refine wpList_append_d _ rfl _ _ 52 rfl 5 i0 (.int .u8 0) 1 1 Try.underlying52 hi hz0 hz1 hz2 rfl (by decide) _ _ _ rfl (ownsRow_base (ho.alloc _)) ⟨w.heap.size, 0, none⟩ 1 1 [.int .u8 (c.toNat : Int)] rfl rfl ?c1 ?c2 ?c3 ?c4 ?_)
          | go_in)
        case c1 => exact cell_one_new _ _ _
        case c2 => intro u hu; simp at hu; subst hu; rfl
        case c3 => unfold maxLen; omega
        case c4 => omega
        intro v' w1 hown0 hgrow hnew
        have hown' := ownsRow_up hown0 ho hbw hnew
        obtain ⟨g', cap', rfl⟩ := row_succ hown'
        have hh1 : w1.heap[B]? = some (.cells cs T (0, 0)) := by
          rw [hgrow.block B (by simp; omega) (fun e => hro e.symm), Below.heap_alloc _ _ _ hBl]; exact hh
        have hf2 := blk_free (j := o) hh1
        have hcu := blk_cell hh1 HX0.out
        have HFIN := hid (FIN.out w1 _ hown' hgrow hnew)
        clear hown' hown0 hgrow hnew hh1 hh ho hc0 hc1 hf0 hf1 hro
        go_wp2
        go_end0
        rw [HR.out]
        exact ⟨rfl, HFIN.out⟩
    · have hl0 : ((D.length : Int) == 0) = false := beq_eq_false_iff_ne.2 (by omega)
      by_cases h768 : D.length = 768 ∧ ¬ c.toNat = 48
      · have hres : addD (D, P) (c.toNat - 48) = (D ++ [1], P) := by
          unfold addD
          rw [if_neg (by rintro ⟨h1, h2⟩; simp only at h1; rw [h1] at hlt7; simp at hlt7), if_neg hlt7, if_pos ⟨h768.1, by omega⟩]
        have HR := hid hres
        have hq : ((D.length : Int) == 768) = true := beq_iff_eq.2 (by omega)
        have hdg : ((c.toNat : Int) != 48) = true := by rw [bne_iff_ne]; omega
        have HE1 := hid h1
        have HX0 := hid h0
        have fin : ∀ w1 : World, ∀ v', w1.ownsRow base 5 1 v' (D.length + 1) (bs D ++ [.int .u8 49]) → (w.alloc (.cells #[.int .u8 49] 5)).grownBy w1 (Value.ownBlock (.slice a D.length cap)) → (∀ g', v'.ownBlock = some g' → (Value.slice a D.length cap).ownBlock = some g' ∨ w.heap.size + 1 ≤ g') →
            AddPost base B o T cs w (w1.setCell ⟨B, o, none⟩ v') (.slice a D.length cap) (D ++ [1], P) := by
          intro w1 v' hown' hgrow hnew
          have hh1 : w1.heap[B]? = some (.cells cs T (0, 0)) := by
            rw [hgrow.block B (by simp; omega) (fun e => hro e.symm), Below.heap_alloc _ _ _ hBl]; exact hh
          have hro1 := row_other hown' hh1 hT
          refine ⟨v', ?_, row_snoc (ownsRow_setCell_other hown' (a := ⟨B, o, none⟩) hro1 _) (by omega), (((Fr.refl _ w).alloc _).grown hgrow (fun k hk => .inl (.inr hk))).setCell (.inl (.inl rfl)) _, fun g hg => (hnew g hg).imp id (fun h => by omega)⟩
          rw [set_same (j := o + 1) (by rw [set_get_ne (by omega)]; exact HE1.out)]
          exact heap_setCell_same w1 B o cs T v' hh1
        have FIN := hid fin
        have H7 := hid h768
        have HA := hid hA
        clear hres hA h768 fin h0 h1
        go_enter Try.func45, Try.ntmps45
        go_wp2_with (first
          | (at_builtin; refine wpList_append_d _ rfl _ _ 52 rfl 5 i0 (.int .u8 0) 1 1 Try.underlying52 hi hz0 hz1 hz2 rfl (by decide) _ _ _ rfl (ownsRow_base (ho.alloc _)) ⟨w.heap.size, 0, none⟩ 1 1 [.int .u8 49] rfl rfl ?c1 ?c2 ?c3 ?c4 ?_)
          | go_in)
        case c1 => exact cell_one_new _ _ _
        case c2 => intro u hu; simp at hu; subst hu; rfl
        case c3 => unfold maxLen; omega
        case c4 => omega
        intro v' w1 hown0 hgrow hnew
        have hown' := ownsRow_up hown0 ho hbw hnew
        obtain ⟨g', cap', rfl⟩ := row_succ hown'
        have hh1 : w1.heap[B]? = some (.cells cs T (0, 0)) := by
          rw [hgrow.block B (by simp; omega) (fun e => hro e.symm), Below.heap_alloc _ _ _ hBl]; exact hh
        have hf2 := blk_free (j := o) hh1
        have hcu := blk_cell hh1 HX0.out
        have HFIN := hid (FIN.out w1 _ hown' hgrow hnew)
        clear hown' hown0 hgrow hnew hh1 hh ho hc0 hc1 hf0 hf1 hro
        go_wp2
        go_end0
        rw [HR.out]
        exact ⟨rfl, HFIN.out⟩
      · have hres : addD (D, P) (c.toNat - 48) = (D, P) := by
          unfold addD
          rw [if_neg (by rintro ⟨h1, h2⟩; simp only at h1; rw [h1] at hlt7; simp at hlt7), if_neg hlt7, if_neg (by rintro ⟨h1, h2⟩; exact h768 ⟨h1, by omega⟩)]
        have HR := hid hres
        have HE := hid (show (cs.setIfInBounds o (.slice a D.length cap)).setIfInBounds (o + 1) (.int .i64 P) = cs by rw [set_same h0, set_same h1])
        have HO := hid ho
        have HH := hid hh
        have HA := hid hA
        clear hres hA ho hh h0 h1
        by_cases hq0 : D.length = 768
        · have hq : ((D.length : Int) == 768) = true := beq_iff_eq.2 (by omega)
          have hdg : ((c.toNat : Int) != 48) = false := by rw [bne_eq_false_iff_eq]; omega
          have H7 := hid h768
          have HQ := hid hq0
          clear h768 hq0
          go_enter Try.func45, Try.ntmps45
          go_wp2
          go_end0
          rw [HR.out]
          exact ⟨rfl, _, by rw [HE.out]; exact HH.out, HO.out, Fr.refl _ w, fun _ h => .inl h⟩
        · have hq : ((D.length : Int) == 768) = false := beq_eq_false_iff_ne.2 (by omega)
          have H7 := hid h768
          clear h768
          go_enter Try.func45, Try.ntmps45
          go_wp2
          go_end0
          rw [HR.out]
          exact ⟨rfl, _, by rw [HE.out]; exact HH.out, HO.out, Fr.refl _ w, fun _ h => .inl h⟩
end Go.Proofs.Ytmkkibaacclhnaa
