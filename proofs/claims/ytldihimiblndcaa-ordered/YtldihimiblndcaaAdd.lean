/-
  A step of the walk of the numbers, the part named Add. No theorem of the row.
-/
import Derived.Test.YtldihimiblndcaaDec
namespace Go.Proofs.Ytldihimiblndcaa
open Go.RowKit

/-- one more digit behind a decimal -/
def addD (x : List Nat × Int) (d : Nat) : List Nat × Int :=
  if x.1 = [] ∧ d = 0 then (x.1, x.2 - 1) else if x.1.length < 768 then (x.1 ++ [d], x.2) else if x.1.length = 768 ∧ d ≠ 0 then (x.1 ++ [1], x.2) else x
def addDs (x : List Nat × Int) (ds : List Nat) : List Nat × Int := ds.foldl addD x
theorem addDs_snoc (x : List Nat × Int) (ds : List Nat) (d : Nat) : addDs x (ds ++ [d]) = addD (addDs x ds) d := by simp [addDs]
theorem addDs_append (x : List Nat × Int) (a b : List Nat) : addDs x (a ++ b) = addDs (addDs x a) b := by simp [addDs]

/-- the digits that bytes are -/
def dig (s : ByteArray) : List Nat := s.data.toList.map (fun c => c.toNat - 48)
theorem dig_length (s : ByteArray) : (dig s).length = s.size := by simp [dig]
def AllDig (s : ByteArray) : Prop := ∀ c ∈ s.data.toList, 48 ≤ c.toNat ∧ c.toNat ≤ 57
theorem dig_take (s : ByteArray) (k : Nat) (h : k < s.size) : (dig s).take (k + 1) = (dig s).take k ++ [s[k].toNat - 48] := by
  rw [List.take_succ_eq_append_getElem (by rw [dig_length]; exact h)]
  simp only [dig, List.getElem_map]
  rfl
theorem AllDig.at {s : ByteArray} (h : AllDig s) (k : Nat) (hk : k < s.size) : 48 ≤ s[k].toNat ∧ s[k].toNat ≤ 57 := h _ (by
  have : s[k] = s.data.toList[k]'(by simpa using hk) := rfl
  rw [this]; exact List.getElem_mem _)
theorem AllDig.digs {s : ByteArray} (h : AllDig s) : Digs (dig s) := by
  intro d hd
  simp only [dig, List.mem_map] at hd
  obtain ⟨c, hc, rfl⟩ := hd
  have := h c hc
  omega

/-- a decimal in memory, its room from base on -/
def DecAt (base : Nat) (w : World) (B : Nat) (x : List Nat × Int) : Prop :=
  base ≤ B ∧ ∃ dv, w.heap[B]? = some (.cells #[dv, .int .i64 x.2] 45 (0, 0)) ∧ w.ownsRow base 5 1 dv x.1.length (bs x.1)

theorem Try.info5 : (Try.prog.info? 5).map (fun i => (i.zero, i.size, i.bytes)) = some (some (.int .u8 0), 1, 1) := by kernel_rfl

theorem two_set1 {w : World} {B : Nat} {a b u : Value} {t : TypeId} (h : w.heap[B]? = some (.cells #[a, b] t (0, 0))) : (w.setCell ⟨B, 1, none⟩ u).heap[B]? = some (.cells #[a, u] t (0, 0)) := by
  have := heap_setCell_same w B 1 #[a, b] t u h
  simpa using this
theorem two_set0 {w : World} {B : Nat} {a b u : Value} {t : TypeId} (h : w.heap[B]? = some (.cells #[a, b] t (0, 0))) : (w.setCell ⟨B, 0, none⟩ u).heap[B]? = some (.cells #[u, b] t (0, 0)) := by
  have := heap_setCell_same w B 0 #[a, b] t u h
  simpa using this
theorem two_cell0 {w : World} {B : Nat} {a b : Value} {t : TypeId} (h : w.heap[B]? = some (.cells #[a, b] t (0, 0))) : w.cell? ⟨B, 0, none⟩ = some a := by simp [World.cell?, h]
theorem two_cell1 {w : World} {B : Nat} {a b : Value} {t : TypeId} (h : w.heap[B]? = some (.cells #[a, b] t (0, 0))) : w.cell? ⟨B, 1, none⟩ = some b := by simp [World.cell?, h]
theorem two_free {w : World} {B j : Nat} {a b : Value} {t : TypeId} (h : w.heap[B]? = some (.cells #[a, b] t (0, 0))) : w.frozen? ⟨B, j, none⟩ = false := by simp [World.frozen?, h]

/-- a row of bytes is not where the decimal is -/
theorem row_other {w : World} {base : Nat} {dv : Value} {n : Nat} {xs : List Value} {B : Nat} {a : Array Value} (h : w.ownsRow base 5 1 dv n xs) (hB : w.heap[B]? = some (.cells a 45 (0, 0))) : dv.ownBlock ≠ some B := by
  intro e
  rcases h.2 with ⟨rfl, _⟩ | ⟨g, cap, cur, rfl, _, hg, _⟩
  · simp [Value.ownBlock] at e
  · simp [Value.ownBlock] at e
    subst e
    rw [hg] at hB
    simp at hB

theorem row_shape {w : World} {base : Nat} {dv : Value} {n : Nat} {xs : List Value} (h : w.ownsRow base 5 1 dv n xs) : ∃ a cap, dv = .slice a n cap := by
  rcases h.2 with ⟨rfl, rfl⟩ | ⟨g, cap, cur, rfl, _⟩
  · exact ⟨none, 0, rfl⟩
  · exact ⟨_, cap, rfl⟩

theorem addD_len (x : List Nat × Int) (d : Nat) (h : x.1.length ≤ 769) : (addD x d).1.length ≤ 769 := by
  unfold addD; split
  · exact h
  · split
    · simp; omega
    · split
      · simp; omega
      · exact h
theorem addDs_len (x : List Nat × Int) (ds : List Nat) (h : x.1.length ≤ 769) : (addDs x ds).1.length ≤ 769 := by
  refine snoc_ind (P := fun ds => (addDs x ds).1.length ≤ 769) h ?_ ds
  intro a d ih; rw [addDs_snoc]; exact addD_len _ _ ih
theorem addD_P (x : List Nat × Int) (d : Nat) : x.2 - 1 ≤ (addD x d).2 ∧ (addD x d).2 ≤ x.2 := by
  unfold addD; split
  · simp only; omega
  · split
    · simp only; omega
    · split
      · simp only; omega
      · omega
theorem addDs_P (x : List Nat × Int) (ds : List Nat) : x.2 - ds.length ≤ (addDs x ds).2 ∧ (addDs x ds).2 ≤ x.2 := by
  refine snoc_ind (P := fun ds => x.2 - ds.length ≤ (addDs x ds).2 ∧ (addDs x ds).2 ≤ x.2) (by simp [addDs]) ?_ ds
  intro a d ih; rw [addDs_snoc]; have := addD_P (addDs x a) d; simp only [List.length_append, List.length_singleton]; omega

theorem row_snoc {w : World} {base : Nat} {v : Value} {D : List Nat} {z : Int} {d : Nat} (h : w.ownsRow base 5 1 v (D.length + 1) (bs D ++ [.int .u8 z])) (hz : z = (d : Int)) : w.ownsRow base 5 1 v (D ++ [d]).length (bs (D ++ [d])) := by
  subst hz
  have e : bs (D ++ [d]) = bs D ++ [.int .u8 (d : Int)] := by simp [bs]
  rw [e, List.length_append]
  exact h

set_option maxRecDepth 100000 in
set_option maxHeartbeats 4000000 in
theorem add_any (base B : Nat) (x : List Nat × Int) (s : ByteArray) (w : World) (hs : s.size ≤ 140737488355328) (hd : AllDig s) (hx : DecAt base w B x) (hlen : x.1.length ≤ 769) (hP1 : -4000000000000000 ≤ x.2) (hP2 : x.2 ≤ 4000000000000000) :
    Calls Try.prog 38 #[.pointer (some ⟨B, 0, none⟩), .string s] w fun e w' => e = .returned (.tuple #[]) ∧ DecAt base w' B (addDs x (dig s)) ∧ Below base w w' := by
  have hB := hx.1
  go_enter Try.func38, Try.ntmps38
  go_wp2
  go_loopw [8] (fun i wr => ∃ k : Nat, k ≤ s.size ∧ i = .int .i64 k ∧ DecAt base wr B (addDs x ((dig s).take k)) ∧ Below base w wr) (fun i _ => s.size - (intOf i).toNat)
  case atStart => exact ⟨0, by omega, rfl, by simpa [addDs] using hx, Below.refl _ _⟩
  case round =>
    obtain ⟨k, hk, rfl, hx1, hBe⟩ := hrel
    have hy1 := addDs_len x ((dig s).take k) hlen
    have hy2 := addDs_P x ((dig s).take k)
    rw [List.length_take_of_le (by rw [dig_length]; exact hk)] at hy2
    by_cases hlt : k < s.size
    · have hc := hd.at k hlt
      have htk : Hid (addDs x ((dig s).take (k + 1)) = addD (addDs x ((dig s).take k)) (s[k].toNat - 48)) := by rw [Hid, dig_take s k hlt, addDs_snoc]
      generalize addDs x ((dig s).take k) = y at *
      obtain ⟨D, P⟩ := y
      simp only at hy1 hy2
      obtain ⟨_, dv, hh, ho⟩ := hx1
      simp only at hh ho
      obtain ⟨a, cap, rfl⟩ := row_shape ho
      have hc0 := two_cell0 hh
      have hc1 := two_cell1 hh
      have hf0 := two_free (j := 0) hh
      have hf1 := two_free (j := 1) hh
      have hro := row_other ho hh
      obtain ⟨i0, hi, hz0, hz1, hz2⟩ := info_parts Try.info5
      by_cases hA : D.length = 0 ∧ s[k].toNat = 48
      · have hDn : D = [] := List.eq_nil_of_length_eq_zero hA.1
        subst hDn
        have hdg : ((s[k].toNat : Int) - 48 == 0) = true := by simp; omega
        have hres : addD ([], P) (s[k].toNat - 48) = ([], P - 1) := by simp [addD, hA.2]
        have HR := hid hres
        have HS1 := hid (two_set1 (u := .int .i64 (P - 1)) hh)
        have HO := hid ho
        have hl0 : (([] : List Nat).length) = 0 := rfl
        clear hA hres ho
        simp only [List.length_nil] at *
        go_wp2
        go_roundw
        case rel =>
          refine ⟨k + 1, by omega, by go_num, ?_, hBe.setCell (p := ⟨B, 1, none⟩) hB _⟩
          rw [htk.out, HR.out]
          exact ⟨hB, _, HS1.out, ownsRow_setCell_other HO.out (a := ⟨B, 1, none⟩) hro _⟩
        case measure => simp [intOf]; omega
      · by_cases hlt7 : D.length < 768
        · have hres : addD (D, P) (s[k].toNat - 48) = (D ++ [s[k].toNat - 48], P) := by
            unfold addD
            rw [if_neg (by rintro ⟨h1, h2⟩; simp only at h1; apply hA; rw [h1]; exact ⟨rfl, by omega⟩), if_pos hlt7]
          have HR := hid hres
          clear hres
          by_cases hD0 : D.length = 0
          · have hl0 : ((D.length : Int) == 0) = true := beq_iff_eq.2 (by omega)
            have hdg : ((s[k].toNat : Int) - 48 == 0) = false := by simp; omega
            have HA := hid hA
            have HD0 := hid hD0
            clear hA hD0
            go_wp2_with (first
              | (at_builtin; refine wpList_append_own _ rfl _ _ 43 rfl base 5 i0 (.int .u8 0) 1 1 Try.underlying43 hi hz0 hz1 hz2 rfl (by decide) _ _ _ rfl (ho.alloc _) ⟨wr.heap.size, 0, none⟩ 1 1 [.int .u8 ((s[k].toNat : Int) - 48)] rfl rfl ?c1 ?c2 ?c3 ?c4 ?c5 ?_)
              | go_in)
            case c1 => exact cell_one_new _ _ _
            case c2 => intro u hu; simp at hu; subst hu; rfl
            case c3 => unfold maxLen; omega
            case c4 => omega
            case c5 => have := hBe.size; have := lt_of_block hh; simp; omega
            intro v' w1 hown' hgrow _
            obtain ⟨g', cap', rfl⟩ := row_succ hown'
            have hh1 : w1.heap[B]? = some (.cells #[.slice a D.length cap, .int .i64 P] 45 (0, 0)) := by
              rw [hgrow.block B (by have := lt_of_block hh; simp; omega) (fun e => hro e.symm), Below.heap_alloc _ _ _ (lt_of_block hh)]; exact hh
            have hB1 : Below base w w1 := (hBe.alloc (by have := lt_of_block hh; omega) _).grown hgrow (by have := lt_of_block hh; simp; omega) (fun j hj => (ho.lt j hj).1)
            have hc2 := two_cell0 hh1
            have hf2 := two_free (j := 0) hh1
            have hro1 := row_other hown' hh1
            have HS1 := hid (two_set0 (u := .slice (some ⟨g', 0, none⟩) (D.length + 1) cap') hh1)
            have HB1 := hid hB1
            have HO1 := hid (ownsRow_setCell_other hown' (a := ⟨B, 0, none⟩) hro1 (.slice (some ⟨g', 0, none⟩) (D.length + 1) cap'))
            clear hown' hgrow hB1 hro1 hh1 hh ho hc0 hc1 hf0 hf1 hro hBe
            go_wp2
            go_roundw
            case rel =>
              refine ⟨k + 1, by omega, by go_num, ?_, HB1.out.setCell (p := ⟨B, 0, none⟩) hB _⟩
              rw [htk.out, HR.out]
              exact ⟨hB, _, HS1.out, row_snoc HO1.out (by omega)⟩
            case measure => simp [intOf]; omega
          · have hl0 : ((D.length : Int) == 0) = false := beq_eq_false_iff_ne.2 (by omega)
            have HA := hid hA
            clear hA
            go_wp2_with (first
              | (at_builtin; refine wpList_append_own _ rfl _ _ 43 rfl base 5 i0 (.int .u8 0) 1 1 Try.underlying43 hi hz0 hz1 hz2 rfl (by decide) _ _ _ rfl (ho.alloc _) ⟨wr.heap.size, 0, none⟩ 1 1 [.int .u8 ((s[k].toNat : Int) - 48)] rfl rfl ?c1 ?c2 ?c3 ?c4 ?c5 ?_)
              | go_in)
            case c1 => exact cell_one_new _ _ _
            case c2 => intro u hu; simp at hu; subst hu; rfl
            case c3 => unfold maxLen; omega
            case c4 => omega
            case c5 => have := hBe.size; have := lt_of_block hh; simp; omega
            intro v' w1 hown' hgrow _
            obtain ⟨g', cap', rfl⟩ := row_succ hown'
            have hh1 : w1.heap[B]? = some (.cells #[.slice a D.length cap, .int .i64 P] 45 (0, 0)) := by
              rw [hgrow.block B (by have := lt_of_block hh; simp; omega) (fun e => hro e.symm), Below.heap_alloc _ _ _ (lt_of_block hh)]; exact hh
            have hB1 : Below base w w1 := (hBe.alloc (by have := lt_of_block hh; omega) _).grown hgrow (by have := lt_of_block hh; simp; omega) (fun j hj => (ho.lt j hj).1)
            have hc2 := two_cell0 hh1
            have hf2 := two_free (j := 0) hh1
            have hro1 := row_other hown' hh1
            have HS1 := hid (two_set0 (u := .slice (some ⟨g', 0, none⟩) (D.length + 1) cap') hh1)
            have HB1 := hid hB1
            have HO1 := hid (ownsRow_setCell_other hown' (a := ⟨B, 0, none⟩) hro1 (.slice (some ⟨g', 0, none⟩) (D.length + 1) cap'))
            clear hown' hgrow hB1 hro1 hh1 hh ho hc0 hc1 hf0 hf1 hro hBe
            go_wp2
            go_roundw
            case rel =>
              refine ⟨k + 1, by omega, by go_num, ?_, HB1.out.setCell (p := ⟨B, 0, none⟩) hB _⟩
              rw [htk.out, HR.out]
              exact ⟨hB, _, HS1.out, row_snoc HO1.out (by omega)⟩
            case measure => simp [intOf]; omega
        · have hl0 : ((D.length : Int) == 0) = false := beq_eq_false_iff_ne.2 (by omega)
          by_cases h768 : D.length = 768 ∧ ¬ s[k].toNat = 48
          · have hres : addD (D, P) (s[k].toNat - 48) = (D ++ [1], P) := by
              unfold addD
              rw [if_neg (by rintro ⟨h1, h2⟩; simp only at h1; rw [h1] at hlt7; simp at hlt7), if_neg hlt7, if_pos ⟨h768.1, by omega⟩]
            have HR := hid hres
            have hq : ((D.length : Int) == 768) = true := beq_iff_eq.2 (by omega)
            have hdg : ((s[k].toNat : Int) - 48 != 0) = true := by rw [bne_iff_ne]; omega
            have H7 := hid h768
            have HA := hid hA
            clear hres hA h768
            go_wp2_with (first
              | (at_builtin; refine wpList_append_own _ rfl _ _ 43 rfl base 5 i0 (.int .u8 0) 1 1 Try.underlying43 hi hz0 hz1 hz2 rfl (by decide) _ _ _ rfl (ho.alloc _) ⟨wr.heap.size, 0, none⟩ 1 1 [.int .u8 1] rfl rfl ?c1 ?c2 ?c3 ?c4 ?c5 ?_)
              | go_in)
            case c1 => exact cell_one_new _ _ _
            case c2 => intro u hu; simp at hu; subst hu; rfl
            case c3 => unfold maxLen; omega
            case c4 => omega
            case c5 => have := hBe.size; have := lt_of_block hh; simp; omega
            intro v' w1 hown' hgrow _
            obtain ⟨g', cap', rfl⟩ := row_succ hown'
            have hh1 : w1.heap[B]? = some (.cells #[.slice a D.length cap, .int .i64 P] 45 (0, 0)) := by
              rw [hgrow.block B (by have := lt_of_block hh; simp; omega) (fun e => hro e.symm), Below.heap_alloc _ _ _ (lt_of_block hh)]; exact hh
            have hB1 : Below base w w1 := (hBe.alloc (by have := lt_of_block hh; omega) _).grown hgrow (by have := lt_of_block hh; simp; omega) (fun j hj => (ho.lt j hj).1)
            have hc2 := two_cell0 hh1
            have hf2 := two_free (j := 0) hh1
            have hro1 := row_other hown' hh1
            have HS1 := hid (two_set0 (u := .slice (some ⟨g', 0, none⟩) (D.length + 1) cap') hh1)
            have HB1 := hid hB1
            have HO1 := hid (ownsRow_setCell_other hown' (a := ⟨B, 0, none⟩) hro1 (.slice (some ⟨g', 0, none⟩) (D.length + 1) cap'))
            clear hown' hgrow hB1 hro1 hh1 hh ho hc0 hc1 hf0 hf1 hro hBe
            go_wp2
            go_roundw
            case rel =>
              refine ⟨k + 1, by omega, by go_num, ?_, HB1.out.setCell (p := ⟨B, 0, none⟩) hB _⟩
              rw [htk.out, HR.out]
              exact ⟨hB, _, HS1.out, row_snoc HO1.out (by omega)⟩
            case measure => simp [intOf]; omega
          · have hres : addD (D, P) (s[k].toNat - 48) = (D, P) := by
              unfold addD
              rw [if_neg (by rintro ⟨h1, h2⟩; simp only at h1; rw [h1] at hlt7; simp at hlt7), if_neg hlt7, if_neg (by rintro ⟨h1, h2⟩; exact h768 ⟨h1, by omega⟩)]
            have HR := hid hres
            have HO := hid ho
            have HH := hid hh
            have HA := hid hA
            clear hres hA ho hh
            by_cases hq0 : D.length = 768
            · have hq : ((D.length : Int) == 768) = true := beq_iff_eq.2 (by omega)
              have hdg : ((s[k].toNat : Int) - 48 != 0) = false := by rw [bne_eq_false_iff_eq]; omega
              have H7 := hid h768
              have HQ := hid hq0
              clear h768 hq0
              go_wp2
              go_roundw
              case rel => exact ⟨k + 1, by omega, by go_num, by rw [htk.out, HR.out]; exact ⟨hB, _, HH.out, HO.out⟩, hBe⟩
              case measure => simp [intOf]; omega
            · have hq : ((D.length : Int) == 768) = false := beq_eq_false_iff_ne.2 (by omega)
              have H7 := hid h768
              clear h768
              go_wp2
              go_roundw
              case rel => exact ⟨k + 1, by omega, by go_num, by rw [htk.out, HR.out]; exact ⟨hB, _, HH.out, HO.out⟩, hBe⟩
              case measure => simp [intOf]; omega
    · obtain rfl : k = s.size := by omega
      rw [List.take_of_length_le (by rw [dig_length]; omega)] at hx1
      have HX := hid hx1
      clear hx1
      go_wp2
      go_end0
      exact ⟨rfl, HX.out, hBe⟩
end Go.Proofs.Ytldihimiblndcaa
