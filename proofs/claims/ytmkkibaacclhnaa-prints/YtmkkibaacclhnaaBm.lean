/-
  A step of the walk of the numbers, the part named Bm: noughts at either end left out, by the document's answer. No theorem of the row.
-/
import Derived.Test.YtmkkibaacclhnaaXab
namespace Go.Proofs.Ytmkkibaacclhnaa
open Go.RowKit

theorem three_cell0 {w : World} {B : Nat} {a b c : Value} {t : TypeId} (h : w.heap[B]? = some (.cells #[a, b, c] t (0, 0))) : w.cell? ⟨B, 0, none⟩ = some a := by simp [World.cell?, h]
theorem three_cell1 {w : World} {B : Nat} {a b c : Value} {t : TypeId} (h : w.heap[B]? = some (.cells #[a, b, c] t (0, 0))) : w.cell? ⟨B, 1, none⟩ = some b := by simp [World.cell?, h]
theorem three_cell2 {w : World} {B : Nat} {a b c : Value} {t : TypeId} (h : w.heap[B]? = some (.cells #[a, b, c] t (0, 0))) : w.cell? ⟨B, 2, none⟩ = some c := by simp [World.cell?, h]
theorem three_free {w : World} {B j : Nat} {a b c : Value} {t : TypeId} (h : w.heap[B]? = some (.cells #[a, b, c] t (0, 0))) : w.frozen? ⟨B, j, none⟩ = false := by simp [World.frozen?, h]
theorem three_set0 {w : World} {B : Nat} {a b c u : Value} {t : TypeId} (h : w.heap[B]? = some (.cells #[a, b, c] t (0, 0))) : (w.setCell ⟨B, 0, none⟩ u).heap[B]? = some (.cells #[u, b, c] t (0, 0)) := by
  have := heap_setCell_same w B 0 #[a, b, c] t u h
  simpa using this
theorem three_set1 {w : World} {B : Nat} {a b c u : Value} {t : TypeId} (h : w.heap[B]? = some (.cells #[a, b, c] t (0, 0))) : (w.setCell ⟨B, 1, none⟩ u).heap[B]? = some (.cells #[a, u, c] t (0, 0)) := by
  have := heap_setCell_same w B 1 #[a, b, c] t u h
  simpa using this
theorem three_set2 {w : World} {B : Nat} {a b c u : Value} {t : TypeId} (h : w.heap[B]? = some (.cells #[a, b, c] t (0, 0))) : (w.setCell ⟨B, 2, none⟩ u).heap[B]? = some (.cells #[a, b, u] t (0, 0)) := by
  have := heap_setCell_same w B 2 #[a, b, c] t u h
  simpa using this

/-- without the noughts ahead -/
def drop0 (l : List UInt8) : List UInt8 := l.dropWhile (fun c => decide (c = 48))
theorem drop0_len (l : List UInt8) : (drop0 l).length ≤ l.length := (List.dropWhile_sublist _).length_le
theorem strip_len (l : List UInt8) : (strip l).length ≤ l.length := by
  unfold strip
  rw [List.length_reverse]
  have := (List.dropWhile_sublist (l := l.reverse) (fun c => decide (c = 48))).length_le
  simpa using this

/-- how long the text in a cell is -/
def cellLen (w : World) (a : Addr) : Nat := match w.cell? a with | some (.string s) => s.size | _ => 0
theorem cellLen_eq {w : World} {a : Addr} {m : List UInt8} (h : w.cell? a = some (.string (ofL m))) : cellLen w a = m.length := by unfold cellLen; rw [h]; exact ofL_size m

def LeanInv (w : World) (mi : Bool) (m : List UInt8) (Y : Int) (wr : World) : Prop :=
  wr.heap[w.heap.size]? = some (.cells #[.bool mi, .string (ofL m), .int .i64 Y] 60 (0, 0)) ∧ wr.heap[w.heap.size + 1]? = some (.cells #[.bool false, .string ⟨#[]⟩, .int .i64 0] 60 (0, 0)) ∧ Fr (fun _ => False) w wr

set_option maxRecDepth 100000 in
set_option maxHeartbeats 4000000 in
theorem lean_any (mi : Bool) (l : List UInt8) (X : Int) (w : World) (hl : l.length ≤ 4000000) (h1 : -2000000000000 ≤ X) (h2 : X ≤ 2000000000000) :
    Calls Try.prog 51 #[.agg #[.bool mi, .string (ofL l), .int .i64 X]] w fun e w' => e = .returned (.agg #[.bool mi, .string (ofL (strip (drop0 l))), .int .i64 (X + ((drop0 l).length : Int) - ((strip (drop0 l)).length : Int))]) ∧ Fr (fun _ => False) w w' := by
  have hd0 := drop0_len l
  go_enter Try.func51, Try.ntmps51
  go_wp2
  have hst := hid (show LeanInv w mi l X ((w.alloc (.cells #[.bool mi, .string (ofL l), .int .i64 X] 60)).alloc (.cells #[.bool false, .string ⟨#[]⟩, .int .i64 0] 60)) from
    ⟨(Below.heap_alloc _ _ _ (by simp)).trans (heap_alloc_new w _), by have := heap_alloc_new (w.alloc (.cells #[.bool mi, .string (ofL l), .int .i64 X] 60)) (.cells #[.bool false, .string ⟨#[]⟩, .int .i64 0] 60); rwa [World.size_alloc] at this, ((Fr.refl _ w).alloc _).alloc _⟩)
  go_loopw [] (fun wr => ∃ m, Hid (LeanInv w mi m X wr) ∧ m.length ≤ l.length ∧ Hid (drop0 m = drop0 l)) (fun wr => cellLen wr ⟨w.heap.size, 1, none⟩)
  case atStart => exact ⟨l, hst, Nat.le_refl _, hid rfl⟩
  case round =>
    clear hst
    obtain ⟨m, hI, hm, hD⟩ := hrel
    obtain ⟨i1, i2, i3⟩ := hI.out
    have hc1 := three_cell1 i1
    have hf1 := three_free (j := 1) i1
    have I3 := hid i3
    have I2 := hid i2
    have I1 := hid i1
    have hz := ofL_size m
    clear i1 i2 i3 hI
    cases m with
    | nil =>
      have hne : (ofL []).toList.isEmpty = true := by rw [ofL_toList]; rfl
      have HD := hD
      go_wp2
      have HD : Hid ([] = drop0 l) := by rw [Hid, ← hD.out]; rfl
      clear hD hne
      go_loopw [] (fun wr => ∃ (p : List UInt8) (Y : Int), Hid (LeanInv w mi p Y wr) ∧ p.length ≤ l.length ∧ Hid (strip p = strip (drop0 l)) ∧ Y + (p.length : Int) = X + ((drop0 l).length : Int)) (fun wr => cellLen wr ⟨w.heap.size, 1, none⟩)
      case atStart => exact ⟨_, X, hid ⟨I1.out, I2.out, I3.out⟩, hm, hid (by rw [HD.out]), by rw [HD.out]⟩
      case round =>
        clear I1 I2 I3 hc1 hf1 hz HD hm
        obtain ⟨p, Y, hI, hp, hS, hY⟩ := hrel
        obtain ⟨i1, i2, i3⟩ := hI.out
        have hc1 := three_cell1 i1
        have hc2 := three_cell2 i1
        have hf1 := three_free (j := 1) i1
        have hf2 := three_free (j := 2) i1
        have I3 := hid i3
        have I2 := hid i2
        have I1 := hid i1
        clear hI
        have fin : strip p = p → ∀ wx, wx = wr → bodyPost Try.prog Try.f51 (fun e w' => e = .returned (.agg #[.bool mi, .string (ofL (strip (drop0 l))), .int .i64 (X + ((drop0 l).length : Int) - ((strip (drop0 l)).length : Int))]) ∧ Fr (fun _ => False) w w') Exit.ret
            { tmps := #[], defers := [] } wx → True := fun _ _ _ _ => trivial
        clear fin
        have hc0 := three_cell0 i1
        have d0 := three_cell0 i2
        have d1 := three_cell1 i2
        have d2 := three_cell2 i2
        have df0 := three_free (j := 0) i2
        have df1 := three_free (j := 1) i2
        have df2 := three_free (j := 2) i2
        clear i1 i2 i3
        rcases List.eq_nil_or_concat p with rfl | ⟨q, c, rfl⟩
        · have hne : (ofL []).toList.isEmpty = true := by rw [ofL_toList]; rfl
          have HR := hid (show strip (drop0 l) = [] by rw [← hS.out]; rfl)
          go_wp2
          have hfin := three_set2 (u := .int .i64 Y) (three_set1 (u := .string (ofL ([]))) (three_set0 (u := .bool mi) I2.out))
          have e0 := three_cell0 hfin
          have e1 := three_cell1 hfin
          have e2 := three_cell2 hfin
          refine bodyPost_ret (v := .agg #[.bool mi, .string (ofL ([])), .int .i64 Y]) (by simp [results, Try.results51, go_sem, e0, e1, e2]) rfl ?_
          refine ⟨?_, ((I3.out.setCell (.inr (by simp)) _).setCell (.inr (by simp)) _).setCell (.inr (by simp)) _⟩
          rw [HR.out]
          congr 4
          simp at *
          omega
        · rw [List.concat_eq_append] at hS hp hY hc1 I1
          have hz : (ofL (q ++ [c])).size = q.length + 1 := by rw [ofL_size]; simp
          have hne : (ofL (q ++ [c])).toList.isEmpty = false := by rw [ofL_toList]; simp
          have hg : (ofL (q ++ [c]))[q.length]'(by omega) = c := by rw [ofL_get]; simp
          have hx : (ofL (q ++ [c])).extract 0 q.length = ofL q := by rw [ofL_extract]; simp
          have hql : q.length ≤ 4000000 := by simp at hp; omega
          have hql2 : q.length + 1 ≤ l.length := by simpa using hp
          have hY2 : Y + ((q.length : Int) + 1) = X + ((drop0 l).length : Int) := by simpa using hY
          by_cases hc : c = 48
          · subst hc
            have HS := hid (show strip q = strip (drop0 l) from by rw [← hS.out, strip_zero])
            clear hS hp hY
            go_wp2
            go_roundw
            case rel =>
              refine ⟨q, Y + 1, hid ⟨three_set2 (three_set1 I1.out), (Below.heap_setCell _ _ _ _ (by simp)).trans ((Below.heap_setCell _ _ _ _ (by simp)).trans I2.out), (I3.out.setCell (.inr (Nat.le_refl _)) _).setCell (.inr (Nat.le_refl _)) _⟩, by omega, HS, by omega⟩
            case measure =>
              rw [cellLen_eq (three_cell1 (three_set2 (three_set1 I1.out))), cellLen_eq hc1]; simp
          · have hcn : ((c.toNat : Int) == 48) = false := beq_eq_false_iff_ne.2 (by have := toNat_ne hc; simp at this; omega)
            have HR := hid (show strip (drop0 l) = q ++ [c] from by rw [← hS.out, strip_no _ _ hc])
            clear hS
            go_wp2
            have hfin := three_set2 (u := .int .i64 Y) (three_set1 (u := .string (ofL (q ++ [c]))) (three_set0 (u := .bool mi) I2.out))
            have e0 := three_cell0 hfin
            have e1 := three_cell1 hfin
            have e2 := three_cell2 hfin
            refine bodyPost_ret (v := .agg #[.bool mi, .string (ofL (q ++ [c])), .int .i64 Y]) (by simp [results, Try.results51, go_sem, e0, e1, e2]) rfl ?_
            refine ⟨?_, ((I3.out.setCell (.inr (by simp)) _).setCell (.inr (by simp)) _).setCell (.inr (by simp)) _⟩
            rw [HR.out]
            congr 4
            simp at *
            omega

    | cons c r =>
      have hne : (ofL (c :: r)).toList.isEmpty = false := by rw [ofL_toList]; rfl
      have hg : (ofL (c :: r))[0]'(by rw [ofL_size]; simp) = c := by rw [ofL_get]; rfl
      have hx : (ofL (c :: r)).extract 1 (r.length + 1) = ofL r := by rw [ofL_extract]; simp
      have hz' : (ofL (c :: r)).size = r.length + 1 := by rw [hz]; simp
      have hrl : r.length + 1 ≤ l.length := by simpa using hm
      by_cases hc : c = 48
      · subst hc
        have HD := hid (show drop0 r = drop0 l from by rw [← hD.out]; rfl)
        clear hz hD hm
        go_wp2
        go_roundw
        case rel => exact ⟨r, hid ⟨three_set1 I1.out, (Below.heap_setCell _ _ _ _ (by simp)).trans I2.out, I3.out.setCell (.inr (Nat.le_refl _)) _⟩, by omega, HD⟩
        case measure => rw [cellLen_eq (three_cell1 (three_set1 I1.out)), cellLen_eq hc1]; simp
      · have hcn : ((c.toNat : Int) == 48) = false := beq_eq_false_iff_ne.2 (by have := toNat_ne hc; simp at this; omega)
        have HD := hid (show c :: r = drop0 l from by rw [← hD.out, drop0, List.dropWhile_cons, if_neg (by simpa using hc)])
        clear hD
        go_wp2
        clear hne hg hx hz' hrl hcn
        go_loopw [] (fun wr => ∃ (p : List UInt8) (Y : Int), Hid (LeanInv w mi p Y wr) ∧ p.length ≤ l.length ∧ Hid (strip p = strip (drop0 l)) ∧ Y + (p.length : Int) = X + ((drop0 l).length : Int)) (fun wr => cellLen wr ⟨w.heap.size, 1, none⟩)
        case atStart => exact ⟨_, X, hid ⟨I1.out, I2.out, I3.out⟩, hm, hid (by rw [HD.out]), by rw [HD.out]⟩
        case round =>
          clear I1 I2 I3 hc1 hf1 hz HD hm
          obtain ⟨p, Y, hI, hp, hS, hY⟩ := hrel
          obtain ⟨i1, i2, i3⟩ := hI.out
          have hc1 := three_cell1 i1
          have hc2 := three_cell2 i1
          have hf1 := three_free (j := 1) i1
          have hf2 := three_free (j := 2) i1
          have I3 := hid i3
          have I2 := hid i2
          have I1 := hid i1
          clear hI
          have fin : strip p = p → ∀ wx, wx = wr → bodyPost Try.prog Try.f51 (fun e w' => e = .returned (.agg #[.bool mi, .string (ofL (strip (drop0 l))), .int .i64 (X + ((drop0 l).length : Int) - ((strip (drop0 l)).length : Int))]) ∧ Fr (fun _ => False) w w') Exit.ret
              { tmps := #[], defers := [] } wx → True := fun _ _ _ _ => trivial
          clear fin
          have hc0 := three_cell0 i1
          have d0 := three_cell0 i2
          have d1 := three_cell1 i2
          have d2 := three_cell2 i2
          have df0 := three_free (j := 0) i2
          have df1 := three_free (j := 1) i2
          have df2 := three_free (j := 2) i2
          clear i1 i2 i3
          rcases List.eq_nil_or_concat p with rfl | ⟨q, c, rfl⟩
          · have hne : (ofL []).toList.isEmpty = true := by rw [ofL_toList]; rfl
            have HR := hid (show strip (drop0 l) = [] by rw [← hS.out]; rfl)
            go_wp2
            have hfin := three_set2 (u := .int .i64 Y) (three_set1 (u := .string (ofL ([]))) (three_set0 (u := .bool mi) I2.out))
            have e0 := three_cell0 hfin
            have e1 := three_cell1 hfin
            have e2 := three_cell2 hfin
            refine bodyPost_ret (v := .agg #[.bool mi, .string (ofL ([])), .int .i64 Y]) (by simp [results, Try.results51, go_sem, e0, e1, e2]) rfl ?_
            refine ⟨?_, ((I3.out.setCell (.inr (by simp)) _).setCell (.inr (by simp)) _).setCell (.inr (by simp)) _⟩
            rw [HR.out]
            congr 4
            simp at *
            omega
          · rw [List.concat_eq_append] at hS hp hY hc1 I1
            have hz : (ofL (q ++ [c])).size = q.length + 1 := by rw [ofL_size]; simp
            have hne : (ofL (q ++ [c])).toList.isEmpty = false := by rw [ofL_toList]; simp
            have hg : (ofL (q ++ [c]))[q.length]'(by omega) = c := by rw [ofL_get]; simp
            have hx : (ofL (q ++ [c])).extract 0 q.length = ofL q := by rw [ofL_extract]; simp
            have hql : q.length ≤ 4000000 := by simp at hp; omega
            have hql2 : q.length + 1 ≤ l.length := by simpa using hp
            have hY2 : Y + ((q.length : Int) + 1) = X + ((drop0 l).length : Int) := by simpa using hY
            by_cases hc : c = 48
            · subst hc
              have HS := hid (show strip q = strip (drop0 l) from by rw [← hS.out, strip_zero])
              clear hS hp hY
              go_wp2
              go_roundw
              case rel =>
                refine ⟨q, Y + 1, hid ⟨three_set2 (three_set1 I1.out), (Below.heap_setCell _ _ _ _ (by simp)).trans ((Below.heap_setCell _ _ _ _ (by simp)).trans I2.out), (I3.out.setCell (.inr (Nat.le_refl _)) _).setCell (.inr (Nat.le_refl _)) _⟩, by omega, HS, by omega⟩
              case measure =>
                rw [cellLen_eq (three_cell1 (three_set2 (three_set1 I1.out))), cellLen_eq hc1]; simp
            · have hcn : ((c.toNat : Int) == 48) = false := beq_eq_false_iff_ne.2 (by have := toNat_ne hc; simp at this; omega)
              have HR := hid (show strip (drop0 l) = q ++ [c] from by rw [← hS.out, strip_no _ _ hc])
              clear hS
              go_wp2
              have hfin := three_set2 (u := .int .i64 Y) (three_set1 (u := .string (ofL (q ++ [c]))) (three_set0 (u := .bool mi) I2.out))
              have e0 := three_cell0 hfin
              have e1 := three_cell1 hfin
              have e2 := three_cell2 hfin
              refine bodyPost_ret (v := .agg #[.bool mi, .string (ofL (q ++ [c])), .int .i64 Y]) (by simp [results, Try.results51, go_sem, e0, e1, e2]) rfl ?_
              refine ⟨?_, ((I3.out.setCell (.inr (by simp)) _).setCell (.inr (by simp)) _).setCell (.inr (by simp)) _⟩
              rw [HR.out]
              congr 4
              simp at *
              omega

end Go.Proofs.Ytmkkibaacclhnaa
