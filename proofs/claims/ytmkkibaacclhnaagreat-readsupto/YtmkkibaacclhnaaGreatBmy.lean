/-
  A step of the walk, the part named Bmy. No theorem of the row.
-/
import Derived.Test.YtmkkibaacclhnaaGreatXcd
import Derived.Test.YtmkkibaacclhnaaGreatBgk
import Derived.Deep.DeepCutAuto
import Derived.Deep.RegionHeld3
namespace Go.Proofs.YtmkkibaacclhnaaGreat
open Go.RowKit

set_option maxRecDepth 100000 in
set_option maxHeartbeats 2000000 in
theorem num_any (e : Int) (w : World) : Calls Tryz.prog 10 #[.int .i64 e] w fun r w' => r = .returned (.int .i64 e) ∧ w' = w := by
  go_enter Tryz.func10, Tryz.ntmps10
  go_wp2
  go_ret
  exact ⟨rfl, rfl⟩
theorem fagainst_int (v : Value) (A B L : Nat) (N : Int) (n : Nat) (e : Int) (w : World) (hN : N = (n : Int)) (hL : L ≤ 10000000) (hn : n < 18446744073709551616) (h1 : -5000 ≤ e) (h2 : e ≤ 5000) (hf : FracAt w v A B L) :
    Calls Tryz.prog 128 #[v, .int .u64 N, .int .i64 e] w fun r w' => r = .returned (.int .i64 (bcmp (A * 2 ^ (-e).toNat) (B * n * 2 ^ e.toNat))) ∧ Fr (fun _ => False) w w' := by
  subst hN
  exact fagainst_any v A B L n e w hL hn h1 h2 hf
end Go.Proofs.YtmkkibaacclhnaaGreat

namespace Go.Proofs.YtmkkibaacclhnaaGreat
open Go.RowKit

theorem man_less (m : Nat) (hm : m < 9218868437227405312) : (manE m).1 < 9007199254740992 ∧ (manE m).2 ≤ 2046 := by
  unfold manE
  split
  · simp only; omega
  · simp only; omega
/-- the four cells of two fractions -/
structure NearC (w0 w : World) (b1 b2 : Nat) (x0 x1 y0 y1 : Value) : Prop where
  fr : Fr (fun _ => False) w0 w
  c0 : w.cell? ⟨b1, 0, none⟩ = some x0
  c1 : w.cell? ⟨b1, 1, none⟩ = some x1
  d0 : w.cell? ⟨b2, 0, none⟩ = some y0
  d1 : w.cell? ⟨b2, 1, none⟩ = some y1
theorem NearC.next {w0 w w' : World} {b1 b2 : Nat} {x0 x1 y0 y1 : Value} (h : NearC w0 w b1 b2 x0 x1 y0 y1) (hF : Fr (fun _ => False) w w') : NearC w0 w' b1 b2 x0 x1 y0 y1 :=
  ⟨h.fr.trans hF, (hF.cell (p := ⟨b1, 0, none⟩) (lt_of_cell h.c0) id).trans h.c0, (hF.cell (p := ⟨b1, 1, none⟩) (lt_of_cell h.c1) id).trans h.c1, (hF.cell (p := ⟨b2, 0, none⟩) (lt_of_cell h.d0) id).trans h.d0, (hF.cell (p := ⟨b2, 1, none⟩) (lt_of_cell h.d1) id).trans h.d1⟩
end Go.Proofs.YtmkkibaacclhnaaGreat

namespace Go.Proofs.YtmkkibaacclhnaaGreat
open Go.RowKit

theorem bcmp_lt (a b : Nat) : bcmp a b < 0 ↔ a < b := by
  unfold bcmp
  split
  · rename_i h; simp [h]
  · rename_i h; split <;> simp [h]
theorem bcmp_eq (a b : Nat) : bcmp a b = 0 ↔ a = b := by
  unfold bcmp
  split
  · rename_i h; constructor
    · intro h2; omega
    · intro h2; omega
  · split
    · rename_i h2; simp [h2]
    · rename_i h2; simp [h2]
theorem bcmp_gt (a b : Nat) : 0 < bcmp a b ↔ b < a := by
  unfold bcmp
  split
  · rename_i h; constructor
    · intro h2; omega
    · intro h2; omega
  · split
    · rename_i h h2; constructor
      · intro h3; omega
      · intro h3; omega
    · constructor
      · intro _; omega
      · intro _; omega
theorem bcmp_scale (a b t : Nat) (ht : 0 < t) : bcmp (a * t) (b * t) = bcmp a b := by
  unfold bcmp
  have h1 : a * t < b * t ↔ a < b := Nat.mul_lt_mul_right ht
  have h2 : a * t = b * t ↔ a = b := Nat.mul_left_inj (by omega)
  simp only [h1, h2]
/-- powers of two, on whichever side -/
theorem bcmp_two (A C E s : Nat) (e : Int) (he : e = (E : Int) - (s : Int)) : bcmp (A * 2 ^ (-e).toNat) (C * 2 ^ e.toNat) = bcmp (A * p2 s) (C * p2 E) := by
  show bcmp (A * p2 (-e).toNat) (C * p2 e.toNat) = _
  rcases Nat.le_total E s with h | h
  · rw [show e.toNat = 0 by omega, show p2 0 = 1 from rfl, Nat.mul_one, ← bcmp_scale _ _ (p2 E) (p2_pos E), Nat.mul_assoc, ← p2_add, show (-e).toNat + E = s by omega]
  · rw [show (-e).toNat = 0 by omega, show p2 0 = 1 from rfl, Nat.mul_one, ← bcmp_scale _ _ (p2 s) (p2_pos s), Nat.mul_assoc, ← p2_add, show e.toNat + s = E by omega]
theorem p2_1075 : p2 1075 = 2 * p2 1074 := p2_succ 1074
end Go.Proofs.YtmkkibaacclhnaaGreat

namespace Go.Proofs.YtmkkibaacclhnaaGreat
open Go.RowKit

/-- a fraction against a number -/
theorem fag_V (v : Value) (A B L m n E : Nat) (N e : Int) (w : World) (hm : m < 9218868437227405312) (hn : (manE m).1 = n) (hE : (manE m).2 = E) (hN : N = (n : Int)) (he : e = (E : Int) - 1074) (hL : L ≤ 10000000) (hf : FracAt w v A B L) :
    Calls Tryz.prog 128 #[v, .int .u64 N, .int .i64 e] w fun r w' => r = .returned (.int .i64 (bcmp (A * p2 1074) (B * V m))) ∧ Fr (fun _ => False) w w' := by
  have hb := man_less m hm
  rw [hn, hE] at hb
  refine (fagainst_int v A B L N n e w hN hL (by omega) (by omega) (by omega) hf).mono ?_
  rintro r w' ⟨rfl, hF⟩
  refine ⟨?_, hF⟩
  rw [bcmp_two A (B * n) E 1074 e (by omega), manE_V m, hn, hE, Nat.mul_assoc]
/-- 10^X is not above the number -/
def TenLe (m : Nat) (X : Int) : Prop := p10 X.toNat * p2 1074 ≤ p10 (-X).toNat * V m
end Go.Proofs.YtmkkibaacclhnaaGreat

namespace Go.Proofs.YtmkkibaacclhnaaGreat
open Go.RowKit

/-- c times 10^X is not above the number -/
def CLe (m c : Nat) (X : Int) : Prop := c * p10 X.toNat * p2 1074 ≤ p10 (-X).toNat * V m
theorem CLe.shift (m c : Nat) (X : Int) : CLe m c (X + 1) ↔ CLe m (10 * c) X := by
  unfold CLe
  rcases Int.lt_or_le X 0 with h | h
  · rw [show (X + 1).toNat = 0 by omega, show X.toNat = 0 by omega, show (-X).toNat = (-(X + 1)).toNat + 1 by omega, p10_succ, show p10 0 = 1 from rfl, Nat.mul_one, Nat.mul_one]
    generalize p10 (-(X + 1)).toNat = p
    rw [Nat.mul_assoc 10 c, Nat.mul_comm p 10, Nat.mul_assoc 10 p]
    generalize c * p2 1074 = a
    generalize p * V m = b
    omega
  · rw [show (X + 1).toNat = X.toNat + 1 by omega, show (-(X + 1)).toNat = 0 by omega, show (-X).toNat = 0 by omega, p10_succ]
    rw [show c * (p10 X.toNat * 10) = 10 * c * p10 X.toNat from by rw [Nat.mul_comm 10 c, Nat.mul_assoc, Nat.mul_comm 10]]
theorem CLe.zero (m : Nat) (X : Int) : CLe m 0 X := by unfold CLe; rw [Nat.zero_mul, Nat.zero_mul]; exact Nat.zero_le _
theorem ten_CLe (m : Nat) (X : Int) : TenLe m X ↔ CLe m 1 X := by unfold TenLe CLe; rw [Nat.one_mul]
/-- the first digits, so far: their number c, c times 10^X is not above the number, c + 1 times is -/
def DInv (m : Nat) (l : List UInt8) (i : Nat) (X : Int) : Prop := AllD l ∧ l.length = i ∧ CLe m (num (dv l)) X ∧ ¬ CLe m (num (dv l) + 1) X
theorem DInv.start {m : Nat} {x : Int} (h : ¬ TenLe m (x + 1)) : DInv m [] 0 (x - ((0 : Nat) : Int) + 1) := by
  have e : x - ((0 : Nat) : Int) + 1 = x + 1 := by omega
  rw [e]
  exact ⟨allD_nil, rfl, CLe.zero m _, mt (ten_CLe m (x + 1)).2 h⟩
/-- the steps of the halving -/
def Step (s : Nat) : Prop := s = 0 ∨ s = 1 ∨ s = 2 ∨ s = 4 ∨ s = 8 ∨ s = 16 ∨ s = 32 ∨ s = 64 ∨ s = 128 ∨ s = 256 ∨ s = 512
/-- where the number lies, while it is sought -/
def FInvB (m : Nat) (x : Int) (s : Nat) : Prop := TenLe m x ∧ ¬ TenLe m (x + (if s = 0 then 1 else 2 * (s : Int)))
theorem FInvB.next {m : Nat} {x : Int} {s : Nat} (h : FInvB m x s) (hs : Step s) (h0 : s ≠ 0) : (TenLe m (x + s) → FInvB m (x + s) (s / 2)) ∧ (¬ TenLe m (x + s) → FInvB m x (s / 2)) := by
  obtain ⟨h1, h2⟩ := h
  rw [if_neg h0] at h2
  have key : (if s / 2 = 0 then (1 : Int) else 2 * ((s / 2 : Nat) : Int)) = s := by
    unfold Step at hs
    rcases hs with h | h | h | h | h | h | h | h | h | h | h <;> subst h <;> first | (exact absurd rfl h0) | rfl
  refine ⟨fun h => ⟨h, ?_⟩, fun h => ⟨h1, ?_⟩⟩
  · rw [key, show x + (s : Int) + s = x + 2 * s by omega]; exact h2
  · rw [key]; exact h
end Go.Proofs.YtmkkibaacclhnaaGreat

namespace Go.Proofs.YtmkkibaacclhnaaGreat
open Go.RowKit

theorem three_cell0 {w : World} {B : Nat} {a b c : Value} {t : TypeId} (h : w.heap[B]? = some (.cells #[a, b, c] t (0, 0))) : w.cell? ⟨B, 0, none⟩ = some a := by simp [World.cell?, h]
theorem three_cell1 {w : World} {B : Nat} {a b c : Value} {t : TypeId} (h : w.heap[B]? = some (.cells #[a, b, c] t (0, 0))) : w.cell? ⟨B, 1, none⟩ = some b := by simp [World.cell?, h]
theorem three_cell2 {w : World} {B : Nat} {a b c : Value} {t : TypeId} (h : w.heap[B]? = some (.cells #[a, b, c] t (0, 0))) : w.cell? ⟨B, 2, none⟩ = some c := by simp [World.cell?, h]
theorem three_free {w : World} {B j : Nat} {a b c : Value} {t : TypeId} (h : w.heap[B]? = some (.cells #[a, b, c] t (0, 0))) : w.frozen? ⟨B, j, none⟩ = false := by simp [World.frozen?, h]
theorem three_set0 {w : World} {B : Nat} {a b c u : Value} {t : TypeId} (h : w.heap[B]? = some (.cells #[a, b, c] t (0, 0))) : (w.setCell ⟨B, 0, none⟩ u).heap[B]? = some (.cells #[u, b, c] t (0, 0)) := by
  have := heap_setCell_same w B 0 #[a, b, c] t u h
  simpa using this
theorem three_set1 {w : World} {B : Nat} {a b c u : Value} {t : TypeId} (h : w.heap[B]? = some (.cells #[a, b, c] t (0, 0))) : (w.setCell ⟨B, 1, none⟩ u).heap[B]? = some (.cells #[a, u, c] t (0, 0)) := by
  have := heap_setCell_same w B 1 #[a, b, c] t u h
  simpa using this
theorem three_set2 {w : World} {B : Nat} {a b c u : Value} {t : TypeId} (h : w.heap[B]? = some (.cells #[a, b, c] t (0, 0))) : (w.setCell ⟨B, 2, none⟩ u).heap[B]? = some (.cells #[a, b, u] t (0, 0)) := by
  have := heap_setCell_same w B 2 #[a, b, c] t u h
  simpa using this
/-- without the noughts ahead -/
def drop0 (l : List UInt8) : List UInt8 := l.dropWhile (fun c => decide (c = 48))
theorem drop0_len (l : List UInt8) : (drop0 l).length ≤ l.length := (List.dropWhile_sublist _).length_le
theorem strip_len (l : List UInt8) : (strip l).length ≤ l.length := by
  unfold strip
  rw [List.length_reverse]
  have := (List.dropWhile_sublist (l := l.reverse) (fun c => decide (c = 48))).length_le
  simpa using this
/-- how long the text in a cell is -/
def cellLen (w : World) (a : Addr) : Nat := match w.cell? a with | some (.string s) => s.size | _ => 0
theorem cellLen_eq {w : World} {a : Addr} {m : List UInt8} (h : w.cell? a = some (.string (ofL m))) : cellLen w a = m.length := by unfold cellLen; rw [h]; exact ofL_size m
def LeanInv (w : World) (mi : Bool) (m : List UInt8) (Y : Int) (wr : World) : Prop :=
  wr.heap[w.heap.size]? = some (.cells #[.bool mi, .string (ofL m), .int .i64 Y] 160 (0, 0)) ∧ wr.heap[w.heap.size + 1]? = some (.cells #[.bool false, .string ⟨#[]⟩, .int .i64 0] 160 (0, 0)) ∧ Fr (fun _ => False) w wr
set_option maxRecDepth 100000 in
set_option maxHeartbeats 4000000 in
theorem lean_any (mi : Bool) (l : List UInt8) (X : Int) (w : World) (hl : l.length ≤ 4000000) (h1 : -2000000000000 ≤ X) (h2 : X ≤ 2000000000000) :
    Calls Tryz.prog 125 #[.agg #[.bool mi, .string (ofL l), .int .i64 X]] w fun e w' => e = .returned (.agg #[.bool mi, .string (ofL (strip (drop0 l))), .int .i64 (X + ((drop0 l).length : Int) - ((strip (drop0 l)).length : Int))]) ∧ Fr (fun _ => False) w w' := by
  have hd0 := drop0_len l
  go_enter Tryz.func125, Tryz.ntmps125
  go_wp2
  have hst := hid (show LeanInv w mi l X ((w.alloc (.cells #[.bool mi, .string (ofL l), .int .i64 X] 160)).alloc (.cells #[.bool false, .string ⟨#[]⟩, .int .i64 0] 160)) from
    ⟨(Below.heap_alloc _ _ _ (by simp)).trans (heap_alloc_new w _), by have := heap_alloc_new (w.alloc (.cells #[.bool mi, .string (ofL l), .int .i64 X] 160)) (.cells #[.bool false, .string ⟨#[]⟩, .int .i64 0] 160); rwa [World.size_alloc] at this, ((Fr.refl _ w).alloc _).alloc _⟩)
  go_loopw [] (fun wr => ∃ m, Hid (LeanInv w mi m X wr) ∧ m.length ≤ l.length ∧ Hid (drop0 m = drop0 l)) (fun wr => cellLen wr ⟨w.heap.size, 1, none⟩)
  case atStart => exact ⟨l, hst, Nat.le_refl _, hid rfl⟩
  case round =>
    clear hst
    obtain ⟨m, hI, hm, hD⟩ := hrel
    obtain ⟨i1, i2, i3⟩ := hI.out
    have hc1 := three_cell1 i1
    have hf1 := three_free (j := 1) i1
    have I3 := hid i3
    have I2 := hid i2
    have I1 := hid i1
    have hz := ofL_size m
    clear i1 i2 i3 hI
    cases m with
    | nil =>
      have hne : (ofL []).toList.isEmpty = true := by rw [ofL_toList]; rfl
      have HD := hD
      go_wp2
      have HD : Hid ([] = drop0 l) := by rw [Hid, ← hD.out]; rfl
      clear hD hne
      go_loopw [] (fun wr => ∃ (p : List UInt8) (Y : Int), Hid (LeanInv w mi p Y wr) ∧ p.length ≤ l.length ∧ Hid (strip p = strip (drop0 l)) ∧ Y + (p.length : Int) = X + ((drop0 l).length : Int)) (fun wr => cellLen wr ⟨w.heap.size, 1, none⟩)
      case atStart => exact ⟨_, X, hid ⟨I1.out, I2.out, I3.out⟩, hm, hid (by rw [HD.out]), by rw [HD.out]⟩
      case round =>
        clear I1 I2 I3 hc1 hf1 hz HD hm
        obtain ⟨p, Y, hI, hp, hS, hY⟩ := hrel
        obtain ⟨i1, i2, i3⟩ := hI.out
        have hc1 := three_cell1 i1
        have hc2 := three_cell2 i1
        have hf1 := three_free (j := 1) i1
        have hf2 := three_free (j := 2) i1
        have I3 := hid i3
        have I2 := hid i2
        have I1 := hid i1
        clear hI
        have fin : strip p = p → ∀ wx, wx = wr → bodyPost Tryz.prog Tryz.f125 (fun e w' => e = .returned (.agg #[.bool mi, .string (ofL (strip (drop0 l))), .int .i64 (X + ((drop0 l).length : Int) - ((strip (drop0 l)).length : Int))]) ∧ Fr (fun _ => False) w w') Exit.ret
            { tmps := #[], defers := [] } wx → True := fun _ _ _ _ => trivial
        clear fin
        have hc0 := three_cell0 i1
        have d0 := three_cell0 i2
        have d1 := three_cell1 i2
        have d2 := three_cell2 i2
        have df0 := three_free (j := 0) i2
        have df1 := three_free (j := 1) i2
        have df2 := three_free (j := 2) i2
        clear i1 i2 i3
        rcases List.eq_nil_or_concat p with rfl | ⟨q, c, rfl⟩
        · have hne : (ofL []).toList.isEmpty = true := by rw [ofL_toList]; rfl
          have HR := hid (show strip (drop0 l) = [] by rw [← hS.out]; rfl)
          go_wp2
          have hfin := three_set2 (u := .int .i64 Y) (three_set1 (u := .string (ofL ([]))) (three_set0 (u := .bool mi) I2.out))
          have e0 := three_cell0 hfin
          have e1 := three_cell1 hfin
          have e2 := three_cell2 hfin
          refine bodyPost_ret (v := .agg #[.bool mi, .string (ofL ([])), .int .i64 Y]) (by simp [results, Tryz.results125, go_sem, e0, e1, e2]) rfl ?_
          refine ⟨?_, ((I3.out.setCell (.inr (by simp)) _).setCell (.inr (by simp)) _).setCell (.inr (by simp)) _⟩
          rw [HR.out]
          congr 4
          simp at *
          omega
        · rw [List.concat_eq_append] at hS hp hY hc1 I1
          have hz : (ofL (q ++ [c])).size = q.length + 1 := by rw [ofL_size]; simp
          have hne : (ofL (q ++ [c])).toList.isEmpty = false := by rw [ofL_toList]; simp
          have hg : (ofL (q ++ [c]))[q.length]'(by omega) = c := by rw [ofL_get]; simp
          have hx : (ofL (q ++ [c])).extract 0 q.length = ofL q := by rw [ofL_extract]; simp
          have hql : q.length ≤ 4000000 := by simp at hp; omega
          have hql2 : q.length + 1 ≤ l.length := by simpa using hp
          have hY2 : Y + ((q.length : Int) + 1) = X + ((drop0 l).length : Int) := by simpa using hY
          by_cases hc : c = 48
          · subst hc
            have HS := hid (show strip q = strip (drop0 l) from by rw [← hS.out, strip_zero])
            clear hS hp hY
            go_wp2
            go_roundw
            case rel =>
              refine ⟨q, Y + 1, hid ⟨three_set2 (three_set1 I1.out), (Below.heap_setCell _ _ _ _ (by simp)).trans ((Below.heap_setCell _ _ _ _ (by simp)).trans I2.out), (I3.out.setCell (.inr (Nat.le_refl _)) _).setCell (.inr (Nat.le_refl _)) _⟩, by omega, HS, by omega⟩
            case measure =>
              rw [cellLen_eq (three_cell1 (three_set2 (three_set1 I1.out))), cellLen_eq hc1]; simp
          · have hcn : ((c.toNat : Int) == 48) = false := beq_eq_false_iff_ne.2 (by have := toNat_ne hc; simp at this; omega)
            have HR := hid (show strip (drop0 l) = q ++ [c] from by rw [← hS.out, strip_no _ _ hc])
            clear hS
            go_wp2
            have hfin := three_set2 (u := .int .i64 Y) (three_set1 (u := .string (ofL (q ++ [c]))) (three_set0 (u := .bool mi) I2.out))
            have e0 := three_cell0 hfin
            have e1 := three_cell1 hfin
            have e2 := three_cell2 hfin
            refine bodyPost_ret (v := .agg #[.bool mi, .string (ofL (q ++ [c])), .int .i64 Y]) (by simp [results, Tryz.results125, go_sem, e0, e1, e2]) rfl ?_
            refine ⟨?_, ((I3.out.setCell (.inr (by simp)) _).setCell (.inr (by simp)) _).setCell (.inr (by simp)) _⟩
            rw [HR.out]
            congr 4
            simp at *
            omega

    | cons c r =>
      have hne : (ofL (c :: r)).toList.isEmpty = false := by rw [ofL_toList]; rfl
      have hg : (ofL (c :: r))[0]'(by rw [ofL_size]; simp) = c := by rw [ofL_get]; rfl
      have hx : (ofL (c :: r)).extract 1 (r.length + 1) = ofL r := by rw [ofL_extract]; simp
      have hz' : (ofL (c :: r)).size = r.length + 1 := by rw [hz]; simp
      have hrl : r.length + 1 ≤ l.length := by simpa using hm
      by_cases hc : c = 48
      · subst hc
        have HD := hid (show drop0 r = drop0 l from by rw [← hD.out]; rfl)
        clear hz hD hm
        go_wp2
        go_roundw
        case rel => exact ⟨r, hid ⟨three_set1 I1.out, (Below.heap_setCell _ _ _ _ (by simp)).trans I2.out, I3.out.setCell (.inr (Nat.le_refl _)) _⟩, by omega, HD⟩
        case measure => rw [cellLen_eq (three_cell1 (three_set1 I1.out)), cellLen_eq hc1]; simp
      · have hcn : ((c.toNat : Int) == 48) = false := beq_eq_false_iff_ne.2 (by have := toNat_ne hc; simp at this; omega)
        have HD := hid (show c :: r = drop0 l from by rw [← hD.out, drop0, List.dropWhile_cons, if_neg (by simpa using hc)])
        clear hD
        go_wp2
        clear hne hg hx hz' hrl hcn
        go_loopw [] (fun wr => ∃ (p : List UInt8) (Y : Int), Hid (LeanInv w mi p Y wr) ∧ p.length ≤ l.length ∧ Hid (strip p = strip (drop0 l)) ∧ Y + (p.length : Int) = X + ((drop0 l).length : Int)) (fun wr => cellLen wr ⟨w.heap.size, 1, none⟩)
        case atStart => exact ⟨_, X, hid ⟨I1.out, I2.out, I3.out⟩, hm, hid (by rw [HD.out]), by rw [HD.out]⟩
        case round =>
          clear I1 I2 I3 hc1 hf1 hz HD hm
          obtain ⟨p, Y, hI, hp, hS, hY⟩ := hrel
          obtain ⟨i1, i2, i3⟩ := hI.out
          have hc1 := three_cell1 i1
          have hc2 := three_cell2 i1
          have hf1 := three_free (j := 1) i1
          have hf2 := three_free (j := 2) i1
          have I3 := hid i3
          have I2 := hid i2
          have I1 := hid i1
          clear hI
          have fin : strip p = p → ∀ wx, wx = wr → bodyPost Tryz.prog Tryz.f125 (fun e w' => e = .returned (.agg #[.bool mi, .string (ofL (strip (drop0 l))), .int .i64 (X + ((drop0 l).length : Int) - ((strip (drop0 l)).length : Int))]) ∧ Fr (fun _ => False) w w') Exit.ret
              { tmps := #[], defers := [] } wx → True := fun _ _ _ _ => trivial
          clear fin
          have hc0 := three_cell0 i1
          have d0 := three_cell0 i2
          have d1 := three_cell1 i2
          have d2 := three_cell2 i2
          have df0 := three_free (j := 0) i2
          have df1 := three_free (j := 1) i2
          have df2 := three_free (j := 2) i2
          clear i1 i2 i3
          rcases List.eq_nil_or_concat p with rfl | ⟨q, c, rfl⟩
          · have hne : (ofL []).toList.isEmpty = true := by rw [ofL_toList]; rfl
            have HR := hid (show strip (drop0 l) = [] by rw [← hS.out]; rfl)
            go_wp2
            have hfin := three_set2 (u := .int .i64 Y) (three_set1 (u := .string (ofL ([]))) (three_set0 (u := .bool mi) I2.out))
            have e0 := three_cell0 hfin
            have e1 := three_cell1 hfin
            have e2 := three_cell2 hfin
            refine bodyPost_ret (v := .agg #[.bool mi, .string (ofL ([])), .int .i64 Y]) (by simp [results, Tryz.results125, go_sem, e0, e1, e2]) rfl ?_
            refine ⟨?_, ((I3.out.setCell (.inr (by simp)) _).setCell (.inr (by simp)) _).setCell (.inr (by simp)) _⟩
            rw [HR.out]
            congr 4
            simp at *
            omega
          · rw [List.concat_eq_append] at hS hp hY hc1 I1
            have hz : (ofL (q ++ [c])).size = q.length + 1 := by rw [ofL_size]; simp
            have hne : (ofL (q ++ [c])).toList.isEmpty = false := by rw [ofL_toList]; simp
            have hg : (ofL (q ++ [c]))[q.length]'(by omega) = c := by rw [ofL_get]; simp
            have hx : (ofL (q ++ [c])).extract 0 q.length = ofL q := by rw [ofL_extract]; simp
            have hql : q.length ≤ 4000000 := by simp at hp; omega
            have hql2 : q.length + 1 ≤ l.length := by simpa using hp
            have hY2 : Y + ((q.length : Int) + 1) = X + ((drop0 l).length : Int) := by simpa using hY
            by_cases hc : c = 48
            · subst hc
              have HS := hid (show strip q = strip (drop0 l) from by rw [← hS.out, strip_zero])
              clear hS hp hY
              go_wp2
              go_roundw
              case rel =>
                refine ⟨q, Y + 1, hid ⟨three_set2 (three_set1 I1.out), (Below.heap_setCell _ _ _ _ (by simp)).trans ((Below.heap_setCell _ _ _ _ (by simp)).trans I2.out), (I3.out.setCell (.inr (Nat.le_refl _)) _).setCell (.inr (Nat.le_refl _)) _⟩, by omega, HS, by omega⟩
              case measure =>
                rw [cellLen_eq (three_cell1 (three_set2 (three_set1 I1.out))), cellLen_eq hc1]; simp
            · have hcn : ((c.toNat : Int) == 48) = false := beq_eq_false_iff_ne.2 (by have := toNat_ne hc; simp at this; omega)
              have HR := hid (show strip (drop0 l) = q ++ [c] from by rw [← hS.out, strip_no _ _ hc])
              clear hS
              go_wp2
              have hfin := three_set2 (u := .int .i64 Y) (three_set1 (u := .string (ofL (q ++ [c]))) (three_set0 (u := .bool mi) I2.out))
              have e0 := three_cell0 hfin
              have e1 := three_cell1 hfin
              have e2 := three_cell2 hfin
              refine bodyPost_ret (v := .agg #[.bool mi, .string (ofL (q ++ [c])), .int .i64 Y]) (by simp [results, Tryz.results125, go_sem, e0, e1, e2]) rfl ?_
              refine ⟨?_, ((I3.out.setCell (.inr (by simp)) _).setCell (.inr (by simp)) _).setCell (.inr (by simp)) _⟩
              rw [HR.out]
              congr 4
              simp at *
              omega
end Go.Proofs.YtmkkibaacclhnaaGreat

namespace Go.Proofs.YtmkkibaacclhnaaGreat
open Go.RowKit

/-- the powers of ten, counted in 2^-1074, over one denominator -/
def TK (K : Nat) (q : Int) : Nat := p10 (q + K).toNat * p2 1074
theorem TK_succ (K : Nat) (q : Int) (h : -(K : Int) ≤ q) : TK K (q + 1) = 10 * TK K q := by
  unfold TK
  rw [show (q + 1 + (K : Int)).toNat = (q + K).toNat + 1 by omega, p10_succ, Nat.mul_comm (p10 _) 10, Nat.mul_assoc]
theorem TK_add (K : Nat) (q : Int) (j : Nat) (h : -(K : Int) ≤ q) : TK K (q + j) = p10 j * TK K q := by
  unfold TK
  rw [show (q + j + (K : Int)).toNat = j + (q + K).toNat by omega, p10_add, Nat.mul_assoc]
theorem cle_TK (K : Nat) (m c : Nat) (q : Int) (h : -(K : Int) ≤ q) : CLe m c q ↔ c * TK K q ≤ p10 K * V m := by
  unfold CLe TK
  have hz := p10_pos (K - (-q).toNat)
  have e1 : p10 (q + K).toNat = p10 q.toNat * p10 (K - (-q).toNat) := by rw [← p10_add]; congr 1; omega
  have e2 : p10 K = p10 (-q).toNat * p10 (K - (-q).toNat) := by rw [← p10_add]; congr 1; omega
  rw [e1, e2]
  generalize p10 (K - (-q).toNat) = z at *
  generalize p10 q.toNat = a
  generalize p10 (-q).toNat = b
  generalize p2 1074 = s
  rw [show c * (a * z * s) = c * a * s * z by simp only [Nat.mul_left_comm, Nat.mul_comm], show b * z * V m = b * V m * z from Nat.mul_right_comm ..]
  exact (Nat.mul_le_mul_right_iff hz).symm
/-- z is read as the number v, with the gaps gl and gh about it -/
def InV (v gl gh : Nat) (e : Prop) (z : Nat) : Prop := (2 * v < 2 * z + gl ∨ (2 * v = 2 * z + gl ∧ e)) ∧ (2 * z < 2 * v + gh ∨ (2 * z = 2 * v + gh ∧ e))
/-- the lower one of two is taken, if both may be -/
def LowV (v c t : Nat) : Prop := 2 * v < 2 * (c * t) + t ∨ (2 * v = 2 * (c * t) + t ∧ c % 2 = 0)
/-- what is taken of the two about the number -/
def Pk (v gl gh : Nat) (e : Prop) (c t D : Nat) : Prop :=
  (InV v gl gh e (c * t) ∧ (¬ InV v gl gh e (c * t + t) ∨ LowV v c t) ∧ D = c) ∨ (InV v gl gh e (c * t + t) ∧ (¬ InV v gl gh e (c * t) ∨ ¬ LowV v c t) ∧ D = c + 1)
theorem Pk.some {v gl gh : Nat} {e : Prop} {c t D : Nat} (h : Pk v gl gh e c t D) : InV v gl gh e (c * t) ∨ InV v gl gh e (c * t + t) := by
  rcases h with ⟨a, _⟩ | ⟨a, _⟩
  · exact .inl a
  · exact .inr a
theorem snoc_indB {P : List UInt8 → Prop} (h0 : P []) (h : ∀ a x, P a → P (a ++ [x])) (l : List UInt8) : P l := by
  rw [← List.reverse_reverse l]
  generalize l.reverse = r
  induction r with
  | nil => exact h0
  | cons c r ih => rw [List.reverse_cons]; exact h _ _ ih
theorem dgs_of {l : List UInt8} (hA : AllD l) (h0 : l ≠ []) (hH : l.head? ≠ some 48) : l = dgs (num (dv l)) := by
  refine snoc_indB (P := fun l => AllD l → l ≠ [] → l.head? ≠ some 48 → l = dgs (num (dv l))) ?_ ?_ l hA h0 hH
  · intro _ h; exact absurd rfl h
  · intro l c ih hA _ hH
    have hc : isD c = true := hA c (by simp)
    have hl : AllD l := fun x hx => hA x (by simp [hx])
    unfold isD at hc
    simp at hc
    have ec : c = UInt8.ofNat (48 + (c.toNat - 48)) := by
      apply UInt8.toNat_inj.1
      rw [ofNat_byte _ (by omega)]
      omega
    have en : num (dv (l ++ [c])) = num (dv l) * 10 + (c.toNat - 48) := by
      rw [dv_append]
      show num (dv l ++ [c.toNat - 48]) = _
      rw [num_snoc]
    rw [en]
    by_cases hn : l = []
    · subst hn
      rw [show num (dv []) = 0 from rfl, dgs_lt (by omega), Nat.zero_mul, Nat.zero_add, ← ec]; rfl
    · have hH' : l.head? ≠ some 48 := by rwa [head_app hn] at hH
      have e := ih hl hn hH'
      have hpos : 1 ≤ num (dv l) := by
        have := num_top l hl hn hH'
        have := p10_pos (l.length - 1)
        omega
      rw [dgs_ge (by omega), show (num (dv l) * 10 + (c.toNat - 48)) / 10 = num (dv l) by omega, show (num (dv l) * 10 + (c.toNat - 48)) % 10 = c.toNat - 48 by omega, ← e, ← ec]
/-- the first digits of the first digits -/
theorem DInv.take {m : Nat} {l : List UInt8} {x : Int} (K : Nat) (hx : -(K : Int) ≤ x - 16) (h : DInv m l 17 (x - 16)) (j : Nat) (h1 : 1 ≤ j) (h2 : j ≤ 17) :
    num (dv (l.take j)) * TK K (x + 1 - j) ≤ p10 K * V m ∧ p10 K * V m < num (dv (l.take j)) * TK K (x + 1 - j) + TK K (x + 1 - j) := by
  obtain ⟨hA, hL, hlo, hhi⟩ := h
  rw [cle_TK K _ _ _ hx] at hlo hhi
  have e : TK K (x + 1 - j) = p10 (17 - j) * TK K (x - 16) := by
    rw [← TK_add K (x - 16) (17 - j) hx]; congr 1; omega
  have el : num (dv l) = num (dv (l.take j)) * p10 (17 - j) + num (dv (l.drop j)) := by
    conv => lhs; rw [← List.take_append_drop j l, dv_append, num_append]
    rw [dv_length, List.length_drop, hL]
  have hr : num (dv (l.drop j)) < p10 (17 - j) := by
    have := num_lt _ (hA.drop j).digs
    rwa [dv_length, List.length_drop, hL] at this
  rw [e]
  generalize num (dv (l.take j)) = c at *
  generalize num (dv (l.drop j)) = r at *
  generalize p10 (17 - j) = p at *
  generalize TK K (x - 16) = t at *
  have e1 : c * (p * t) = c * p * t := (Nat.mul_assoc ..).symm
  rw [e1]
  rw [el] at hlo hhi
  constructor
  · refine Nat.le_trans (Nat.mul_le_mul_right t (Nat.le_add_right _ r)) hlo
  · rw [← Nat.add_mul]
    refine Nat.lt_of_lt_of_le (Nat.lt_of_not_le hhi) (Nat.mul_le_mul_right t ?_)
    omega
end Go.Proofs.YtmkkibaacclhnaaGreat
