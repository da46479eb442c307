/-
  A step of the walk, the part named Se. No theorem of the row.
-/
import Derived.Test.YtmkkibaacclhnaaGreatSd
namespace Go.Proofs.YtmkkibaacclhnaaGreat
open Go.RowKit

theorem unit_ge {low : Bool} {k n m : Nat} {r q : List UInt8} (h : unitGo low k n r = .ok m q) : n * 16 ^ k ≤ m ∧ m < (n + 1) * 16 ^ k := by
  induction k generalizing n r with
  | zero =>
    rw [unitGo] at h
    cases h
    omega
  | succ k ih =>
    cases r with
    | nil => cases h
    | cons c r =>
      rw [unitGo] at h
      cases hv : hexV c with
      | none => rw [hv] at h; cases h
      | some x =>
        rw [hv] at h
        have hx := hexV_lt hv
        simp only at h
        split at h
        · cases h
        split at h
        · cases h
        obtain ⟨h1, h2⟩ := ih h
        have e1 : n * 16 ^ (k + 1) ≤ (16 * n + x) * 16 ^ k := by
          rw [Nat.pow_succ, ← Nat.mul_assoc, Nat.mul_comm (n * 16 ^ k) 16, ← Nat.mul_assoc]
          exact Nat.mul_le_mul_right _ (by omega)
        have e2 : (16 * n + x + 1) * 16 ^ k ≤ (n + 1) * 16 ^ (k + 1) := by
          rw [Nat.pow_succ, ← Nat.mul_assoc, Nat.mul_comm ((n + 1) * 16 ^ k) 16, ← Nat.mul_assoc]
          exact Nat.mul_le_mul_right _ (by omega)
        exact ⟨Nat.le_trans e1 h1, Nat.lt_of_lt_of_le h2 e2⟩
theorem unit_lt {low : Bool} {m : Nat} {r q : List UInt8} (h : unitGo low 4 0 r = .ok m q) : m < 65536 := by
  have := (unit_ge h).2
  simpa using this
theorem unit_low {m : Nat} {r q : List UInt8} (h : unitGo true 4 0 r = .ok m q) : 56320 ≤ m ∧ m < 57344 := by
  cases r with
  | nil => cases h
  | cons c r =>
    rw [unitGo] at h
    cases hv : hexV c with
    | none => rw [hv] at h; cases h
    | some x =>
      rw [hv] at h
      simp only at h
      split at h
      · cases h
      rename_i h1
      split at h
      · cases h
      have hx : 16 * 0 + x = 13 := by
        by_cases e : 16 * 0 + x = 13
        · exact e
        · exact absurd ⟨trivial, .inl ⟨trivial, e⟩⟩ h1
      rw [hx] at h
      cases r with
      | nil => cases h
      | cons c2 r =>
        rw [unitGo] at h
        cases hv2 : hexV c2 with
        | none => rw [hv2] at h; cases h
        | some y =>
          rw [hv2] at h
          have hy := hexV_lt hv2
          simp only at h
          split at h
          · cases h
          rename_i h2
          split at h
          · cases h
          have hlo : ¬ 16 * 13 + y < 220 := fun e => h2 ⟨trivial, .inr ⟨trivial, e⟩⟩
          obtain ⟨a, b⟩ := unit_ge h
          simp only [Nat.reducePow] at a b
          omega
theorem SC.same {B : Nat} {w0 w w' : World} {l p : List UInt8} {inn d : Nat} {vi : Value} {its : List It} {e : Nat} {en la : Bool} (h : SC B w0 w l p inn d vi its e en la) (hF : Fr (fun _ => False) w w') : SC B w0 w' l p inn d vi its e en la :=
  ⟨hF.heap h.blk id, rowFr h.oi hF (fun _ _ => id), h.suf, h.fr.trans hF, h.hB, h.hv⟩
theorem pair_nil (n : Nat) : pairOut n [] = .ended := rfl
theorem pair_one (n : Nat) : pairOut n [92] = .ended := by rw [pairOut.eq_def]; simp
theorem pair_w1 (n : Nat) {c : UInt8} (q : List UInt8) (h : c ≠ 92) : pairOut n (c :: q) = .wrong 5 (c :: q) := by rw [pairOut.eq_def]; simp [h]
theorem pair_w2 (n : Nat) {c : UInt8} (q : List UInt8) (h : c ≠ 117) : pairOut n (92 :: c :: q) = .wrong 5 (c :: q) := by rw [pairOut.eq_def]; simp [h]
theorem pair_u (n : Nat) (q : List UInt8) : pairOut n (92 :: 117 :: q) = match unitGo true 4 0 q with
    | .ok m q3 => .ok (encR (65536 + 1024 * (n - 55296) + (m - 56320))) q3
    | .wrong e q => .wrong e q
    | .ended => .ended := by
  rw [pairOut.eq_def]
  simp only [ne_eq, not_true, if_false]
  cases unitGo true 4 0 q <;> rfl
def shI : List UInt8 := [34, 92, 47, 98, 102, 110, 114, 116]
def shO : List UInt8 := [34, 92, 47, 8, 12, 10, 13, 9]
theorem sh_get : ∀ k : Nat, (h : k < 8) → escV (shI[k]'h) = some (shO[k]'h) := by decide
theorem sh_none (c : UInt8) (h : ∀ j : Nat, (hj : j < 8) → shI[j]'hj ≠ c) : escV c = none := by
  have h0 := h 0 (by omega)
  have h1 := h 1 (by omega)
  have h2 := h 2 (by omega)
  have h3 := h 3 (by omega)
  have h4 := h 4 (by omega)
  have h5 := h 5 (by omega)
  have h6 := h 6 (by omega)
  have h7 := h 7 (by omega)
  simp only [shI, List.getElem_cons_zero, List.getElem_cons_succ] at h0 h1 h2 h3 h4 h5 h6 h7
  unfold escV
  rw [if_neg (by rintro (e | e | e); exact h0 e.symm; exact h1 e.symm; exact h2 e.symm), if_neg (fun e => h3 e.symm), if_neg (fun e => h4 e.symm), if_neg (fun e => h5 e.symm), if_neg (fun e => h6 e.symm), if_neg (fun e => h7 e.symm)]
theorem sh_slice (m : Nat) (h : m < 8) : (ByteArray.mk #[34, 92, 47, 8, 12, 10, 13, 9]).extract m (m + 1) = ofL [shO[m]'h] := by
  have : m = 0 ∨ m = 1 ∨ m = 2 ∨ m = 3 ∨ m = 4 ∨ m = 5 ∨ m = 6 ∨ m = 7 := by omega
  rcases this with rfl | rfl | rfl | rfl | rfl | rfl | rfl | rfl <;> rfl
def sGood (s : List UInt8) : Value := .tuple #[.string (ofL s), .bool true]
def sBad : Value := .tuple #[.string (ofL []), .bool false]
set_option maxRecDepth 100000 in
set_option maxHeartbeats 80000000 in
theorem escape_any (B : Nat) (w0 w : World) (l r : List UInt8) (inn d : Nat) (vi : Value) (its : List It) (hl : l.length ≤ 100000000) (h : SC B w0 w l (92 :: r) inn d vi its 0 false false) :
    Calls Tryz.prog 95 #[.pointer (some ⟨B, 0, none⟩)] w (TPost B w0 l inn d vi its sGood sBad (escOut r)) := by
  obtain ⟨U, hU⟩ : ∃ U, escOut r = U := ⟨_, rfl⟩
  rw [hU]
  have hsz := ofL_size l
  have k1 := blk_cell h.blk (show (scCells l (l.length - (92 :: r).length) inn d vi 0 false false)[1]? = some (.int .i64 ((l.length - (92 :: r).length : Nat) : Int)) from rfl)
  have f1 := blk_free (j := 1) h.blk
  have hpos := h.at_
  have h1 := h.step
  have HS := hid h1
  obtain ⟨pos, hp⟩ : ∃ pos, l.length - (92 :: r).length = pos := ⟨_, rfl⟩
  have hpl : pos ≤ 100000000 := by omega
  rw [hp] at k1 HS
  clear h h1 hpos hp
  cases r with
  | nil =>
    have HM := hid (more_no B w0 _ l inn d vi its 0 false false HS.out)
    rw [escOut] at hU
    subst hU
    go_enter Tryz.func95, Tryz.ntmps95
    go_wp2_with fail
    refine Calls.mono HM.out ?_
    rintro x w2 ⟨rfl, hC⟩
    have HC := hid hC
    clear hC
    go_wp2
    go_ret2
    exact ⟨rfl, HC.out⟩
  | cons c q =>
    have HM := hid (more_yes B w0 _ l c q inn d vi its 0 false false HS.out)
    have HU := hid hU
    clear hU
    go_enter Tryz.func95, Tryz.ntmps95
    go_wp2_with fail
    refine Calls.mono HM.out ?_
    rintro x w2 ⟨rfl, hw2⟩
    have HI := hid (hw2 ▸ HS.out.drew : SC B w0 w2 l (c :: q) inn d vi its 0 false false)
    clear hw2 k1 f1 HM HS
    go_wp2
    go_loopw [6] (fun i wr => ∃ k : Nat, k ≤ 8 ∧ i = .int .i64 k ∧ Hid (SC B w0 wr l (c :: q) inn d vi its 0 false false) ∧ Hid (∀ j : Nat, j < k → (hj : j < 8) → shI[j]'hj ≠ c)) (fun i _ => 8 - (intOf i).toNat)
    case atStart => exact ⟨0, by omega, rfl, HI, hid (fun j hj => by omega)⟩
    case round =>
      obtain ⟨k, hk, rfl, hI, hN⟩ := hrel
      obtain ⟨hkk, hg⟩ := suf_get hI.out.suf
      have k0 := blk_cell hI.out.blk (show (scCells l (l.length - (c :: q).length) inn d vi 0 false false)[0]? = some (.string (ofL l)) from rfl)
      have k1 := blk_cell hI.out.blk (show (scCells l (l.length - (c :: q).length) inn d vi 0 false false)[1]? = some (.int .i64 ((l.length - (c :: q).length : Nat) : Int)) from rfl)
      have f1 := blk_free (j := 1) hI.out.blk
      have hgc : (ofL l)[l.length - (c :: q).length]'(by rw [hsz]; exact hkk) = c := (ofL_get l _ _).trans hg
      have hst := hid (fun n => (hI.out.drewN n).step)
      have hDN := hid (fun n => hI.out.drewN n)
      generalize l.length - (c :: q).length = ps at *
      clear hg
      by_cases hlt : k < 8
      · have hgk : (ByteArray.mk #[34, 92, 47, 98, 102, 110, 114, 116])[k]'hlt = shI[k]'hlt := rfl
        have hsl := sh_slice k hlt
        have hV := hid (sh_get k hlt)
        generalize hx : shI[k]'hlt = y at *
        generalize shO[k]'hlt = z at *
        by_cases hy : y = c
        · subst hy
          have hb : ((y.toNat : Int) == (y.toNat : Int)) = true := beq_self_eq_true _
          clear hx
          go_wp2
          go_quiet (fail)
          go_wp2
          go_ret2
          rw [← HU.out, escOut, hV.out]
          exact ⟨rfl, hst.out _⟩
        · have hyc : ((y.toNat : Int) == (c.toNat : Int)) = false := beq_eq_false_iff_ne.2 (by have := toNat_neP hy; omega)
          have HX := hid hx
          have HY := hid hy
          clear hx hy hsl
          go_wp2
          go_quiet (fail)
          go_wp2
          go_roundw
          case rel => exact ⟨k + 1, by omega, by go_num, hid (hDN.out _), hid (fun j hj hj2 => by
            by_cases e : j = k
            · subst e; rw [HX.out]; exact HY.out
            · exact hN.out j (by omega) hj2)⟩
          case measure => simp [intOf]; omega
      · obtain rfl : k = 8 := by omega
        have HE := hid (sh_none c (fun j hj => hN.out j hj hj))
        have hFl := hid (fun n e => fails_any B w0 (wr.drewN n) l (c :: q) inn d vi its 0 e false false (hI.out.drewN n))
        by_cases h117 : c = 117
        · subst h117
          have HUn := hid (fun n => unit_any false B w0 _ l q inn d vi its hl (hst.out n))
          have hb : ((117 : Int) != 117) = false := rfl
          cases hu : unitGo false 4 0 q with
          | wrong e q1 =>
            rw [hu] at HUn
            have HE2 := hid (show U = .wrong e q1 by rw [← HU.out, escOut, escV_117]; simp [hu])
            clear hu
            go_wp2
            go_quiet (fail)
            go_wp2_with fail
            refine Calls.mono (HUn.out _) ?_
            rintro x w3 ⟨rfl, hC⟩
            unfold uBad
            have HC := hid hC
            clear hC
            go_wp2
            go_ret2
            rw [HE2.out]
            exact ⟨rfl, HC.out⟩
          | ended =>
            rw [hu] at HUn
            have HE2 := hid (show U = .ended by rw [← HU.out, escOut, escV_117]; simp [hu])
            clear hu
            go_wp2
            go_quiet (fail)
            go_wp2_with fail
            refine Calls.mono (HUn.out _) ?_
            rintro x w3 ⟨rfl, hC⟩
            unfold uBad
            have HC := hid hC
            clear hC
            go_wp2
            go_ret2
            rw [HE2.out]
            exact ⟨rfl, HC.out⟩
          | ok n q1 =>
            rw [hu] at HUn
            have hn := unit_lt hu
            by_cases hnn : n < 55296 ∨ 56320 ≤ n
            · have HE2 := hid (show U = .ok (encR n) q1 by rw [← HU.out, escOut, escV_117]; simp [hu, hnn])
              have HU8 := hid (fun w => rutf8_any n w (by omega))
              clear hu
              generalize encR n = en at *
              rcases hnn with hnn | hnn
              · go_wp2
                go_quiet (fail)
                go_wp2_with fail
                refine Calls.mono (HUn.out _) ?_
                rintro x w3 ⟨rfl, hC⟩
                unfold uGood
                have HC := hid hC
                clear hC
                go_wp2_with fail
                refine Calls.mono (HU8.out _) ?_
                rintro x w4 ⟨rfl, hF⟩
                have HF := hid hF
                clear hF
                go_wp2
                go_ret2
                rw [HE2.out]
                exact ⟨rfl, HC.out.same HF.out⟩
              · go_wp2
                go_quiet (fail)
                go_wp2_with fail
                refine Calls.mono (HUn.out _) ?_
                rintro x w3 ⟨rfl, hC⟩
                unfold uGood
                have HC := hid hC
                clear hC
                go_wp2_with fail
                refine Calls.mono (HU8.out _) ?_
                rintro x w4 ⟨rfl, hF⟩
                have HF := hid hF
                clear hF
                go_wp2
                go_ret2
                rw [HE2.out]
                exact ⟨rfl, HC.out.same HF.out⟩
            · have HE2 := hid (show U = pairOut n q1 by rw [← HU.out, escOut, escV_117]; simp [hu, hnn])
              have hn1 : 55296 ≤ n := by omega
              have hn2 : n < 56320 := by omega
              clear hu hnn
              go_wp2
              go_quiet (fail)
              go_wp2_with fail
              refine Calls.mono (HUn.out _) ?_
              rintro x w3 ⟨rfl, hC⟩
              unfold uGood
              have HC := hid hC
              clear hC
              go_wp2
              clear HUn hst hDN k0 k1 f1 hFl hI hN hgc hkk HI HE
              go_loopw [8] (fun i wr2 => ∃ (k : Nat) (p' : List UInt8), k ≤ 2 ∧ i = .int .i64 k ∧ Hid (SC B w0 wr2 l p' inn d vi its 0 false false) ∧ Hid ((k = 0 ∧ p' = q1) ∨ (k = 1 ∧ q1 = 92 :: p') ∨ (k = 2 ∧ q1 = 92 :: 117 :: p'))) (fun i _ => 2 - (intOf i).toNat)
              case atStart => exact ⟨0, q1, by omega, rfl, HC, hid (.inl ⟨rfl, rfl⟩)⟩
              case round =>
                obtain ⟨k2, p', hk2, rfl, hI2, hcs⟩ := hrel
                rcases hcs.out with ⟨hk0, hp'⟩ | ⟨hk0, hp'⟩ | ⟨hk0, hp'⟩
                · subst hk0
                  subst hp'
                  clear hcs
                  cases p' with
                  | nil =>
                    have HM := hid (more_no B w0 _ l inn d vi its 0 false false hI2.out)
                    go_wp2_with fail
                    refine Calls.mono HM.out ?_
                    rintro x w4 ⟨rfl, hC⟩
                    have HC2 := hid hC
                    clear hC
                    go_wp2
                    go_ret2
                    rw [HE2.out, pair_nil]
                    exact ⟨rfl, HC2.out⟩
                  | cons c2 q2 =>
                    have HM := hid (more_yes B w0 _ l c2 q2 inn d vi its 0 false false hI2.out)
                    go_wp2_with fail
                    refine Calls.mono HM.out ?_
                    rintro x w4 ⟨rfl, hw4⟩
                    have hI4 : SC B w0 w4 l (c2 :: q2) inn d vi its 0 false false := hw4 ▸ hI2.out.drew
                    clear hw4
                    obtain ⟨hkk4, hg4⟩ := suf_get hI4.suf
                    have m0 := blk_cell hI4.blk (show (scCells l (l.length - (c2 :: q2).length) inn d vi 0 false false)[0]? = some (.string (ofL l)) from rfl)
                    have m1 := blk_cell hI4.blk (show (scCells l (l.length - (c2 :: q2).length) inn d vi 0 false false)[1]? = some (.int .i64 ((l.length - (c2 :: q2).length : Nat) : Int)) from rfl)
                    have m2 := blk_free (j := 1) hI4.blk
                    have hgc4 : (ofL l)[l.length - (c2 :: q2).length]'(by rw [hsz]; exact hkk4) = c2 := (ofL_get l _ _).trans hg4
                    have hst4 := hid (fun n => (hI4.drewN n).step)
                    have hFl4 := hid (fun n => fails_any B w0 (w4.drewN n) l (c2 :: q2) inn d vi its 0 5 false false (hI4.drewN n))
                    generalize l.length - (c2 :: q2).length = ps4 at *
                    clear hg4 hI4
                    have hgi : (ByteArray.mk #[92, 117])[0]'(by decide) = 92 := rfl
                    by_cases hc2 : c2 = 92
                    · subst hc2
                      go_wp2
                      go_quiet (fail)
                      go_wp2
                      go_roundw
                      case rel => exact ⟨1, q2, by omega, by go_num, hid (hst4.out _), hid ((.inr (.inl ⟨rfl, rfl⟩)))⟩
                      case measure => simp [intOf]
                    · have hb2 : ((c2.toNat : Int) != 92) = true := bne_iff_ne.2 (by have := toNat_neP hc2; simp at this; omega)
                      have HE3 := hid (pair_w1 n q2 hc2)
                      clear hc2
                      go_wp2
                      go_quiet (fail)
                      go_wp2_with fail
                      refine Calls.mono (hFl4.out _) ?_
                      rintro x w5 ⟨rfl, hC⟩
                      have HC2 := hid hC
                      clear hC
                      go_wp2
                      go_ret2
                      rw [HE2.out, HE3.out]
                      exact ⟨rfl, HC2.out⟩
                · subst hk0
                  subst hp'
                  clear hcs
                  cases p' with
                  | nil =>
                    have HM := hid (more_no B w0 _ l inn d vi its 0 false false hI2.out)
                    go_wp2_with fail
                    refine Calls.mono HM.out ?_
                    rintro x w4 ⟨rfl, hC⟩
                    have HC2 := hid hC
                    clear hC
                    go_wp2
                    go_ret2
                    rw [HE2.out, pair_one]
                    exact ⟨rfl, HC2.out⟩
                  | cons c2 q2 =>
                    have HM := hid (more_yes B w0 _ l c2 q2 inn d vi its 0 false false hI2.out)
                    go_wp2_with fail
                    refine Calls.mono HM.out ?_
                    rintro x w4 ⟨rfl, hw4⟩
                    have hI4 : SC B w0 w4 l (c2 :: q2) inn d vi its 0 false false := hw4 ▸ hI2.out.drew
                    clear hw4
                    obtain ⟨hkk4, hg4⟩ := suf_get hI4.suf
                    have m0 := blk_cell hI4.blk (show (scCells l (l.length - (c2 :: q2).length) inn d vi 0 false false)[0]? = some (.string (ofL l)) from rfl)
                    have m1 := blk_cell hI4.blk (show (scCells l (l.length - (c2 :: q2).length) inn d vi 0 false false)[1]? = some (.int .i64 ((l.length - (c2 :: q2).length : Nat) : Int)) from rfl)
                    have m2 := blk_free (j := 1) hI4.blk
                    have hgc4 : (ofL l)[l.length - (c2 :: q2).length]'(by rw [hsz]; exact hkk4) = c2 := (ofL_get l _ _).trans hg4
                    have hst4 := hid (fun n => (hI4.drewN n).step)
                    have hFl4 := hid (fun n => fails_any B w0 (w4.drewN n) l (c2 :: q2) inn d vi its 0 5 false false (hI4.drewN n))
                    generalize l.length - (c2 :: q2).length = ps4 at *
                    clear hg4 hI4
                    have hgi : (ByteArray.mk #[92, 117])[1]'(by decide) = 117 := rfl
                    by_cases hc2 : c2 = 117
                    · subst hc2
                      go_wp2
                      go_quiet (fail)
                      go_wp2
                      go_roundw
                      case rel => exact ⟨2, q2, by omega, by go_num, hid (hst4.out _), hid ((.inr (.inr ⟨rfl, rfl⟩)))⟩
                      case measure => simp [intOf]
                    · have hb2 : ((c2.toNat : Int) != 117) = true := bne_iff_ne.2 (by have := toNat_neP hc2; simp at this; omega)
                      have HE3 := hid (pair_w2 n q2 hc2)
                      clear hc2
                      go_wp2
                      go_quiet (fail)
                      go_wp2_with fail
                      refine Calls.mono (hFl4.out _) ?_
                      rintro x w5 ⟨rfl, hC⟩
                      have HC2 := hid hC
                      clear hC
                      go_wp2
                      go_ret2
                      rw [HE2.out, HE3.out]
                      exact ⟨rfl, HC2.out⟩
                · subst hk0
                  subst hp'
                  clear hcs
                  rw [pair_u] at HE2
                  have HUn := hid (unit_any true B w0 _ l p' inn d vi its hl hI2.out)
                  cases hu : unitGo true 4 0 p' with
                  | wrong e q2 =>
                    rw [hu] at HUn HE2
                    clear hu
                    go_wp2_with fail
                    refine Calls.mono HUn.out ?_
                    rintro x w4 ⟨rfl, hC⟩
                    unfold uBad
                    have HC2 := hid hC
                    clear hC
                    go_wp2
                    go_ret2
                    rw [HE2.out]
                    exact ⟨rfl, HC2.out⟩
                  | ended =>
                    rw [hu] at HUn HE2
                    clear hu
                    go_wp2_with fail
                    refine Calls.mono HUn.out ?_
                    rintro x w4 ⟨rfl, hC⟩
                    unfold uBad
                    have HC2 := hid hC
                    clear hC
                    go_wp2
                    go_ret2
                    rw [HE2.out]
                    exact ⟨rfl, HC2.out⟩
                  | ok m q3 =>
                    rw [hu] at HUn HE2
                    obtain ⟨hm1, hm2⟩ := unit_low hu
                    have HU8 := hid (fun w => rutf8_any (65536 + 1024 * (n - 55296) + (m - 56320)) w (by omega))
                    have hcast := hid (show ((65536 + 1024 * (n - 55296) + (m - 56320) : Nat) : Int) = 65536 + 1024 * ((n : Int) - 55296) + (m : Int) - 56320 by omega)
                    rw [hcast.out] at HU8
                    simp only at HE2
                    generalize encR (65536 + 1024 * (n - 55296) + (m - 56320)) = en at *
                    clear hu
                    go_wp2_with fail
                    refine Calls.mono HUn.out ?_
                    rintro x w4 ⟨rfl, hC⟩
                    unfold uGood
                    have HC2 := hid hC
                    clear hC
                    go_wp2_with fail
                    refine Calls.mono (HU8.out _) ?_
                    rintro x w5 ⟨rfl, hF⟩
                    have HF := hid hF
                    clear hF
                    go_wp2
                    go_ret2
                    rw [HE2.out]
                    exact ⟨rfl, HC2.out.same HF.out⟩
        · have hb : ((c.toNat : Int) != 117) = true := bne_iff_ne.2 (by have := toNat_neP h117; simp at this; omega)
          have HE2 := hid (show U = .wrong 3 (c :: q) by rw [← HU.out, escOut, HE.out]; simp [h117])
          go_wp2
          go_quiet (fail)
          go_wp2_with fail
          refine Calls.mono (hFl.out _ 3) ?_
          rintro x w3 ⟨rfl, hC⟩
          have HC := hid hC
          clear hC
          go_wp2
          go_ret2
          rw [HE2.out]
          exact ⟨rfl, HC.out⟩
end Go.Proofs.YtmkkibaacclhnaaGreat
