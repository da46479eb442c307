/-
  A step of the walk, the part named Sp. No theorem of the row.
-/
import Derived.Test.YtmkkibaacclhnaaGreatSn
namespace Go.Proofs.YtmkkibaacclhnaaGreat
open Go.RowKit

theorem rGo_vals_nil {d f inn : Nat} {p : List UInt8} (h : skipB p = []) : rGo d (f + 1) inn .vals p = .ended false := by
  rw [rGo.eq_def]; simp only; rw [h]
theorem rGo_vals_cons {d f inn : Nat} {p q : List UInt8} {c : UInt8} (h : skipB p = c :: q) : rGo d (f + 1) inn .vals p = if c = 93 then .ok 0 [] q else rGo d f inn (.valsGo 1 []) (c :: q) := by
  rw [rGo.eq_def]; simp only; rw [h]
/-- one round: what is behind the next one -/
theorem rGo_valsGo {d f inn n : Nat} {acc : List It} {p : List UInt8} : rGo d (f + 1) inn (.valsGo n acc) p = match rGo d f inn .val p with
    | .wrong e q => .wrong e q
    | .ended l => .ended l
    | .ok _ its p => match behOut 93 p with
      | .ended => .ended false
      | .wrong e q => .wrong e q
      | .ok true q => .ok n (acc ++ its) q
      | .ok false q => rGo d f inn (.valsGo (n + 1) (acc ++ its)) q := by
  rw [rGo.eq_def]
  simp only
  cases rGo d f inn .val p with
  | wrong e q => rfl
  | ended l => rfl
  | ok k its p =>
    simp only
    unfold behOut
    cases skipB p with
    | nil => rfl
    | cons c q =>
      simp only
      by_cases h1 : c = 93
      · rw [if_pos h1, if_pos h1]
      · rw [if_neg h1, if_neg h1]
        by_cases h2 : c = 44
        · rw [if_pos h2, if_pos h2]
        · rw [if_neg h2, if_neg h2]
set_option maxRecDepth 100000 in
set_option maxHeartbeats 40000000 in
theorem vals_any (B : Nat) (w0 w : World) (l p : List UInt8) (f inn d : Nat) (vi : Value) (its : List It) (hl : l.length ≤ 1800000) (hil : its.length + p.length ≤ 8000000) (hf : need .vals p ≤ f + 1) (h : SC B w0 w l p inn d vi its 0 false false)
    (h1 : ∀ (f' : Nat) (w' : World) (vi' : Value) (its' : List It) (p' : List UInt8), f' ≤ f → need .val p' ≤ f' → its'.length + p'.length ≤ 8000000 → SC B w0 w' l p' inn d vi' its' 0 false false → Calls Tryz.prog 45 #[.pointer (some ⟨B, 0, none⟩)] w' (IPost B w0 l inn d its' (rGo d f' inn .val p'))) :
    Calls Tryz.prog 72 #[.pointer (some ⟨B, 0, none⟩)] w (NPost B w0 l inn d its (rGo d (f + 1) inn .vals p)) := by
  have HB := hid (blanks_any B w0 w l p inn d _ its 0 false false (by omega) h)
  have hsz := ofL_size l
  have hpl := h.at_
  have H1 := hid h1
  have hsk := (skipB_suf p).length_le
  cases hx : skipB p with
  | nil =>
    rw [rGo_vals_nil hx]
    rw [hx] at HB
    clear h hx h1
    go_enter Tryz.func72, Tryz.ntmps72
    go_wp2_with fail
    refine Calls.mono HB.out ?_
    rintro x w2 ⟨rfl, hC⟩
    have HC := hid hC
    clear hC
    go_wp2
    go_ret2
    exact ⟨0, rfl, _, [], by rw [List.append_nil]; exact HC.out⟩
  | cons c q =>
    rw [rGo_vals_cons hx]
    rw [hx] at HB hsk
    have hq : q.length + 1 ≤ p.length := hsk
    have hcl : c.toNat < 256 := c.toNat_lt
    obtain ⟨U, hU⟩ : ∃ U, (if c = 93 then RV.ok 0 [] q else rGo d f inn (.valsGo 1 []) (c :: q)) = U := ⟨_, rfl⟩
    rw [hU]
    have HU := hid hU
    have hf2 : need (.valsGo 1 []) (c :: q) ≤ f := by unfold need at hf ⊢; simp only [List.length_cons] at hf ⊢; omega
    have hil2 : its.length + (c :: q).length ≤ 8000000 := by simp only [List.length_cons]; omega
    clear h hx h1 hU hsk hf
    go_enter Tryz.func72, Tryz.ntmps72
    go_wp2_with fail
    refine Calls.mono HB.out ?_
    rintro x w2 ⟨rfl, hC⟩
    have hI2 : SC B w0 w2 l (c :: q) inn d vi its 0 false false := hC
    clear hC
    obtain ⟨hkk, hg⟩ := suf_get hI2.suf
    have k0 := blk_cell hI2.blk (show (scCells l (l.length - (c :: q).length) inn d vi 0 false false)[0]? = some (.string (ofL l)) from rfl)
    have k1 := blk_cell hI2.blk (show (scCells l (l.length - (c :: q).length) inn d vi 0 false false)[1]? = some (.int .i64 ((l.length - (c :: q).length : Nat) : Int)) from rfl)
    have f1 := blk_free (j := 1) hI2.blk
    have hgc : (ofL l)[l.length - (c :: q).length]'(by rw [hsz]; exact hkk) = c := (ofL_get l _ _).trans hg
    have hst := hid (fun n => (hI2.drewN n).step)
    have HI2 := hid (fun n => hI2.drewN n)
    have hat2 := hI2.at_
    generalize l.length - (c :: q).length = ps at *
    clear hg hI2 HB
    by_cases hc : c = 93
    · have HE := HU.out
      rw [if_pos hc] at HE
      have HE := hid HE
      subst hc
      clear HU
      go_wp2
      go_quiet (fail)
      go_wp2
      go_ret2
      rw [← HE.out]
      exact ⟨rfl, _, by rw [List.append_nil]; exact hst.out _⟩
    · have hb : ((c.toNat : Int) == 93) = false := beq_eq_false_iff_ne.2 (by have := toNat_neP hc; simp at this; omega)
      have HE := HU.out
      rw [if_neg hc] at HE
      have HE := hid HE
      have hPl : (c :: q).length ≤ 1800000 := by omega
      clear HU hc
      have HF2 := hid hf2
      clear hf2
      go_wp2
      go_quiet (fail)
      go_wp2
      go_loopw [5] (fun n wr => ∃ (k f' : Nat) (acc : List It) (p' : List UInt8) (vi' : Value), n = .int .i64 (k : Int) ∧ k + p'.length ≤ (c :: q).length + 1 ∧ Hid (SC B w0 wr l p' inn d vi' (its ++ acc) 0 false false) ∧ Hid (rGo d f' inn (.valsGo k acc) p' = U ∧ need (.valsGo k acc) p' ≤ f' ∧ f' ≤ f ∧ its.length + acc.length + p'.length ≤ 8000000)) (fun _ wr => l.length - atOf wr B)
      case atStart => exact ⟨1, f, [], c :: q, vi, rfl, by omega, hid (by rw [List.append_nil]; exact HI2.out _), hid ⟨HE.out, HF2.out, Nat.le_refl _, by simp; omega⟩⟩
      case round =>
        clear k0 k1 f1 hst HI2
        obtain ⟨k, f', acc, p', vi', rfl, hk, hI, hT⟩ := hrel
        cases f' with
        | zero => exact absurd hT.out.2.1 (by unfold need; simp only; omega)
        | succ f' =>
          have hA := hid hI.out.atOf
          have hat := hI.out.at_
          have hneed : need .val p' ≤ f' := by have := hT.out.2.1; unfold need at this ⊢; simp only at this ⊢; omega
          have HC1 := hid (H1.out f' _ vi' (its ++ acc) p' (by have := hT.out.2.2.1; omega) hneed (by rw [List.length_append]; exact hT.out.2.2.2) hI.out)
          have hlen := hid (rGo_len d f' inn .val p')
          have hsf := hid (rGo_suf d f' inn .val p')
          have hG := hT.out.1
          rw [rGo_valsGo] at hG
          have HG := hid hG
          clear hG hneed
          cases hr : rGo d f' inn .val p' with
          | wrong e q3 =>
            rw [hr] at HC1 HG
            clear hr hlen hsf
            go_wp2_with fail
            refine Calls.mono HC1.out ?_
            rintro x w3 ⟨rfl, vi3, more, hC⟩
            have HC := hid hC
            clear hC
            go_wp2
            go_ret2
            rw [← HG.out]
            exact ⟨0, rfl, vi3, acc ++ more, by rw [← List.append_assoc]; exact HC.out⟩
          | ended la =>
            rw [hr] at HC1 HG
            clear hr hlen hsf
            go_wp2_with fail
            refine Calls.mono HC1.out ?_
            rintro x w3 ⟨rfl, vi3, more, hC⟩
            have HC := hid hC
            clear hC
            go_wp2
            go_ret2
            rw [← HG.out]
            exact ⟨0, rfl, vi3, acc ++ more, by rw [← List.append_assoc]; exact HC.out⟩
          | ok a1 new p3 =>
            rw [hr] at HC1 HG hlen hsf
            clear hr
            have hln : new.length + p3.length ≤ 0 + p'.length := hlen.out
            have hps : p3.length ≤ p'.length := List.IsSuffix.length_le hsf.out
            clear hlen hsf
            go_wp2_with fail
            refine Calls.mono HC1.out ?_
            rintro x w3 ⟨rfl, vi3, hC⟩
            have HBe := hid (rbehind_any B w0 w3 l p3 93 inn d vi3 _ (by omega) hC)
            have hsk3 := (skipB_suf p3).length_le
            clear hC
            have HG2 := HG.out
            have HQ := hid (show ∀ b q, behOut 93 p3 = .ok b q → q.length + 1 ≤ p3.length from fun b q hb => by
              unfold behOut at hb
              cases hy : skipB p3 with
              | nil => rw [hy] at hb; cases hb
              | cons c q =>
                rw [hy] at hb hsk3
                simp only at hb
                split at hb
                · cases hb; exact hsk3
                split at hb
                · cases hb; exact hsk3
                · cases hb)
            cases hb : behOut 93 p3 with
            | wrong e q3 =>
              rw [hb] at HBe HG2
              have HG3 := hid HG2
              clear hb HG2 HG HQ
              go_wp2_with fail
              refine Calls.mono HBe.out ?_
              rintro x w4 ⟨rfl, hC⟩
              unfold bBad
              have HC := hid hC
              clear hC
              go_wp2
              go_ret2
              rw [← HG3.out]
              exact ⟨k, rfl, vi3, acc ++ new, by rw [← List.append_assoc]; exact HC.out⟩
            | ended =>
              rw [hb] at HBe HG2
              have HG3 := hid HG2
              clear hb HG2 HG HQ
              go_wp2_with fail
              refine Calls.mono HBe.out ?_
              rintro x w4 ⟨rfl, hC⟩
              unfold bBad
              have HC := hid hC
              clear hC
              go_wp2
              go_ret2
              rw [← HG3.out]
              exact ⟨k, rfl, vi3, acc ++ new, by rw [← List.append_assoc]; exact HC.out⟩
            | ok b q3 =>
              have hq3 := HQ.out b q3 hb
              rw [hb] at HBe HG2
              clear hb HG HQ
              cases b with
              | true =>
                have HG3 := hid HG2
                clear HG2
                go_wp2_with fail
                refine Calls.mono HBe.out ?_
                rintro x w4 ⟨rfl, hC⟩
                unfold bGood
                have HC := hid hC
                clear hC
                go_wp2
                go_ret2
                rw [← HG3.out]
                exact ⟨rfl, vi3, by rw [← List.append_assoc]; exact HC.out⟩
              | false =>
                have HG3 := hid HG2
                clear HG2
                go_wp2_with fail
                refine Calls.mono HBe.out ?_
                rintro x w4 ⟨rfl, hC⟩
                unfold bGood
                have HC := hid hC
                clear hC
                go_wp2
                exact ⟨⟨k + 1, f', acc ++ new, q3, vi3, rfl, by omega, hid (by rw [← List.append_assoc]; exact HC.out), hid ⟨HG3.out, by have := hT.out.2.1; unfold need at this ⊢; simp only at this ⊢; omega, by have := hT.out.2.2.1; omega, by have := hT.out.2.2.2; rw [List.length_append]; omega⟩⟩, by rw [HC.out.atOf, hA.out]; have := HC.out.at_; omega⟩
theorem rGo_pairs_nil {d f inn : Nat} {p : List UInt8} (h : skipB p = []) : rGo d (f + 1) inn .pairs p = .ended false := by
  rw [rGo.eq_def]; simp only; rw [h]
theorem rGo_pairs_cons {d f inn : Nat} {p q : List UInt8} {c : UInt8} (h : skipB p = c :: q) : rGo d (f + 1) inn .pairs p = if c = 125 then .ok 0 [] q else rGo d f inn (.pairsGo 1 []) (c :: q) := by
  rw [rGo.eq_def]; simp only; rw [h]
/-- one round: what is behind the next one -/
theorem rGo_pairsGo {d f inn n : Nat} {acc : List It} {p : List UInt8} : rGo d (f + 1) inn (.pairsGo n acc) p = match rGo d f inn .pair p with
    | .wrong e q => .wrong e q
    | .ended l => .ended l
    | .ok _ its p => match behOut 125 p with
      | .ended => .ended false
      | .wrong e q => .wrong e q
      | .ok true q => .ok n (acc ++ its) q
      | .ok false q => rGo d f inn (.pairsGo (n + 1) (acc ++ its)) q := by
  rw [rGo.eq_def]
  simp only
  cases rGo d f inn .pair p with
  | wrong e q => rfl
  | ended l => rfl
  | ok k its p =>
    simp only
    unfold behOut
    cases skipB p with
    | nil => rfl
    | cons c q =>
      simp only
      by_cases h1 : c = 125
      · rw [if_pos h1, if_pos h1]
      · rw [if_neg h1, if_neg h1]
        by_cases h2 : c = 44
        · rw [if_pos h2, if_pos h2]
        · rw [if_neg h2, if_neg h2]
set_option maxRecDepth 100000 in
set_option maxHeartbeats 40000000 in
theorem pairs_any (B : Nat) (w0 w : World) (l p : List UInt8) (f inn d : Nat) (vi : Value) (its : List It) (hl : l.length ≤ 1800000) (hil : its.length + p.length ≤ 8000000) (hf : need .pairs p ≤ f + 1) (h : SC B w0 w l p inn d vi its 0 false false)
    (h1 : ∀ (f' : Nat) (w' : World) (vi' : Value) (its' : List It) (p' : List UInt8), f' ≤ f → need .pair p' ≤ f' → its'.length + p'.length ≤ 8000000 → SC B w0 w' l p' inn d vi' its' 0 false false → Calls Tryz.prog 97 #[.pointer (some ⟨B, 0, none⟩)] w' (IPost B w0 l inn d its' (rGo d f' inn .pair p'))) :
    Calls Tryz.prog 71 #[.pointer (some ⟨B, 0, none⟩)] w (NPost B w0 l inn d its (rGo d (f + 1) inn .pairs p)) := by
  have HB := hid (blanks_any B w0 w l p inn d _ its 0 false false (by omega) h)
  have hsz := ofL_size l
  have hpl := h.at_
  have H1 := hid h1
  have hsk := (skipB_suf p).length_le
  cases hx : skipB p with
  | nil =>
    rw [rGo_pairs_nil hx]
    rw [hx] at HB
    clear h hx h1
    go_enter Tryz.func71, Tryz.ntmps71
    go_wp2_with fail
    refine Calls.mono HB.out ?_
    rintro x w2 ⟨rfl, hC⟩
    have HC := hid hC
    clear hC
    go_wp2
    go_ret2
    exact ⟨0, rfl, _, [], by rw [List.append_nil]; exact HC.out⟩
  | cons c q =>
    rw [rGo_pairs_cons hx]
    rw [hx] at HB hsk
    have hq : q.length + 1 ≤ p.length := hsk
    have hcl : c.toNat < 256 := c.toNat_lt
    obtain ⟨U, hU⟩ : ∃ U, (if c = 125 then RV.ok 0 [] q else rGo d f inn (.pairsGo 1 []) (c :: q)) = U := ⟨_, rfl⟩
    rw [hU]
    have HU := hid hU
    have hf2 : need (.pairsGo 1 []) (c :: q) ≤ f := by unfold need at hf ⊢; simp only [List.length_cons] at hf ⊢; omega
    have hil2 : its.length + (c :: q).length ≤ 8000000 := by simp only [List.length_cons]; omega
    clear h hx h1 hU hsk hf
    go_enter Tryz.func71, Tryz.ntmps71
    go_wp2_with fail
    refine Calls.mono HB.out ?_
    rintro x w2 ⟨rfl, hC⟩
    have hI2 : SC B w0 w2 l (c :: q) inn d vi its 0 false false := hC
    clear hC
    obtain ⟨hkk, hg⟩ := suf_get hI2.suf
    have k0 := blk_cell hI2.blk (show (scCells l (l.length - (c :: q).length) inn d vi 0 false false)[0]? = some (.string (ofL l)) from rfl)
    have k1 := blk_cell hI2.blk (show (scCells l (l.length - (c :: q).length) inn d vi 0 false false)[1]? = some (.int .i64 ((l.length - (c :: q).length : Nat) : Int)) from rfl)
    have f1 := blk_free (j := 1) hI2.blk
    have hgc : (ofL l)[l.length - (c :: q).length]'(by rw [hsz]; exact hkk) = c := (ofL_get l _ _).trans hg
    have hst := hid (fun n => (hI2.drewN n).step)
    have HI2 := hid (fun n => hI2.drewN n)
    have hat2 := hI2.at_
    generalize l.length - (c :: q).length = ps at *
    clear hg hI2 HB
    by_cases hc : c = 125
    · have HE := HU.out
      rw [if_pos hc] at HE
      have HE := hid HE
      subst hc
      clear HU
      go_wp2
      go_quiet (fail)
      go_wp2
      go_ret2
      rw [← HE.out]
      exact ⟨rfl, _, by rw [List.append_nil]; exact hst.out _⟩
    · have hb : ((c.toNat : Int) == 125) = false := beq_eq_false_iff_ne.2 (by have := toNat_neP hc; simp at this; omega)
      have HE := HU.out
      rw [if_neg hc] at HE
      have HE := hid HE
      have hPl : (c :: q).length ≤ 1800000 := by omega
      clear HU hc
      have HF2 := hid hf2
      clear hf2
      go_wp2
      go_quiet (fail)
      go_wp2
      go_loopw [5] (fun n wr => ∃ (k f' : Nat) (acc : List It) (p' : List UInt8) (vi' : Value), n = .int .i64 (k : Int) ∧ k + p'.length ≤ (c :: q).length + 1 ∧ Hid (SC B w0 wr l p' inn d vi' (its ++ acc) 0 false false) ∧ Hid (rGo d f' inn (.pairsGo k acc) p' = U ∧ need (.pairsGo k acc) p' ≤ f' ∧ f' ≤ f ∧ its.length + acc.length + p'.length ≤ 8000000)) (fun _ wr => l.length - atOf wr B)
      case atStart => exact ⟨1, f, [], c :: q, vi, rfl, by omega, hid (by rw [List.append_nil]; exact HI2.out _), hid ⟨HE.out, HF2.out, Nat.le_refl _, by simp; omega⟩⟩
      case round =>
        clear k0 k1 f1 hst HI2
        obtain ⟨k, f', acc, p', vi', rfl, hk, hI, hT⟩ := hrel
        cases f' with
        | zero => exact absurd hT.out.2.1 (by unfold need; simp only; omega)
        | succ f' =>
          have hA := hid hI.out.atOf
          have hat := hI.out.at_
          have hneed : need .pair p' ≤ f' := by have := hT.out.2.1; unfold need at this ⊢; simp only at this ⊢; omega
          have HC1 := hid (H1.out f' _ vi' (its ++ acc) p' (by have := hT.out.2.2.1; omega) hneed (by rw [List.length_append]; exact hT.out.2.2.2) hI.out)
          have hlen := hid (rGo_len d f' inn .pair p')
          have hsf := hid (rGo_suf d f' inn .pair p')
          have hG := hT.out.1
          rw [rGo_pairsGo] at hG
          have HG := hid hG
          clear hG hneed
          cases hr : rGo d f' inn .pair p' with
          | wrong e q3 =>
            rw [hr] at HC1 HG
            clear hr hlen hsf
            go_wp2_with fail
            refine Calls.mono HC1.out ?_
            rintro x w3 ⟨rfl, vi3, more, hC⟩
            have HC := hid hC
            clear hC
            go_wp2
            go_ret2
            rw [← HG.out]
            exact ⟨0, rfl, vi3, acc ++ more, by rw [← List.append_assoc]; exact HC.out⟩
          | ended la =>
            rw [hr] at HC1 HG
            clear hr hlen hsf
            go_wp2_with fail
            refine Calls.mono HC1.out ?_
            rintro x w3 ⟨rfl, vi3, more, hC⟩
            have HC := hid hC
            clear hC
            go_wp2
            go_ret2
            rw [← HG.out]
            exact ⟨0, rfl, vi3, acc ++ more, by rw [← List.append_assoc]; exact HC.out⟩
          | ok a1 new p3 =>
            rw [hr] at HC1 HG hlen hsf
            clear hr
            have hln : new.length + p3.length ≤ 0 + p'.length := hlen.out
            have hps : p3.length ≤ p'.length := List.IsSuffix.length_le hsf.out
            clear hlen hsf
            go_wp2_with fail
            refine Calls.mono HC1.out ?_
            rintro x w3 ⟨rfl, vi3, hC⟩
            have HBe := hid (rbehind_any B w0 w3 l p3 125 inn d vi3 _ (by omega) hC)
            have hsk3 := (skipB_suf p3).length_le
            clear hC
            have HG2 := HG.out
            have HQ := hid (show ∀ b q, behOut 125 p3 = .ok b q → q.length + 1 ≤ p3.length from fun b q hb => by
              unfold behOut at hb
              cases hy : skipB p3 with
              | nil => rw [hy] at hb; cases hb
              | cons c q =>
                rw [hy] at hb hsk3
                simp only at hb
                split at hb
                · cases hb; exact hsk3
                split at hb
                · cases hb; exact hsk3
                · cases hb)
            cases hb : behOut 125 p3 with
            | wrong e q3 =>
              rw [hb] at HBe HG2
              have HG3 := hid HG2
              clear hb HG2 HG HQ
              go_wp2_with fail
              refine Calls.mono HBe.out ?_
              rintro x w4 ⟨rfl, hC⟩
              unfold bBad
              have HC := hid hC
              clear hC
              go_wp2
              go_ret2
              rw [← HG3.out]
              exact ⟨k, rfl, vi3, acc ++ new, by rw [← List.append_assoc]; exact HC.out⟩
            | ended =>
              rw [hb] at HBe HG2
              have HG3 := hid HG2
              clear hb HG2 HG HQ
              go_wp2_with fail
              refine Calls.mono HBe.out ?_
              rintro x w4 ⟨rfl, hC⟩
              unfold bBad
              have HC := hid hC
              clear hC
              go_wp2
              go_ret2
              rw [← HG3.out]
              exact ⟨k, rfl, vi3, acc ++ new, by rw [← List.append_assoc]; exact HC.out⟩
            | ok b q3 =>
              have hq3 := HQ.out b q3 hb
              rw [hb] at HBe HG2
              clear hb HG HQ
              cases b with
              | true =>
                have HG3 := hid HG2
                clear HG2
                go_wp2_with fail
                refine Calls.mono HBe.out ?_
                rintro x w4 ⟨rfl, hC⟩
                unfold bGood
                have HC := hid hC
                clear hC
                go_wp2
                go_ret2
                rw [← HG3.out]
                exact ⟨rfl, vi3, by rw [← List.append_assoc]; exact HC.out⟩
              | false =>
                have HG3 := hid HG2
                clear HG2
                go_wp2_with fail
                refine Calls.mono HBe.out ?_
                rintro x w4 ⟨rfl, hC⟩
                unfold bGood
                have HC := hid hC
                clear hC
                go_wp2
                exact ⟨⟨k + 1, f', acc ++ new, q3, vi3, rfl, by omega, hid (by rw [← List.append_assoc]; exact HC.out), hid ⟨HG3.out, by have := hT.out.2.1; unfold need at this ⊢; simp only at this ⊢; omega, by have := hT.out.2.2.1; omega, by have := hT.out.2.2.2; rw [List.length_append]; omega⟩⟩, by rw [HC.out.atOf, hA.out]; have := HC.out.at_; omega⟩
end Go.Proofs.YtmkkibaacclhnaaGreat
