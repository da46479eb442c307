/-
  A step of the walk of the numbers, the part named Trip. No theorem of the row.
-/
import Derived.Test.YtppjiegfcfaahaaTokB
namespace Go.Proofs.Ytppjiegfcfaahaa
open Go.RowKit

theorem parse_tok {t wh fr s ex : List UInt8} {en : Bool} (neg : Bool) (h : Tok t wh fr s ex en) (hl : t.length ≤ 1000) (hd : wh.length + fr.length ≤ 768) (w : World) :
    Calls Try.prog 10 #[.string (ofL (sgP neg ++ t))] w fun e w' => ∃ r, (∀ n, n ≠ 0 → n < 9218868437227405312 → (r = n ↔ RndAt (num (dv wh ++ dv fr)) (powI (ofL wh) (ofL fr) en (ofL ex) - fr.length) n)) ∧
      e = .returned (.tuple #[.int .u64 ((parseV neg r).1 : Nat), .int .i64 ((parseV neg r).2 : Nat)]) ∧ Fr (fun _ => False) w w' := by
  have hlen : (sgP neg ++ (wh ++ (frP fr ++ exP s ex))).length ≤ 1000000000000000 := by
    rw [← h.eq, List.length_append]
    have := sgP_len neg
    omega
  rw [h.eq]
  refine (parse_pieces h.w h.f h.x h.sg h.no h.w0 h.w1 w hlen).mono ?_
  rintro e w' ⟨r, hr, he, hF⟩
  refine ⟨r, fun n hn hn2 => ?_, he, hF⟩
  have := near_iff (by rw [List.length_append, dv_length, dv_length]; exact hd) (by
    intro d hd
    rw [List.mem_append] at hd
    rcases hd with hd | hd
    · exact h.w.digs d hd
    · exact h.f.digs d hd) hn hn2 hr
  rw [this, List.length_append, dv_length, dv_length, show (wh.length : Int) + powI (ofL wh) (ofL fr) en (ofL ex) - ((wh.length + fr.length : Nat) : Int) = powI (ofL wh) (ofL fr) en (ofL ex) - fr.length by omega]

theorem printL_eq (neg : Bool) (t : List UInt8) : printL neg t = sgP neg ++ t := by cases neg <;> rfl

theorem SameV.symm {c d : Nat} {pw qw : Int} (h : SameV c pw d qw) : SameV d qw c pw := Eq.symm h

theorem num_top (l : List UInt8) (hA : AllD l) (h0 : l ≠ []) (hH : l.head? ≠ some 48) : p10 (l.length - 1) ≤ num (dv l) := by
  cases l with
  | nil => exact absurd rfl h0
  | cons c r =>
    have hc := hA c List.mem_cons_self
    have : c.toNat - 48 ≠ 0 := by
      intro h
      apply hH
      unfold isD at hc
      simp at hc
      have : c.toNat = (48 : UInt8).toNat := by show c.toNat = 48; omega
      rw [List.head?_cons, UInt8.toNat_inj.1 this]
    have := num_ge (c.toNat - 48) (dv r) this
    rw [dv_length] at this
    exact this

/-- where the point of what is found lies -/
theorem Short.point {n D : Nat} {pw : Int} (h : Short n D pw) (hn : n ≠ 0) (hn2 : n < 9218868437227405312) : -324 < ((dgs D).length : Int) + pw ∧ ((dgs D).length : Int) + pw < 310 := by
  have hr := h.rnd hn
  have hp := hr.pos hn
  have hlp := dgs_pos D
  have ht := hr.top hn2 (k := (dgs D).length - 1) (by
    have := num_top (dgs D) (allD_dgs D) (by intro h; rw [h] at hlp; simp at hlp) (dgs_head D (by omega))
    rwa [num_dgs] at this)
  have hb := hr.bottom hn (k := (dgs D).length) (by
    have := num_lt _ (allD_dgs D).digs
    rwa [num_dgs, dv_length] at this)
  omega

/-- what is printed is read as the number -/
theorem parse_print {n D : Nat} {pw : Int} (neg : Bool) (h : Short n D pw) (hn : n ≠ 0) (hn2 : n < 9218868437227405312) (hD : D ≤ 90071992547409920) (hp1 : -5000 ≤ pw) (hp2 : pw ≤ 5000) (w : World) :
    Calls Try.prog 10 #[.string (ofL (printL neg (layL (dgs D) pw)))] w fun e w' => e = .returned (.tuple #[.int .u64 ((parseV neg n).1 : Nat), .int .i64 ((parseV neg n).2 : Nat)]) ∧ Fr (fun _ => False) w w' := by
  have hr := h.rnd hn
  have hpos := hr.pos hn
  have hl := dgs_len20 D (by omega)
  obtain ⟨p1, p2⟩ := h.point hn hn2
  obtain ⟨wh, fr, s, ex, en, ht, hlen, hS⟩ := lay_tok D pw (by omega) hl p1 p2
  rw [printL_eq]
  refine (parse_tok neg ht (Nat.le_trans (layL_len _ _ hl hp1 hp2) (by omega)) (by omega) w).mono ?_
  rintro e w' ⟨r, hiff, he, hF⟩
  have : r = n := (hiff n hn hn2).2 (hr.same hS)
  subst this
  exact ⟨he, hF⟩
end Go.Proofs.Ytppjiegfcfaahaa
