/-
  A step of the walk of the numbers, the part named Pt. No theorem of the row.
-/
import Derived.Test.YtppjiegfcfaahaaTail
namespace Go.Proofs.Ytppjiegfcfaahaa
open Go.RowKit

/-- X is the token that is printed for m -/
def PT (m : Nat) (X : List UInt8) : Prop := (m = 0 ∧ X = [48]) ∨ (m ≠ 0 ∧ ∃ (D : Nat) (pw : Int), Short m D pw ∧ D ≤ 90071992547409920 ∧ -5000 ≤ pw ∧ pw ≤ 5000 ∧ X = layL (dgs D) pw)

theorem print_pt (m : Nat) (hm : m < 9218868437227405312) (w : World) : Calls Try.prog 13 #[.int .u64 m] w fun e w' => ∃ X, PT m X ∧ e = .returned (.tuple #[.string (ofL X), .int .i64 0]) ∧ Fr (fun _ => False) w w' := by
  have hb := u64_andNot_sign m (by omega)
  rw [Nat.mod_eq_of_lt (by omega)] at hb
  have hbn : (m != m) = false := by simp
  by_cases h0 : m = 0
  · refine (print_zero m m w hb h0).mono ?_
    rintro e w' ⟨he, hF⟩
    rw [hbn] at he
    exact ⟨[48], .inl ⟨h0, rfl⟩, he, hF⟩
  · refine (print_num m m w hb h0 hm).mono ?_
    rintro e w' ⟨D, pw, h1, h2, h3, h4, he, hF⟩
    rw [hbn] at he
    exact ⟨_, .inr ⟨h0, D, pw, h1, h2, h3, h4, rfl⟩, he, hF⟩

theorem PT.len {m : Nat} {X : List UInt8} (h : PT m X) : X.length ≤ 100 := by
  rcases h with ⟨_, rfl⟩ | ⟨_, D, pw, _, h2, h3, h4, rfl⟩
  · decide
  · exact layL_len _ _ (dgs_len20 D (by omega)) h3 h4

theorem PT.tok {m : Nat} {X : List UInt8} (h : PT m X) (hm : m < 9218868437227405312) : ∃ wh fr s ex en, Tok X wh fr s ex en ∧ wh.length + fr.length ≤ 100 ∧
    (m = 0 → num (dv wh ++ dv fr) = 0) ∧ (m ≠ 0 → RndAt (num (dv wh ++ dv fr)) (powI (ofL wh) (ofL fr) en (ofL ex) - fr.length) m) := by
  rcases h with ⟨h0, rfl⟩ | ⟨h0, D, pw, h1, h2, h3, h4, rfl⟩
  · have := tok_dgs 0
    rw [dgs_lt (by omega)] at this
    exact ⟨_, _, _, _, _, this, by decide, fun _ => by decide, fun h => absurd h0 h⟩
  · have hr := h1.rnd h0
    have hpos := hr.pos h0
    obtain ⟨p1, p2⟩ := h1.point h0 hm
    obtain ⟨wh, fr, s, ex, en, ht, hlen, hS⟩ := lay_tok D pw (by omega) (dgs_len20 D (by omega)) p1 p2
    exact ⟨wh, fr, s, ex, en, ht, hlen, fun h => absurd h h0, fun _ => hr.same hS⟩

/-- a token whose value rounds to a number is read as it -/
theorem parse_val {t wh fr s ex : List UInt8} {en : Bool} (h : Tok t wh fr s ex en) (hl : t.length ≤ 1000) (hd : wh.length + fr.length ≤ 768) {m : Nat} (hm : m < 9218868437227405312)
    (h0 : m = 0 → num (dv wh ++ dv fr) = 0) (h1 : m ≠ 0 → RndAt (num (dv wh ++ dv fr)) (powI (ofL wh) (ofL fr) en (ofL ex) - fr.length) m) (w : World) :
    Calls Try.prog 10 #[.string (ofL t)] w fun e w' => e = .returned (.tuple #[.int .u64 m, .int .i64 0]) ∧ Fr (fun _ => False) w w' := by
  have hv : parseV false m = (m, 0) := by unfold parseV; rw [if_neg (by omega)]; rfl
  by_cases hz : m = 0
  · refine (parse_zero false h hl hd (h0 hz) w).mono ?_
    rintro e w' ⟨he, hF⟩
    subst hz
    rw [hv] at he
    exact ⟨he, hF⟩
  · refine (parse_tok false h hl hd w).mono ?_
    rintro e w' ⟨r, hr, he, hF⟩
    have := (hr m hz hm).2 (h1 hz)
    subst this
    rw [hv] at he
    exact ⟨he, hF⟩

theorem PT.parse {m : Nat} {X : List UInt8} (h : PT m X) (hm : m < 9218868437227405312) (w : World) : Calls Try.prog 10 #[.string (ofL X)] w fun e w' => e = .returned (.tuple #[.int .u64 m, .int .i64 0]) ∧ Fr (fun _ => False) w w' := by
  obtain ⟨wh, fr, s, ex, en, ht, hl, h0, h1⟩ := h.tok hm
  have := h.len
  exact parse_val ht (by omega) (by omega) hm h0 h1 w

theorem tailL_len (l : List UInt8) : (tailL l).length ≤ 41 := by
  unfold tailL; split
  · simp
  · split <;> decide

theorem PT.parse_tail {m : Nat} {X : List UInt8} (h : PT m X) (hm : m < 9218868437227405312) (w : World) : Calls Try.prog 10 #[.string (ofL (X ++ tailL X))] w fun e w' => e = .returned (.tuple #[.int .u64 m, .int .i64 0]) ∧ Fr (fun _ => False) w w' := by
  obtain ⟨wh, fr, s, ex, en, ht, hl, h0, h1⟩ := h.tok hm
  have := h.len
  have h2 := tailL_len X
  obtain ⟨fr', ht', hc⟩ := tail_tok ht
  have hS := tail_same (wh := wh) ht.no hc
  have hl' : fr'.length ≤ fr.length + 40 := by
    rcases hc with rfl | ⟨_, rfl⟩
    · omega
    · rw [List.length_append]; exact Nat.le_refl _
  refine parse_val ht' (by rw [List.length_append]; omega) (by omega) hm (fun hz => ?_) (fun hz => (h1 hz).same hS) w
  have hz0 := h0 hz
  rcases hc with rfl | ⟨_, rfl⟩
  · exact hz0
  · rw [dv_append, ← List.append_assoc, show dv z40 = List.replicate 40 0 from dv_zeros 40, num_append _ (List.replicate 40 0), num_zeros, hz0, Nat.zero_mul]

theorem PT.apart {m : Nat} {X : List UInt8} (hm : m + 1 < 9218868437227405312) (h : PT m X) (h' : PT (m + 1) X) : False := by
  obtain ⟨wh, fr, s, ex, en, ht, hl, h0, h1⟩ := h.tok (by omega)
  obtain ⟨wh', fr', s', ex', en', ht', hl', h0', h1'⟩ := h'.tok hm
  have c1 := cutL_tok (neg := false) ht.w ht.f ht.x ht.sg ht.no ht.w0 ht.w1
  have c2 := cutL_tok (neg := false) ht'.w ht'.f ht'.x ht'.sg ht'.no ht'.w0 ht'.w1
  rw [← ht.eq] at c1
  rw [← ht'.eq, c1] at c2
  simp only [Option.some.injEq, Prod.mk.injEq, true_and] at c2
  obtain ⟨rfl, rfl, rfl, rfl⟩ := c2
  have h2 := h1' (by omega)
  by_cases hz : m = 0
  · have := h2.pos (by omega)
    have := h0 hz
    omega
  · have := Rnd.uniq (p10_pos _) (h1 hz) h2
    omega
end Go.Proofs.Ytppjiegfcfaahaa
