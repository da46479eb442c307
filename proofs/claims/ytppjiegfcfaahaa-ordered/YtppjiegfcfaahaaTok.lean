/-
  A step of the walk of the numbers, the part named Tok: tokens by their pieces. No theorem of the row.
-/
import Derived.Test.YtppjiegfcfaahaaMathC
namespace Go.Proofs.Ytppjiegfcfaahaa
open Go.RowKit

/-- what stands behind a first byte -/
def cutP (c : UInt8) (l : List UInt8) : List UInt8 × Bool := if l.head? = some c then (l.tail, true) else (l, false)

/-- the mark of an exponent -/
def cutE (l : List UInt8) : List UInt8 × Bool := if (cutP 101 l).2 then ((cutP 101 l).1, true) else cutP 69 l
/-- a sign -/
def cutS (l : List UInt8) : List UInt8 × Bool := if (cutP 43 l).2 then ((cutP 43 l).1, false) else cutP 45 l

/-- the pieces, one behind the other -/
def cutL4 (n : Bool) (wh fr : List UInt8) (en : Bool) (ex r3 : List UInt8) : Option (Bool × List UInt8 × List UInt8 × Bool × List UInt8) := if r3 = [] then some (n, wh, fr, en, ex) else none
def cutL3 (n : Bool) (wh fr r2 : List UInt8) : Option (Bool × List UInt8 × List UInt8 × Bool × List UInt8) :=
  if (cutE r2).2 = true then (if (cutS (cutE r2).1).1.takeWhile isD = [] then none else cutL4 n wh fr (cutS (cutE r2).1).2 ((cutS (cutE r2).1).1.takeWhile isD) ((cutS (cutE r2).1).1.dropWhile isD)) else cutL4 n wh fr false [] r2
def cutL2 (n : Bool) (wh r : List UInt8) : Option (Bool × List UInt8 × List UInt8 × Bool × List UInt8) :=
  if (cutP 46 r).2 = true then (if (cutP 46 r).1.takeWhile isD = [] then none else cutL3 n wh ((cutP 46 r).1.takeWhile isD) ((cutP 46 r).1.dropWhile isD)) else cutL3 n wh [] r
def cutL1 (n : Bool) (wh r : List UInt8) : Option (Bool × List UInt8 × List UInt8 × Bool × List UInt8) :=
  if wh = [] ∨ (wh.head? = some 48 ∧ 1 < wh.length) then none else cutL2 n wh r
/-- the pieces of a text, if it is a token -/
def cutL (l : List UInt8) : Option (Bool × List UInt8 × List UInt8 × Bool × List UInt8) := cutL1 (cutP 45 l).2 ((cutP 45 l).1.takeWhile isD) ((cutP 45 l).1.dropWhile isD)
/-- nothing, or no digit first -/
def NoD (l : List UInt8) : Prop := ∀ c, l.head? = some c → isD c = false

theorem takeWhile_app {a b : List UInt8} (ha : AllD a) (hb : NoD b) : (a ++ b).takeWhile isD = a ∧ (a ++ b).dropWhile isD = b := by
  induction a with
  | nil =>
    cases b with
    | nil => exact ⟨rfl, rfl⟩
    | cons c b => have := hb c rfl; simp [this]
  | cons c a ih =>
    have hc := ha c List.mem_cons_self
    obtain ⟨h1, h2⟩ := ih (fun x hx => ha x (List.mem_cons_of_mem _ hx))
    rw [List.cons_append, List.takeWhile_cons, List.dropWhile_cons, hc, if_pos rfl, if_pos rfl, h1, h2]
    exact ⟨rfl, rfl⟩

theorem isD_ne {c d : UInt8} (h : isD c = true) (hd : isD d = false) : c ≠ d := by rintro rfl; rw [h] at hd; cases hd

theorem exP_noD (s ex : List UInt8) : NoD (exP s ex) := by
  unfold exP; split
  · intro c h; cases h
  · intro c h; simp at h; subst h; decide
theorem frP_noD (fr t : List UInt8) (ht : NoD t) : NoD (frP fr ++ t) := by
  unfold frP; split
  · simpa using ht
  · intro c h; simp at h; subst h; decide

theorem cutP_no {c : UInt8} {l : List UInt8} (h : l.head? ≠ some c) : cutP c l = (l, false) := by rw [cutP, if_neg h]
theorem cutP_yes (c : UInt8) (l : List UInt8) : cutP c (c :: l) = (l, true) := by simp [cutP]

theorem head_app {a b : List UInt8} (ha : a ≠ []) : (a ++ b).head? = a.head? := by
  cases a with
  | nil => exact absurd rfl ha
  | cons x a => rfl
theorem head_noD {a b : List UInt8} {c : UInt8} (ha : a ≠ []) (hD : AllD a) (hc : isD c = false) : (a ++ b).head? ≠ some c := by
  cases a with
  | nil => exact absurd rfl ha
  | cons x a =>
    intro h
    simp at h
    subst h
    rw [hD x List.mem_cons_self] at hc; cases hc

theorem cutS_ok {s ex : List UInt8} {en : Bool} (hs : SgOk s en) (he : ex ≠ []) (hD : AllD ex) : cutS (s ++ ex) = (ex, en) := by
  rcases hs with ⟨rfl, rfl⟩ | ⟨rfl, rfl⟩ | ⟨rfl, rfl⟩
  · rw [List.nil_append]
    have h1 := head_noD (b := []) (c := 43) he hD (by decide)
    have h2 := head_noD (b := []) (c := 45) he hD (by decide)
    rw [List.append_nil] at h1 h2
    rw [cutS, cutP_no h1, cutP_no h2]; rfl
  · rw [cutS, List.singleton_append, cutP_yes]; rfl
  · rw [cutS, List.singleton_append, cutP_no (by simp), cutP_yes]; rfl

theorem cutL3_ok {n : Bool} {wh fr s ex : List UInt8} {en : Bool} (hs : SgOk s en) (hD : AllD ex) (he : ex = [] → en = false) : cutL3 n wh fr (exP s ex) = some (n, wh, fr, en, ex) := by
  by_cases h0 : ex = []
  · have hen := he h0
    subst h0; subst hen
    rw [exP, if_pos rfl, cutL3, cutE, cutP_no (by simp), cutP_no (by simp)]
    rfl
  · rw [exP, if_neg h0, cutL3, cutE, cutP_yes]
    simp only [if_true]
    rw [cutS_ok hs h0 hD]
    have := takeWhile_app (b := []) hD (by intro c h; cases h)
    rw [List.append_nil] at this
    rw [this.1, this.2, if_neg h0]
    rfl

theorem cutL2_ok {n : Bool} {wh fr t : List UInt8} (hD : AllD fr) (ht : NoD t) (ht2 : t.head? ≠ some 46) : cutL2 n wh (frP fr ++ t) = cutL3 n wh fr t := by
  by_cases h0 : fr = []
  · subst h0
    rw [frP, if_pos rfl, List.nil_append, cutL2, cutP_no ht2]
    rfl
  · rw [frP, if_neg h0, cutL2, List.cons_append, cutP_yes]
    have := takeWhile_app hD ht
    simp only [if_true]
    rw [this.1, this.2, if_neg h0]

theorem exP_head (s ex : List UInt8) : (exP s ex).head? ≠ some 46 := by
  unfold exP; split <;> simp

theorem cutL_tok {neg : Bool} {wh fr s ex : List UInt8} {en : Bool} (hw : AllD wh) (hf : AllD fr) (hx : AllD ex) (hs : SgOk s en) (he : ex = [] → en = false) (h0 : wh ≠ []) (h1 : ¬ (wh.head? = some 48 ∧ 1 < wh.length)) :
    cutL (sgP neg ++ (wh ++ (frP fr ++ exP s ex))) = some (neg, wh, fr, en, ex) := by
  have hsp := takeWhile_app hw (frP_noD fr _ (exP_noD s ex))
  have hcut : cutP 45 (sgP neg ++ (wh ++ (frP fr ++ exP s ex))) = (wh ++ (frP fr ++ exP s ex), neg) := by
    cases neg
    · rw [sgP, if_neg (by simp), List.nil_append, cutP_no (head_noD h0 hw (by decide))]
    · rw [sgP, if_pos rfl, List.singleton_append, cutP_yes]
  rw [cutL, hcut]
  simp only
  rw [hsp.1, hsp.2, cutL1, if_neg (by intro h; rcases h with h | h; exact h0 h; exact h1 h), cutL2_ok hf (exP_noD s ex) (exP_head s ex), cutL3_ok hs hx he]
theorem sgP_len (neg : Bool) : (sgP neg).length ≤ 1 := by cases neg <;> simp [sgP]

/-- what Parse answers of a token, by its pieces -/
theorem parse_pieces {neg : Bool} {wh fr s ex : List UInt8} {en : Bool} (hw : AllD wh) (hf : AllD fr) (hx : AllD ex) (hs : SgOk s en) (he : ex = [] → en = false) (h0 : wh ≠ []) (h1 : ¬ (wh.head? = some 48 ∧ 1 < wh.length))
    (w : World) (hl : (sgP neg ++ (wh ++ (frP fr ++ exP s ex))).length ≤ 1000000000000000) :
    Calls Try.prog 10 #[.string (ofL (sgP neg ++ (wh ++ (frP fr ++ exP s ex))))] w fun e w' => ∃ r, NearV (addDs ([], (wh.length : Int) + powI (ofL wh) (ofL fr) en (ofL ex)) (dv wh ++ dv fr)).1 (addDs ([], (wh.length : Int) + powI (ofL wh) (ofL fr) en (ofL ex)) (dv wh ++ dv fr)).2 r ∧
      e = .returned (.tuple #[.int .u64 ((parseV neg r).1 : Nat), .int .i64 ((parseV neg r).2 : Nat)]) ∧ Fr (fun _ => False) w w' := by
  obtain ⟨k, hk, hrun⟩ := run_tok (neg := neg) hw hf hx hs he h0 h1
  refine (parse_run _ w hl).mono ?_
  rintro e w' ⟨⟨hp, _⟩, hF⟩
  obtain ⟨r, hr, rfl⟩ := hp _ hrun hk
  refine ⟨r, ?_, rfl, hF⟩
  have es := addDs_shift ([], (wh.length : Int)) (powI (ofL wh) (ofL fr) en (ofL ex)) (dv wh ++ dv fr)
  simp only at es
  rw [es]
  simp only at hr ⊢
  unfold Tk.at at hr
  simp only at hr
  refine hr.far ?_
  unfold powI
  rw [dig_ofL]
  generalize (addDs ([], (wh.length : Int)) (dv wh ++ dv fr)).2 = P
  generalize num (dv ex) = q
  cases en
  · simp only [Bool.false_eq_true, if_false]; omega
  · simp only [if_true]; omega
end Go.Proofs.Ytppjiegfcfaahaa
