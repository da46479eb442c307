/-
  A step of the walk of the numbers, the part named Tok. No theorem of the row.
-/
import Derived.Test.YtldihimiblndcaaMathC
namespace Go.Proofs.Ytldihimiblndcaa
open Go.RowKit

def sgP (neg : Bool) : List UInt8 := if neg then [45] else []
def frP (fr : List UInt8) : List UInt8 := if fr = [] then [] else 46 :: fr
def exP (s ex : List UInt8) : List UInt8 := if ex = [] then [] else 101 :: (s ++ ex)
/-- a sign of an exponent -/
def SgOk (s : List UInt8) (en : Bool) : Prop := (s = [] ∧ en = false) ∨ (s = [43] ∧ en = false) ∨ (s = [45] ∧ en = true)
def AllD (l : List UInt8) : Prop := ∀ c ∈ l, isD c = true
/-- nothing, or no digit first -/
def NoD (l : List UInt8) : Prop := ∀ c, l.head? = some c → isD c = false

theorem takeWhile_app {a b : List UInt8} (ha : AllD a) (hb : NoD b) : (a ++ b).takeWhile isD = a ∧ (a ++ b).dropWhile isD = b := by
  induction a with
  | nil =>
    cases b with
    | nil => exact ⟨rfl, rfl⟩
    | cons c b => have := hb c rfl; simp [this]
  | cons c a ih =>
    have hc := ha c List.mem_cons_self
    obtain ⟨h1, h2⟩ := ih (fun x hx => ha x (List.mem_cons_of_mem _ hx))
    rw [List.cons_append, List.takeWhile_cons, List.dropWhile_cons, hc, if_pos rfl, if_pos rfl, h1, h2]
    exact ⟨rfl, rfl⟩

theorem isD_ne {c d : UInt8} (h : isD c = true) (hd : isD d = false) : c ≠ d := by rintro rfl; rw [h] at hd; cases hd

theorem exP_noD (s ex : List UInt8) : NoD (exP s ex) := by
  unfold exP; split
  · intro c h; cases h
  · intro c h; simp at h; subst h; decide
theorem frP_noD (fr t : List UInt8) (ht : NoD t) : NoD (frP fr ++ t) := by
  unfold frP; split
  · simpa using ht
  · intro c h; simp at h; subst h; decide

theorem cutP_no {c : UInt8} {l : List UInt8} (h : l.head? ≠ some c) : cutP c l = (l, false) := by rw [cutP, if_neg h]
theorem cutP_yes (c : UInt8) (l : List UInt8) : cutP c (c :: l) = (l, true) := by simp [cutP]

theorem head_app {a b : List UInt8} (ha : a ≠ []) : (a ++ b).head? = a.head? := by
  cases a with
  | nil => exact absurd rfl ha
  | cons x a => rfl
theorem head_noD {a b : List UInt8} {c : UInt8} (ha : a ≠ []) (hD : AllD a) (hc : isD c = false) : (a ++ b).head? ≠ some c := by
  cases a with
  | nil => exact absurd rfl ha
  | cons x a =>
    intro h
    simp at h
    subst h
    rw [hD x List.mem_cons_self] at hc; cases hc

theorem cutS_ok {s ex : List UInt8} {en : Bool} (hs : SgOk s en) (he : ex ≠ []) (hD : AllD ex) : cutS (s ++ ex) = (ex, en) := by
  rcases hs with ⟨rfl, rfl⟩ | ⟨rfl, rfl⟩ | ⟨rfl, rfl⟩
  · rw [List.nil_append]
    have h1 := head_noD (b := []) (c := 43) he hD (by decide)
    have h2 := head_noD (b := []) (c := 45) he hD (by decide)
    rw [List.append_nil] at h1 h2
    rw [cutS, cutP_no h1, cutP_no h2]; rfl
  · rw [cutS, List.singleton_append, cutP_yes]; rfl
  · rw [cutS, List.singleton_append, cutP_no (by simp), cutP_yes]; rfl

theorem cutL3_ok {n : Bool} {wh fr s ex : List UInt8} {en : Bool} (hs : SgOk s en) (hD : AllD ex) (he : ex = [] → en = false) : cutL3 n wh fr (exP s ex) = some (n, wh, fr, en, ex) := by
  by_cases h0 : ex = []
  · have hen := he h0
    subst h0; subst hen
    rw [exP, if_pos rfl, cutL3, cutE, cutP_no (by simp), cutP_no (by simp)]
    rfl
  · rw [exP, if_neg h0, cutL3, cutE, cutP_yes]
    simp only [if_true]
    rw [cutS_ok hs h0 hD]
    have := takeWhile_app (b := []) hD (by intro c h; cases h)
    rw [List.append_nil] at this
    rw [this.1, this.2, if_neg h0]
    rfl

theorem cutL2_ok {n : Bool} {wh fr t : List UInt8} (hD : AllD fr) (ht : NoD t) (ht2 : t.head? ≠ some 46) : cutL2 n wh (frP fr ++ t) = cutL3 n wh fr t := by
  by_cases h0 : fr = []
  · subst h0
    rw [frP, if_pos rfl, List.nil_append, cutL2, cutP_no ht2]
    rfl
  · rw [frP, if_neg h0, cutL2, List.cons_append, cutP_yes]
    have := takeWhile_app hD ht
    simp only [if_true]
    rw [this.1, this.2, if_neg h0]

theorem exP_head (s ex : List UInt8) : (exP s ex).head? ≠ some 46 := by
  unfold exP; split <;> simp

theorem cutL_tok {neg : Bool} {wh fr s ex : List UInt8} {en : Bool} (hw : AllD wh) (hf : AllD fr) (hx : AllD ex) (hs : SgOk s en) (he : ex = [] → en = false) (h0 : wh ≠ []) (h1 : ¬ (wh.head? = some 48 ∧ 1 < wh.length)) :
    cutL (sgP neg ++ (wh ++ (frP fr ++ exP s ex))) = some (neg, wh, fr, en, ex) := by
  have hsp := takeWhile_app hw (frP_noD fr _ (exP_noD s ex))
  have hcut : cutP 45 (sgP neg ++ (wh ++ (frP fr ++ exP s ex))) = (wh ++ (frP fr ++ exP s ex), neg) := by
    cases neg
    · rw [sgP, if_neg (by simp), List.nil_append, cutP_no (head_noD h0 hw (by decide))]
    · rw [sgP, if_pos rfl, List.singleton_append, cutP_yes]
  rw [cutL_eq, hcut]
  simp only
  rw [hsp.1, hsp.2, cutL1, if_neg (by intro h; rcases h with h | h; exact h0 h; exact h1 h), cutL2_ok hf (exP_noD s ex) (exP_head s ex), cutL3_ok hs hx he]
end Go.Proofs.Ytldihimiblndcaa
