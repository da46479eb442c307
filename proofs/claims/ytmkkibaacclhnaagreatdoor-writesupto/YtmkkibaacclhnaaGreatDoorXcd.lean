/-
  A step of the walk, the part named Xcd. No theorem of the row.
-/
import Derived.Test.YtmkkibaacclhnaaGreatDoorWt
import Derived.Test.YtmkkibaacclhnaaGreatDoorWk
import Derived.Lib.ValidLaws
import Derived.Test.YtmkkibaacclhnaaGreatDoorProg
import Derived.Ground.NamesProg
import Derived.WalkKit
import Derived.WalkMore
import Derived.Below
import Derived.Shelf.Lay
import Derived.Shelf.Unicode.ValidAny
import Derived.Test.YtmkkibaacclhnaaGreatDoorCde
import Derived.Laws.IdiomStrings
namespace Go.Proofs.YtmkkibaacclhnaaGreatDoor
open Go.RowKit

theorem get_drop {l r : List UInt8} {k : Nat} {j : Nat} {x : UInt8} (h : l.drop k = r) (hx : r[j]? = some x) : k + j < l.length ∧ (ofL l).get! (k + j) = x := by
  rw [← h, List.getElem?_drop] at hx
  obtain ⟨h1, h2⟩ := List.getElem?_eq_some_iff.1 hx
  refine ⟨h1, ?_⟩
  show (l.toArray)[k + j]! = x
  rw [getElem!_pos l.toArray (k + j) (by simpa using h1)]
  simpa using h2
theorem u8_eq {a : UInt8} {n : Nat} (h : a.toNat = n) : UInt8.ofNat n = a := by rw [← h]; simp
theorem decode_ascii' (l : List UInt8) (k : Nat) (c : UInt8) (r : List UInt8) (h : l.drop k = c :: r) (hc : c.toNat < 128) : Utf8.decode (ofL l) k = (c.toNat, 1) ∧ encR c.toNat = [c] := by
  obtain ⟨h1, h2⟩ := get_drop (j := 0) h rfl
  rw [Nat.add_zero] at h2
  refine ⟨?_, ?_⟩
  · unfold Utf8.decode
    simp only [Nat.add_zero, h2]
    rw [if_pos hc]
  · unfold encR
    rw [if_pos hc, u8_eq rfl]
theorem decode_2 (l : List UInt8) (k : Nat) (c d : UInt8) (r : List UInt8) (h : l.drop k = c :: d :: r) (hc : 192 ≤ c.toNat ∧ c.toNat < 224) (hd : 128 ≤ d.toNat ∧ d.toNat ≤ 191) (hm : 128 ≤ 64 * (c.toNat - 192) + d.toNat - 128) :
    Utf8.decode (ofL l) k = (64 * (c.toNat - 192) + d.toNat - 128, 2) ∧ encR (64 * (c.toNat - 192) + d.toNat - 128) = [c, d] := by
  obtain ⟨_, g0⟩ := get_drop (j := 0) h rfl
  obtain ⟨l1, g1⟩ := get_drop (j := 1) h rfl
  rw [Nat.add_zero] at g0
  have hs := ofL_size l
  refine ⟨?_, ?_⟩
  · unfold Utf8.decode
    simp only [Nat.add_zero, g0, g1, hs]
    rw [if_neg (by omega), if_pos (by simp [l1]; omega), if_pos (by omega)]
    exact Prod.ext (by simp only; omega) rfl
  · unfold encR
    rw [if_neg (by omega), if_pos (by omega), u8_eq (a := c) (by omega), u8_eq (a := d) (by omega)]
theorem decode_3 (l : List UInt8) (k : Nat) (c d e : UInt8) (r : List UInt8) (h : l.drop k = c :: d :: e :: r) (hc : 224 ≤ c.toNat ∧ c.toNat < 240) (hd : 128 ≤ d.toNat ∧ d.toNat ≤ 191) (he : 128 ≤ e.toNat ∧ e.toNat ≤ 191) (n : Nat) (hn : n = 4096 * (c.toNat - 224) + 64 * (d.toNat - 128) + (e.toNat - 128)) (hm : 2048 ≤ n) (hv : n < 55296 ∨ (57344 ≤ n ∧ n ≤ 1114111)) :
    Utf8.decode (ofL l) k = (n, 3) ∧ encR n = [c, d, e] := by
  obtain ⟨_, g0⟩ := get_drop (j := 0) h rfl
  obtain ⟨l1, g1⟩ := get_drop (j := 1) h rfl
  obtain ⟨l2, g2⟩ := get_drop (j := 2) h rfl
  rw [Nat.add_zero] at g0
  have hs := ofL_size l
  refine ⟨?_, ?_⟩
  · unfold Utf8.decode
    simp only [Nat.add_zero, g0, g1, g2, hs]
    have e1 : c.toNat % 16 * 4096 + d.toNat % 64 * 64 + e.toNat % 64 = n := by omega
    have hva : Utf8.valid (n : Int) = true := by unfold Utf8.valid; simp; omega
    rw [if_neg (by omega), if_neg (by simp; omega), if_pos (by simp [l1, l2]; omega), e1, if_pos (by rw [hva]; simp; omega)]
  · unfold encR
    rw [if_neg (by omega), if_neg (by omega), if_pos (by omega), u8_eq (a := c) (by omega), u8_eq (a := d) (by omega), u8_eq (a := e) (by omega)]
theorem decode_4 (l : List UInt8) (k : Nat) (c d e g : UInt8) (r : List UInt8) (h : l.drop k = c :: d :: e :: g :: r) (hc : 240 ≤ c.toNat ∧ c.toNat < 248) (hd : 128 ≤ d.toNat ∧ d.toNat ≤ 191) (he : 128 ≤ e.toNat ∧ e.toNat ≤ 191) (hg : 128 ≤ g.toNat ∧ g.toNat ≤ 191) (n : Nat) (hn : n = 262144 * (c.toNat - 240) + 4096 * (d.toNat - 128) + 64 * (e.toNat - 128) + (g.toNat - 128)) (hm : 65536 ≤ n) (hv : n ≤ 1114111) :
    Utf8.decode (ofL l) k = (n, 4) ∧ encR n = [c, d, e, g] := by
  obtain ⟨_, g0⟩ := get_drop (j := 0) h rfl
  obtain ⟨l1, g1⟩ := get_drop (j := 1) h rfl
  obtain ⟨l2, g2⟩ := get_drop (j := 2) h rfl
  obtain ⟨l3, g3⟩ := get_drop (j := 3) h rfl
  rw [Nat.add_zero] at g0
  have hs := ofL_size l
  refine ⟨?_, ?_⟩
  · unfold Utf8.decode
    simp only [Nat.add_zero, g0, g1, g2, g3, hs]
    have e1 : c.toNat % 8 * 262144 + d.toNat % 64 * 4096 + e.toNat % 64 * 64 + g.toNat % 64 = n := by omega
    have hva : Utf8.valid (n : Int) = true := by unfold Utf8.valid; simp; omega
    rw [if_neg (by omega), if_neg (by simp; omega), if_neg (by simp; omega), if_pos (by simp [l1, l2, l3]; omega), e1, if_pos (by rw [hva]; simp; omega)]
  · unfold encR
    rw [if_neg (by omega), if_neg (by omega), if_neg (by omega), u8_eq (a := c) (by omega), u8_eq (a := d) (by omega), u8_eq (a := e) (by omega), u8_eq (a := g) (by omega)]
/-- one character of a text that is made of characters -/
structure ChAt (l : List UInt8) (k n x : Nat) : Prop where
  n1 : 1 ≤ n
  le : k + n ≤ l.length
  de : Utf8.decode (ofL l) k = (x, n)
  en : encR x = (l.drop k).take n
  va : x < 55296 ∨ (57344 ≤ x ∧ x ≤ 1114111)
  hi : 128 ≤ x → ∀ c, c ∈ (l.drop k).take n → 128 ≤ c.toNat
theorem beg2 {c d : UInt8} (hc : 192 ≤ c.toNat ∧ c.toNat < 224) (h : beginsV [c, d] ≠ 0) : (128 ≤ d.toNat ∧ d.toNat ≤ 191) ∧ 128 ≤ 64 * (c.toNat - 192) + d.toNat - 128 := by
  have h : begN c.toNat [d] ≠ 0 := h
  rw [begN2 hc] at h
  simp only [begGo] at h
  split at h
  · exact absurd rfl h
  · have h : begOk 2 (64 * (c.toNat - 192) + d.toNat - 128) (64 * (c.toNat - 192) + d.toNat - 128) ≠ 0 := h
    by_cases hb : (64 * (c.toNat - 192) + d.toNat - 128) < begLeast 2 ∨ 1114111 < (64 * (c.toNat - 192) + d.toNat - 128) ∨ (55296 ≤ (64 * (c.toNat - 192) + d.toNat - 128) ∧ (64 * (c.toNat - 192) + d.toNat - 128) ≤ 57343)
    · exact absurd (begOk_no hb) h
    · rw [least2] at hb
      omega
theorem beg3 {c d e : UInt8} (hc : 224 ≤ c.toNat ∧ c.toNat < 240) (h : beginsV [c, d, e] ≠ 0) : (128 ≤ d.toNat ∧ d.toNat ≤ 191) ∧ (128 ≤ e.toNat ∧ e.toNat ≤ 191) ∧ 2048 ≤ 4096 * (c.toNat - 224) + 64 * (d.toNat - 128) + (e.toNat - 128) ∧ (4096 * (c.toNat - 224) + 64 * (d.toNat - 128) + (e.toNat - 128) < 55296 ∨ (57344 ≤ 4096 * (c.toNat - 224) + 64 * (d.toNat - 128) + (e.toNat - 128) ∧ 4096 * (c.toNat - 224) + 64 * (d.toNat - 128) + (e.toNat - 128) ≤ 1114111)) := by
  have h : begN c.toNat [d, e] ≠ 0 := h
  rw [begN3 hc] at h
  simp only [begGo] at h
  split at h
  · exact absurd rfl h
  · split at h
    · exact absurd rfl h
    · have h : begOk 3 (64 * (64 * (c.toNat - 224) + d.toNat - 128) + e.toNat - 128) (64 * (64 * (c.toNat - 224) + d.toNat - 128) + e.toNat - 128) ≠ 0 := h
      by_cases hb : (64 * (64 * (c.toNat - 224) + d.toNat - 128) + e.toNat - 128) < begLeast 3 ∨ 1114111 < (64 * (64 * (c.toNat - 224) + d.toNat - 128) + e.toNat - 128) ∨ (55296 ≤ (64 * (64 * (c.toNat - 224) + d.toNat - 128) + e.toNat - 128) ∧ (64 * (64 * (c.toNat - 224) + d.toNat - 128) + e.toNat - 128) ≤ 57343)
      · exact absurd (begOk_no hb) h
      · rw [least3] at hb
        omega
theorem beg4 {c d e g : UInt8} (hc : 240 ≤ c.toNat ∧ c.toNat < 248) (h : beginsV [c, d, e, g] ≠ 0) : (128 ≤ d.toNat ∧ d.toNat ≤ 191) ∧ (128 ≤ e.toNat ∧ e.toNat ≤ 191) ∧ (128 ≤ g.toNat ∧ g.toNat ≤ 191) ∧ 65536 ≤ 262144 * (c.toNat - 240) + 4096 * (d.toNat - 128) + 64 * (e.toNat - 128) + (g.toNat - 128) ∧ 262144 * (c.toNat - 240) + 4096 * (d.toNat - 128) + 64 * (e.toNat - 128) + (g.toNat - 128) ≤ 1114111 := by
  have h : begN c.toNat [d, e, g] ≠ 0 := h
  rw [begN4 hc] at h
  simp only [begGo] at h
  split at h
  · exact absurd rfl h
  · split at h
    · exact absurd rfl h
    · split at h
      · exact absurd rfl h
      · have h : begOk 4 (64 * (64 * (64 * (c.toNat - 240) + d.toNat - 128) + e.toNat - 128) + g.toNat - 128) (64 * (64 * (64 * (c.toNat - 240) + d.toNat - 128) + e.toNat - 128) + g.toNat - 128) ≠ 0 := h
        by_cases hb : (64 * (64 * (64 * (c.toNat - 240) + d.toNat - 128) + e.toNat - 128) + g.toNat - 128) < begLeast 4 ∨ 1114111 < (64 * (64 * (64 * (c.toNat - 240) + d.toNat - 128) + e.toNat - 128) + g.toNat - 128) ∨ (55296 ≤ (64 * (64 * (64 * (c.toNat - 240) + d.toNat - 128) + e.toNat - 128) + g.toNat - 128) ∧ (64 * (64 * (64 * (c.toNat - 240) + d.toNat - 128) + e.toNat - 128) + g.toNat - 128) ≤ 57343)
        · exact absurd (begOk_no hb) h
        · rw [least4] at hb
          omega
theorem u_char (l : List UInt8) (k f : Nat) (c : UInt8) (r : List UInt8) (hl : l.drop k = c :: r) (hu : uGo (f + 1) (c :: r) = true) : ∃ n x, ChAt l k n x ∧ uGo f (l.drop (k + n)) = true := by
  have hlen : l.length = k + (r.length + 1) := by
    have := congrArg List.length hl
    simp at this
    omega
  rw [uGo] at hu
  by_cases hc : c.toNat < 128
  · rw [if_pos hc] at hu
    obtain ⟨h1, h2⟩ := decode_ascii' l k c r hl hc
    refine ⟨1, c.toNat, ⟨Nat.le_refl _, by omega, h1, by rw [hl, h2]; rfl, .inl (by omega), fun h => absurd h (by omega)⟩, ?_⟩
    rw [← List.drop_drop, hl]
    exact hu
  · rw [if_neg hc] at hu
    by_cases h0 : beginsV [c] = 0 ∨ (c :: r).length < beginsV [c]
    · rw [if_pos h0] at hu; cases hu
    · rw [if_neg h0] at hu
      by_cases h2 : beginsV ((c :: r).take (beginsV [c])) = 0
      · rw [if_pos h2] at hu; cases hu
      · rw [if_neg h2] at hu
        have hsz : beginsV [c] = begSize c.toNat := by
          rcases begins_or c [] with h | h
          · exact absurd (.inl h) h0
          · exact h
        rw [hsz] at h0 h2 hu
        have hsz2 : beginsV ((c :: r).take (begSize c.toNat)) = begSize c.toNat := by
          have h3 : 0 < begSize c.toNat := by omega
          obtain ⟨m, hm⟩ : ∃ m, begSize c.toNat = m + 1 := ⟨begSize c.toNat - 1, by omega⟩
          rw [hm] at h2 ⊢
          rw [List.take_succ_cons] at h2 ⊢
          rcases begins_or c (r.take m) with h | h
          · exact absurd h h2
          · rw [h]; exact hm
        rw [hsz2] at hu
        have hd : (c :: r).drop (begSize c.toNat) = l.drop (k + begSize c.toNat) := by rw [← hl, List.drop_drop]
        rw [hd] at hu
        simp only [List.length_cons] at h0
        have h3 : (192 ≤ c.toNat ∧ c.toNat < 224) ∨ (224 ≤ c.toNat ∧ c.toNat < 240) ∨ (240 ≤ c.toNat ∧ c.toNat < 248) := by
          unfold begSize at h0
          by_cases a1 : 192 ≤ c.toNat ∧ c.toNat < 224
          · exact .inl a1
          · by_cases a2 : 224 ≤ c.toNat ∧ c.toNat < 240
            · exact .inr (.inl a2)
            · by_cases a3 : 240 ≤ c.toNat ∧ c.toNat < 248
              · exact .inr (.inr a3)
              · rw [if_neg a1, if_neg a2, if_neg a3] at h0
                simp at h0
        rcases h3 with a | a | a
        · have hs : begSize c.toNat = 2 := (size2 a).1
          rw [hs] at hu h2 h0
          match r, hl, h2, h0 with
          | [], _, _, h0 => simp at h0
          | d :: r, hl, h2, _ =>
            obtain ⟨b1, b2⟩ := beg2 (d := d) a h2
            obtain ⟨q1, q2⟩ := decode_2 l k c d r hl a b1 b2
            refine ⟨2, _, ⟨by omega, by simp at hlen; omega, q1, by rw [hl, q2]; rfl, .inl (by omega), fun _ x hx => ?_⟩, hu⟩
            rw [hl] at hx
            simp at hx
            rcases hx with rfl | rfl <;> omega
        · have hs : begSize c.toNat = 3 := (size3 a).1
          rw [hs] at hu h2 h0
          match r, hl, h2, h0 with
          | [], _, _, h0 => simp at h0
          | [_], _, _, h0 => simp at h0
          | d :: e :: r, hl, h2, _ =>
            obtain ⟨b1, b2, b3, b4⟩ := beg3 (d := d) (e := e) a h2
            obtain ⟨q1, q2⟩ := decode_3 l k c d e r hl a b1 b2 _ rfl b3 b4
            refine ⟨3, _, ⟨by omega, by simp at hlen; omega, q1, by rw [hl, q2]; rfl, b4, fun _ x hx => ?_⟩, hu⟩
            rw [hl] at hx
            simp at hx
            rcases hx with rfl | rfl | rfl <;> omega
        · have hs : begSize c.toNat = 4 := (size4 a).1
          rw [hs] at hu h2 h0
          match r, hl, h2, h0 with
          | [], _, _, h0 => simp at h0
          | [_], _, _, h0 => simp at h0
          | [_, _], _, _, h0 => simp at h0
          | d :: e :: g :: r, hl, h2, _ =>
            obtain ⟨b1, b2, b3, b4, b5⟩ := beg4 (d := d) (e := e) (g := g) a h2
            obtain ⟨q1, q2⟩ := decode_4 l k c d e g r hl a b1 b2 b3 _ rfl b4 b5
            refine ⟨4, _, ⟨by omega, by simp at hlen; omega, q1, by rw [hl, q2]; rfl, .inr ⟨by omega, b5⟩, fun _ x hx => ?_⟩, hu⟩
            rw [hl] at hx
            simp at hx
            rcases hx with rfl | rfl | rfl | rfl <;> omega
theorem quote_high (s : List UInt8) (h : ∀ c, c ∈ s → 128 ≤ c.toNat) : s.flatMap quoteB = s := by
  induction s with
  | nil => rfl
  | cons c s ih =>
    have hc := h c (by simp)
    rw [List.flatMap_cons, ih (fun x hx => h x (by simp [hx]))]
    unfold quoteB
    rw [if_neg (by omega), if_neg (by omega), if_neg (by omega), if_neg (by omega), if_neg (by omega), if_neg (by omega), if_neg (by omega)]
    rfl
theorem ChAt.quote {l : List UInt8} {k n x : Nat} (h : ChAt l k n x) : quoteR x = ((l.drop k).take n).flatMap quoteB := by
  by_cases hx : 128 ≤ x
  · rw [quote_high _ (h.hi hx), ← h.en]
    unfold quoteR
    rw [if_neg (by omega), if_neg (by omega), if_neg (by omega), if_neg (by omega), if_neg (by omega), if_neg (by omega), if_neg (by omega)]
  · have he : encR x = [UInt8.ofNat x] := by unfold encR; rw [if_pos (by omega)]
    rw [← h.en, he, List.flatMap_singleton]
    unfold quoteR quoteB
    rw [he, UInt8.toNat_ofNat_of_lt' (show x < 256 by omega)]
end Go.Proofs.YtmkkibaacclhnaaGreatDoor

namespace Go.Proofs.YtmkkibaacclhnaaGreatDoor
open Go.RowKit

theorem beg2' {c d : UInt8} (hc : 192 ≤ c.toNat ∧ c.toNat < 224) (hd : 128 ≤ d.toNat ∧ d.toNat ≤ 191) (hm : 128 ≤ 64 * (c.toNat - 192) + d.toNat - 128) : beginsV [c] = 2 ∧ beginsV [c, d] = 2 := by
  refine ⟨?_, ?_⟩
  · show begN c.toNat [] = 2
    rw [begN2 hc]
    show begOk 2 (64 * (c.toNat - 192)) (64 * (c.toNat - 192) + 63) = 2
    exact begOk_yes (by rw [least2]; omega)
  · show begN c.toNat [d] = 2
    rw [begN2 hc, begGo_yes (by omega)]
    exact begOk_yes (by rw [least2]; omega)
theorem beg3' {c d e : UInt8} (hc : 224 ≤ c.toNat ∧ c.toNat < 240) (hd : 128 ≤ d.toNat ∧ d.toNat ≤ 191) (he : 128 ≤ e.toNat ∧ e.toNat ≤ 191) (n : Nat) (hn : n = 4096 * (c.toNat - 224) + 64 * (d.toNat - 128) + (e.toNat - 128)) (hm : 2048 ≤ n) (hv : n < 55296 ∨ (57344 ≤ n ∧ n ≤ 1114111)) : beginsV [c] = 3 ∧ beginsV [c, d, e] = 3 := by
  refine ⟨?_, ?_⟩
  · show begN c.toNat [] = 3
    rw [begN3 hc]
    show begOk 3 (64 * (64 * (c.toNat - 224))) (64 * (64 * (c.toNat - 224) + 63) + 63) = 3
    exact begOk_yes (by rw [least3]; omega)
  · show begN c.toNat [d, e] = 3
    rw [begN3 hc, begGo_yes (by omega), begGo_yes (by omega)]
    exact begOk_yes (by rw [least3]; omega)
theorem beg4' {c d e g : UInt8} (hc : 240 ≤ c.toNat ∧ c.toNat < 248) (hd : 128 ≤ d.toNat ∧ d.toNat ≤ 191) (he : 128 ≤ e.toNat ∧ e.toNat ≤ 191) (hg : 128 ≤ g.toNat ∧ g.toNat ≤ 191) (n : Nat) (hn : n = 262144 * (c.toNat - 240) + 4096 * (d.toNat - 128) + 64 * (e.toNat - 128) + (g.toNat - 128)) (hm : 65536 ≤ n) (hv : n ≤ 1114111) : beginsV [c] = 4 ∧ beginsV [c, d, e, g] = 4 := by
  refine ⟨?_, ?_⟩
  · show begN c.toNat [] = 4
    rw [begN4 hc]
    show begOk 4 (64 * (64 * (64 * (c.toNat - 240)))) (64 * (64 * (64 * (c.toNat - 240) + 63) + 63) + 63) = 4
    exact begOk_yes (by rw [least4]; omega)
  · show begN c.toNat [d, e, g] = 4
    rw [begN4 hc, begGo_yes (by omega), begGo_yes (by omega), begGo_yes (by omega)]
    exact begOk_yes (by rw [least4]; omega)
theorem uGo_step {c : UInt8} {r : List UInt8} {k : Nat} (f : Nat) (hc : 128 ≤ c.toNat) (h0 : 0 < k) (hk : k ≤ r.length + 1) (h1 : beginsV [c] = k) (h2 : beginsV ((c :: r).take k) = k) : uGo (f + 1) (c :: r) = uGo f ((c :: r).drop k) := by
  rw [uGo, if_neg (by omega), h1, h2, if_neg (by simp; omega), if_neg (by omega)]
set_option maxRecDepth 100000 in
set_option maxHeartbeats 4000000 in
theorem u_step (f : Nat) (c : UInt8) (r : List UInt8) (h : ¬ ((Lib.decodeL (c :: r)).1 = 65533 ∧ (Lib.decodeL (c :: r)).2 = 1)) : uGo (f + 1) (c :: r) = uGo f ((c :: r).drop (Lib.decodeL (c :: r)).2) := by
  obtain ⟨D, hD⟩ : ∃ D, Lib.decodeL (c :: r) = D := ⟨_, rfl⟩
  rw [hD] at h ⊢
  have hD : Utf8.decode (ofL (c :: r)) 0 = D := hD
  have hs := ofL_size (c :: r)
  have g0 := (get_drop (l := c :: r) (k := 0) (j := 0) (r := c :: r) rfl rfl).2
  unfold Utf8.decode at hD
  rw [Nat.add_zero] at g0
  simp only [Nat.add_zero, hs, g0] at hD
  split at hD
  · rename_i hc
    subst hD
    rw [uGo, if_pos hc]
    rfl
  · rename_i hc
    split at hD
    · rename_i h2
      match r, h2, hD with
      | [], h2, _ => simp at h2
      | d :: r, h2, hD =>
        have g1 := (get_drop (l := c :: d :: r) (k := 0) (j := 1) (r := c :: d :: r) rfl rfl).2
        simp only [g1] at h2 hD
        simp at h2
        split at hD
        · subst hD
          obtain ⟨b1, b2⟩ := beg2' (c := c) (d := d) (by omega) (by omega) (by omega)
          exact uGo_step f (by omega) (by omega) (by simp) b1 b2
        · subst hD; exact absurd ⟨rfl, rfl⟩ h
    · split at hD
      · rename_i h3
        match r, h3, hD with
        | [], h3, _ => simp at h3
        | [_], h3, _ => simp at h3
        | d :: e :: r, h3, hD =>
          have g1 := (get_drop (l := c :: d :: e :: r) (k := 0) (j := 1) (r := c :: d :: e :: r) rfl rfl).2
          have g2 := (get_drop (l := c :: d :: e :: r) (k := 0) (j := 2) (r := c :: d :: e :: r) rfl rfl).2
          simp only [g1, g2] at h3 hD
          simp at h3
          split at hD
          · rename_i hv
            subst hD
            simp [Utf8.valid] at hv
            obtain ⟨b1, b2⟩ := beg3' (c := c) (d := d) (e := e) (by omega) (by omega) (by omega) _ rfl (by omega) (by omega)
            exact uGo_step f (by omega) (by omega) (by simp) b1 b2
          · subst hD; exact absurd ⟨rfl, rfl⟩ h
      · split at hD
        · rename_i h4
          have h4l : 3 < r.length + 1 := by
            simp only [Bool.and_eq_true, decide_eq_true_eq, List.length_cons] at h4
            omega
          obtain ⟨d, e, g, r', hr⟩ : ∃ d e g r', r = d :: e :: g :: r' := by
            rcases r with _ | ⟨d, _ | ⟨e, _ | ⟨g, r⟩⟩⟩
            · simp at h4l
            · simp at h4l
            · simp at h4l
            · exact ⟨d, e, g, r, rfl⟩
          subst hr
          rename List UInt8 => r
          have g1 := (get_drop (l := c :: d :: e :: g :: r) (k := 0) (j := 1) (r := c :: d :: e :: g :: r) rfl rfl).2
          have g2 := (get_drop (l := c :: d :: e :: g :: r) (k := 0) (j := 2) (r := c :: d :: e :: g :: r) rfl rfl).2
          have g3 := (get_drop (l := c :: d :: e :: g :: r) (k := 0) (j := 3) (r := c :: d :: e :: g :: r) rfl rfl).2
          simp only [g1, g2, g3] at h4 hD
          simp at h4
          split at hD
          · rename_i hv
            subst hD
            simp [Utf8.valid] at hv
            obtain ⟨b1, b2⟩ := beg4' (c := c) (d := d) (e := e) (g := g) (by omega) (by omega) (by omega) (by omega) _ rfl (by omega) (by omega)
            exact uGo_step f (by omega) (by omega) (by simp) b1 b2
          · subst hD; exact absurd ⟨rfl, rfl⟩ h
        · subst hD; exact absurd ⟨rfl, rfl⟩ h
theorem u_stop (f : Nat) (c : UInt8) (r : List UInt8) (h : (Lib.decodeL (c :: r)).1 = 65533 ∧ (Lib.decodeL (c :: r)).2 = 1) : uGo (f + 1) (c :: r) = false := by
  by_cases hu : uGo (f + 1) (c :: r) = true
  · obtain ⟨n, x, hC, -⟩ := u_char (c :: r) 0 f c r rfl hu
    have hD : Utf8.decode (ofL (c :: r)) 0 = Lib.decodeL (c :: r) := rfl
    have h1 := hC.de
    rw [hD] at h1
    rw [h1] at h
    obtain ⟨rfl, rfl⟩ := h
    have h2 := congrArg List.length hC.en
    simp [encR] at h2
  · simpa using hu
theorem valid_isU (l : List UInt8) : Lib.validD l = isU l := by
  have main : ∀ n : Nat, ∀ l : List UInt8, l.length ≤ n → Lib.validD l = uGo n l := by
    intro n
    induction n with
    | zero =>
      intro l hl
      have : l = [] := List.eq_nil_of_length_eq_zero (by omega)
      subst this
      rfl
    | succ n ih =>
      intro l hl
      cases l with
      | nil => rfl
      | cons c r =>
        rw [Lib.validD_step _ (by simp)]
        have hw := Lib.decodeL_width (c :: r)
        by_cases h : (Lib.decodeL (c :: r)).1 = 65533 ∧ (Lib.decodeL (c :: r)).2 = 1
        · rw [if_pos h, u_stop n c r h]
        · rw [if_neg h, u_step n c r h]
          refine ih _ ?_
          rw [List.length_drop]
          simp only [List.length_cons] at hl ⊢
          omega
  exact main l.length l (Nat.le_refl _)
end Go.Proofs.YtmkkibaacclhnaaGreatDoor

namespace Go.Proofs.YtmkkibaacclhnaaGreatDoor
open Go.RowKit Go.Shelf

shelf_lay Lays.n196 Nm 196 at Tryz as Tryz.laysValid

/-- the library's two tables, as they are laid -/
def Tabs (w : World) : Prop := Lib.Utf8Tabs (Tryz.laysValid_ren.g 3) (Tryz.laysValid_ren.g 4) w
theorem valid_lib (s : ByteArray) (w : World) (hs : s.size ≤ 9223372036854775807) (hT : Tabs w) :
    Calls Tryz.prog 123 #[.string s] w fun e w' => e = .returned (.bool (Lib.validD s.data.toList)) ∧ Below w.heap.size w w' := Any.utf8_ValidString Tryz.laysValid s w hs hT
end Go.Proofs.YtmkkibaacclhnaaGreatDoor

namespace Go.Proofs.YtmkkibaacclhnaaGreatDoor
open Go.RowKit

/-- without the noughts at the end -/
def strip (l : List UInt8) : List UInt8 := (l.reverse.dropWhile (fun c => decide (c = 48))).reverse
theorem strip_zero (m : List UInt8) : strip (m ++ [48]) = strip m := by simp [strip]
theorem strip_no (m : List UInt8) (c : UInt8) (h : c ≠ 48) : strip (m ++ [c]) = m ++ [c] := by simp [strip, h]
end Go.Proofs.YtmkkibaacclhnaaGreatDoor

namespace Go.Proofs.YtmkkibaacclhnaaGreatDoor
open Go.RowKit

theorem dgs_len1 (n : Nat) (h : n < 10) : (dgs n).length = 1 := by rw [dgs_lt h]; rfl
end Go.Proofs.YtmkkibaacclhnaaGreatDoor

namespace Go.Proofs.YtmkkibaacclhnaaGreatDoor
open Go.RowKit

/-- one more, from the last place on -/
def upR : List UInt8 → List UInt8
  | [] => [49]
  | c :: r => if c.toNat < 57 then UInt8.ofNat (c.toNat + 1) :: r else 48 :: upR r
def upB (l : List UInt8) : List UInt8 := (upR l.reverse).reverse
theorem up_nil : upB [] = [49] := rfl
theorem up_small (p : List UInt8) (c : UInt8) (h : c.toNat < 57) : upB (p ++ [c]) = p ++ [UInt8.ofNat (c.toNat + 1)] := by simp [upB, upR, h]
theorem up_nine (p : List UInt8) (c : UInt8) (h : ¬ c.toNat < 57) : upB (p ++ [c]) = upB p ++ [48] := by simp [upB, upR, h]
theorem up_dgs (M : Nat) : upB (dgs M) = dgs (M + 1) := by
  induction M using Nat.strongRecOn with
  | _ M ih =>
    by_cases h : M < 10
    · rw [dgs_lt h, show [UInt8.ofNat (48 + M)] = [] ++ [UInt8.ofNat (48 + M)] from rfl]
      by_cases h9 : M < 9
      · rw [up_small _ _ (by rw [ofNat_byte M h]; omega), ofNat_byte M h, dgs_lt (by omega)]; rfl
      · obtain rfl : M = 9 := by omega
        rw [up_nine _ _ (by decide), up_nil, dgs_ge (by omega), dgs_lt (by omega)]; rfl
    · rw [dgs_ge h]
      have hm := ofNat_byte (M % 10) (by omega)
      by_cases h9 : M % 10 < 9
      · rw [up_small _ _ (by rw [hm]; omega), hm, dgs_ge (n := M + 1) (by omega), show (M + 1) / 10 = M / 10 by omega, show (M + 1) % 10 = M % 10 + 1 by omega]; rfl
      · rw [up_nine _ _ (by rw [hm]; omega), ih (M / 10) (by omega), dgs_ge (n := M + 1) (by omega), show (M + 1) / 10 = M / 10 + 1 by omega, show (M + 1) % 10 = 0 by omega]; rfl
/-- bytes in memory that may be written -/
def BytesAt (w : World) (g : Nat) (l : List UInt8) : Prop := ∀ j, (h : j < l.length) → w.cell? ⟨g, j, none⟩ = some (.int .u8 ((l[j].toNat : Nat) : Int)) ∧ w.frozen? ⟨g, j, none⟩ = false
theorem BytesAt.set {w : World} {g : Nat} {l l' : List UInt8} (h : BytesAt w g l) (i : Nat) (c : UInt8) (hl : l' = l.set i c) : BytesAt (w.setCell ⟨g, i, none⟩ (.int .u8 ((c.toNat : Nat) : Int))) g l' := by
  subst hl
  intro j hj
  have hj' : j < l.length := by simpa using hj
  obtain ⟨h1, h2⟩ := h j hj'
  refine ⟨?_, by rw [World.frozen?_setCell]; exact h2⟩
  by_cases e : i = j
  · subst e
    rw [World.cell?_setCell_same (h := h1)]
    simp
  · rw [World.cell?_setCell_other (h := fun hh => e (congrArg Addr.off hh)), h1]
    simp [e]
theorem BytesAt.back {w : World} {g cap n : Nat} {l : List UInt8} (h : BytesAt w g l) (hn : l.length = n) : (convert 65 9 (.slice (some ⟨g, 0, none⟩) n cap)).run Tryz.prog w = .ok (.string (ofL l)) w := by
  subst hn
  exact run_convert_bytes_back (P := Tryz.prog) w 65 9 5 ⟨g, 0, none⟩ cap l Tryz.underlying65 Tryz.underlying5 Tryz.underlying9 (fun j hj => by
    have := (h j hj).1
    cases j <;> simpa [Addr.add] using this)
theorem bytes_start (w : World) (l : List UInt8) (cap : Nat) (n m : Nat) (hn : l.length ≤ n) : BytesAt (w.drew.alloc (.cells (bytesRow (ofL l) cap) 5 (n, m))) w.heap.size l := by
  have hh : (w.drew.alloc (.cells (bytesRow (ofL l) cap) 5 (n, m))).heap[w.heap.size]? = some (.cells (bytesRow (ofL l) cap) 5 (n, m)) := heap_alloc_new w.drew _
  intro j hj
  constructor
  · simp only [World.cell?, hh]
    simp [bytesRow, ofL, Array.getElem?_append, hj]
  · simp only [World.frozen?, hh]
    simp
    omega
end Go.Proofs.YtmkkibaacclhnaaGreatDoor
