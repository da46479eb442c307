/-
  A step of the walk, the part named Uf. No theorem of the row.
-/
import Derived.Test.YtmkkibaacclhnaaGreatUa
import Derived.Test.YtmkkibaacclhnaaGreatSv
namespace Go.Proofs.YtmkkibaacclhnaaGreat
open Go.RowKit

def stLen : Option (Nat × List UInt8) → Nat
  | some (_, l) => l.length
  | none => 0
def stOk (st : Option (Nat × List UInt8)) : Prop := ∀ d l, st = some (d, l) → 1 ≤ d ∧ d ≤ 1000
/-- both were fed -/
theorem DAt.fed {C : Nat} {F FA : Nat → Prop} {w w1 w2 w3 : World} {d : Nat} {l l' : List UInt8} {A R : Nat} (h : DAt C F w (some (d, l)) A R FA) (h1 : Fr (fun _ => False) w w1) (hp : PAt A (grow FA w1 w2) w2 (some (d, l'))) (hf : Fr FA w1 w2)
    (hr : w3.heap[R]? = some (.cells (rpCells d l' false) 85 (0, 0))) (hg : Fr (fun i => i = R) w2 w3) :
    DAt C (grow F w w3) w3 (some (d, l')) A R (grow FA w1 w2) ∧ Fr F w w3 := by
  have s1 := h1.size
  have s2 := hf.size
  have s3 := hg.size
  have hR := h.lt R h.fr
  have hC := h.lt C h.fc
  have nR : ¬ grow FA w1 w2 R := by
    rintro ⟨h2 | h2, _⟩
    · exact h.nr h2
    · omega
  have nC : ¬ grow FA w1 w2 C := by
    rintro ⟨h2 | h2, _⟩
    · exact h.nc h2
    · omega
  have hCR : C ≠ R := by
    rintro rfl
    have h2 := h.blk
    have h3 : w.heap[C]? = some (.cells (rpCells d l false) 85 (0, 0)) := h.ra
    rw [h2] at h3
    injection h3 with h3
    injection h3 with _ h3
    cases h3
  have hfr : Fr F w w3 := ((h1.mono (fun i hi => hi.elim)).trans (hf.mono h.sub)).trans (hg.mono (fun i hi => by subst hi; exact h.fr))
  refine ⟨⟨?_, hp.keep (fun i hi => hg.block i hi.2 (by rintro rfl; exact nR hi)) s3, hr, ?_, ⟨.inl h.fr, by omega⟩, ⟨.inl h.fc, by omega⟩, fun i hi => hi.2, nR, nC⟩, hfr⟩
  · rw [hg.block C (by omega) hCR, hf.block C (by omega) h.nc, h1.block C hC id]
    exact h.blk
  · rintro i ⟨h2 | h2, h3⟩
    · exact ⟨.inl (h.sub i h2), by omega⟩
    · exact ⟨.inr (by omega), by omega⟩
/-- both were closed -/
theorem DAt.shut {C : Nat} {F FA : Nat → Prop} {w w1 w2 w3 : World} {d : Nat} {l : List UInt8} {A R : Nat} (h : DAt C F w (some (d, l)) A R FA) (h1 : Fr (fun _ => False) w w1) (hp : PAt A (fun i => i = A) w2 none) (hf : Fr FA w1 w2)
    (hr : w3.heap[R]? = some (.cells (rpCells d l true) 85 (0, 0))) (hg : Fr (fun i => i = R) w2 w3) :
    DAt C (fun i => i = A ∨ i = R ∨ i = C) w3 none A R (fun i => i = A) ∧ Fr F w w3 ∧ w2.heap[R]? = some (.cells (rpCells d l false) 85 (0, 0)) ∧ FA A := by
  have s1 := h1.size
  have s2 := hf.size
  have s3 := hg.size
  have hR := h.lt R h.fr
  have hC := h.lt C h.fc
  have hFA := h.pa.1
  have hA := h.lt A (h.sub A hFA)
  have hRA : R ≠ A := by rintro rfl; exact h.nr hFA
  have hCA : C ≠ A := by rintro rfl; exact h.nc hFA
  have hCR : C ≠ R := by
    rintro rfl
    have h2 := h.blk
    have h3 : w.heap[C]? = some (.cells (rpCells d l false) 85 (0, 0)) := h.ra
    rw [h2] at h3
    injection h3 with h3
    injection h3 with _ h3
    cases h3
  have hfr : Fr F w w3 := ((h1.mono (fun i hi => hi.elim)).trans (hf.mono h.sub)).trans (hg.mono (fun i hi => by subst hi; exact h.fr))
  refine ⟨⟨?_, hp.keep (fun i hi => hg.block i (by subst hi; omega) (by rintro rfl; exact hRA hi)) s3, ⟨d, l, hr⟩, fun i hi => .inl hi, .inr (.inl rfl), .inr (.inr rfl), ?_, hRA, hCA⟩, hfr, ?_, hFA⟩
  · rw [hg.block C (by omega) hCR, hf.block C (by omega) h.nc, h1.block C hC id]
    exact h.blk
  · rintro i (rfl | rfl | rfl) <;> omega
  · rw [hf.block R (by omega) h.nr, h1.block R hR id]
    exact h.ra
/-- what a step leaves -/
def StPost (b C A R : Nat) (Fb F : Nat → Prop) (n : Nat) (es : List (Value × Int × Nat)) (st : Option (Nat × List UInt8)) (a : Nat) (w w' : World) : Prop :=
  ∃ Fb' F' FA' st' n' v' es', BkAt b Fb' w' n' v' es' ∧ DAt C F' w' st' A R FA' ∧ (∀ i, Fb' i → ¬ F' i) ∧ (∀ i, Fb' i → Fb i ∨ F i ∨ w.heap.size ≤ i) ∧ (∀ i, F' i → F i ∨ w.heap.size ≤ i) ∧
    Fr (fun i => Fb i ∨ F i) w w' ∧ n' ≤ n + 1 ∧ es'.length ≤ es.length + 4 ∧ (∀ e, e ∈ es' → e ∈ es ∨ e.2.2 ≤ 3 * stLen st + 4) ∧ stLen st' ≤ stLen st + a ∧ stOk st'
theorem StPost.keep {b C A R : Nat} {Fb F : Nat → Prop} {n : Nat} {es : List (Value × Int × Nat)} {st : Option (Nat × List UInt8)} {a : Nat} {w w' w'' : World} (h : StPost b C A R Fb F n es st a w w') (hf : Fr (fun _ => False) w' w'') : StPost b C A R Fb F n es st a w w'' := by
  obtain ⟨Fb', F', FA', st', n', v', es', h1, h2, h3, h4, h5, h6, h7⟩ := h
  exact ⟨Fb', F', FA', st', n', v', es', h1.keep (fun i hi => hf.block i (h1.lt i hi) id) hf.size, h2.keep (fun i hi => hf.block i (h2.lt i hi) id) hf.size, h3, h4, h5, h6.trans (hf.mono (fun i hi => hi.elim)), h7⟩
theorem StPost.same {b C A R : Nat} {Fb F FA : Nat → Prop} {n : Nat} {v : Value} {es : List (Value × Int × Nat)} {st : Option (Nat × List UInt8)} {a : Nat} {w w' : World} (hb : BkAt b Fb w n v es) (hd : DAt C F w st A R FA) (hap : ∀ i, Fb i → ¬ F i) (hok : stOk st) (hf : Fr (fun _ => False) w w') : StPost b C A R Fb F n es st a w w' :=
  StPost.keep ⟨Fb, F, FA, st, n, v, es, hb, hd, hap, fun i hi => .inl hi, fun i hi => .inl hi, Fr.refl _ _, by omega, by omega, fun e he => .inl he, by omega, hok⟩ hf
theorem StPost.fed {b C A R : Nat} {Fb F FA : Nat → Prop} {n d : Nat} {l m : List UInt8} {v : Value} {es : List (Value × Int × Nat)} {w w3 : World} (hb : BkAt b Fb w n v es) (hap : ∀ i, Fb i → ¬ F i) (h1 : 1 ≤ d) (h2 : d ≤ 1000)
    (hd : DAt C (grow F w w3) w3 (some (d, l ++ m)) A R FA) (hf : Fr F w w3) : StPost b C A R Fb F n es (some (d, l)) m.length w w3 := by
  refine ⟨Fb, grow F w w3, FA, some (d, l ++ m), n, v, es, hb.keep (fun i hi => hf.block i (hb.lt i hi) (hap i hi)) hf.size, hd, ?_, fun i hi => .inl hi, fun i hi => hi.1, hf.mono (fun i hi => .inr hi), by omega, by omega, fun e he => .inl he, by simp [stLen], ?_⟩
  · rintro i hi ⟨h3 | h3, _⟩
    · exact hap i hi h3
    · have := hb.lt i hi
      omega
  · intro d' l' he
    simp at he
    omega
theorem StPost.take {b C A R : Nat} {Fb F F' FA : Nat → Prop} {n a len : Nat} {V : Value} {es : List (Value × Int × Nat)} {st : Option (Nat × List UInt8)} {w w3 w4 : World} (hD : DAt C F' w3 none A R FA) (hF' : ∀ i, F' i → F i ∨ w.heap.size ≤ i) (hap : ∀ i, Fb i → ¬ F' i) (hfr : Fr F w w3)
    (hV : ∀ i, V.ownBlock = some i → (F i ∨ w.heap.size ≤ i) ∧ ¬ F' i) (hT : TakePost b Fb w3 (n + 1) V es len w4) (hlen : len + 3 ≤ 3 * stLen st + 4) : StPost b C A R Fb F n es st a w w4 := by
  obtain ⟨Fb', v', es', h1, h2, h3, h4, h5⟩ := hT
  have hs := hfr.size
  refine ⟨Fb', F', FA, none, n + 1, v', es', h1, hD.keep (fun i hi => h3.block i (hD.lt i hi) ?_) h3.size, ?_, ?_, hF', ?_, Nat.le_refl _, by omega, ?_, by simp [stLen], ?_⟩
  · rintro (h6 | h6)
    · exact hap i h6 hi
    · exact (hV i h6).2 hi
  · intro i hi hi2
    rcases h4 i hi with h6 | h6 | h6
    · exact hap i h6 hi2
    · exact (hV i h6).2 hi2
    · have := hD.lt i hi2
      omega
  · intro i hi
    rcases h4 i hi with h6 | h6 | h6
    · exact .inl h6
    · exact .inr (hV i h6).1
    · exact .inr (.inr (by omega))
  · refine (hfr.mono (fun i hi => .inr hi)).trans' h3 ?_
    rintro i (h6 | h6)
    · exact .inl (.inl h6)
    · rcases (hV i h6).1 with h7 | h7
      · exact .inl (.inr h7)
      · exact .inr h7
  · intro e he
    rcases h5 e he with h6 | h6
    · exact .inl h6
    · exact .inr (by omega)
  · intro d l he
    cases he
end Go.Proofs.YtmkkibaacclhnaaGreat

namespace Go.Proofs.YtmkkibaacclhnaaGreat
open Go.RowKit

theorem rFin_err (d : Nat) (l : List UInt8) : (rFin d l false).2.1 = errOf (psRun (ps0 d) l) := by
  unfold rFin
  cases hx : psRun (ps0 d) l with
  | error x =>
    obtain ⟨n, c⟩ := x
    by_cases hn : n = 0
    · subst hn
      rw [if_neg (by simp [errOf])]
      rfl
    · rw [if_pos (.inl (by simpa [errOf] using hn))]
      rfl
  | ok s =>
    rw [if_neg (by simp [errOf])]
    rfl
theorem rFin_true (d : Nat) (l : List UInt8) : rFin d l true = psFin (psRun (ps0 d) l) := by
  unfold rFin
  rw [if_pos (.inr rfl)]
/-- the program's parser was fed -/
structure FedA (C A R : Nat) (FA : Nat → Prop) (d : Nat) (l l' : List UInt8) (X : Nat) (cs : Array Value) (w Wx w2 : World) : Prop where
  fx : Fr (fun _ => False) w Wx
  pa : PAt A (grow FA Wx w2) w2 (some (d, l'))
  fr : Fr FA Wx w2
  bc : w2.heap[C]? = some (.cells (pairCells A R) 50 (0, 0))
  br : w2.heap[R]? = some (.cells (rpCells d l false) 85 (0, 0))
  bx : w2.heap[X]? = some (.cells cs 34 (0, 0))
theorem feedA_at {C A R : Nat} {F FA : Nat → Prop} {w Wx : World} {d : Nat} {l : List UInt8} (h : DAt C F w (some (d, l)) A R FA) (m : List UInt8) (h1 : 1 ≤ d) (h2 : d ≤ 1000) (hl : l.length + m.length ≤ 1500000) (hx : Fr (fun _ => False) w Wx) {X : Nat} {cs : Array Value} (hX : Wx.heap[X]? = some (.cells cs 34 (0, 0))) (hs : w.heap.size ≤ X) :
    Calls Tryz.prog 13 #[.pointer (some ⟨A, 0, none⟩), .string (ofL m)] Wx fun e w2 => e = .returned (.int .i64 ((errOf (psRun (ps0 d) (l ++ m)) : Nat) : Int)) ∧ FedA C A R FA d l (l ++ m) X cs w Wx w2 := by
  have hD := h.keep (fun i hi => hx.block i (h.lt i hi) id) hx.size
  refine (hD.pa.feed m h1 h2 hl).mono ?_
  rintro e w2 ⟨he, hp, hf⟩
  refine ⟨he, hx, hp, hf, (hf.block C (hD.lt C hD.fc) hD.nc).trans hD.blk, (hf.block R (hD.lt R hD.fr) hD.nr).trans hD.ra, (hf.block X (lt_of_block hX) ?_).trans hX⟩
  intro hfx
  have := h.lt X (h.sub X hfx)
  omega
theorem feedR_at {C A R : Nat} {F FA : Nat → Prop} {w Wx w2 Wy : World} {d : Nat} {l m : List UInt8} {X : Nat} {cs : Array Value} (h : DAt C F w (some (d, l)) A R FA) (h2 : d ≤ 1000) (hl : l.length + m.length ≤ 1500000) (hA : FedA C A R FA d l (l ++ m) X cs w Wx w2) (hy : Fr (fun _ => False) w2 Wy) :
    Calls Tryz.prog 14 #[.pointer (some ⟨R, 0, none⟩), .string (ofL m)] Wy fun e w3 => e = .returned (.int .i64 ((errOf (psRun (ps0 d) (l ++ m)) : Nat) : Int)) ∧ (DAt C (grow F w w3) w3 (some (d, l ++ m)) A R (grow FA Wx w2) ∧ Fr F w w3) ∧ w3.heap[C]? = some (.cells (pairCells A R) 50 (0, 0)) ∧ w3.heap[X]? = some (.cells cs 34 (0, 0)) := by
  have hb := (hy.block R (lt_of_block hA.br) id).trans hA.br
  refine (feedRef_yes Wy R d l m (by rw [List.length_append]; omega) h2 hb).mono ?_
  rintro e w3 ⟨he, hr, hf⟩
  rw [rFin_err] at he
  have hf2 : Fr (fun i => i = R) w2 w3 := (hy.mono (fun i hi => hi.elim)).trans hf
  have hd := h.fed hA.fx hA.pa hA.fr hr hf2
  refine ⟨he, hd, hd.1.blk, (hf2.block X (lt_of_block hA.bx) ?_).trans hA.bx⟩
  rintro rfl
  have := hA.br
  rw [hA.bx] at this
  injection this with this
  injection this with _ this
  cases this
/-- the program's parser was closed -/
structure ShutA (C A R : Nat) (FA : Nat → Prop) (d : Nat) (l : List UInt8) (V : Value) (w Wx w2 : World) : Prop where
  fx : Fr (fun _ => False) w Wx
  row : w2.ownsRow 0 59 4 V (psFin (psRun (ps0 d) l)).1.length (itsV (psFin (psRun (ps0 d) l)).1)
  ow : ∀ i, V.ownBlock = some i → FA i ∨ Wx.heap.size ≤ i
  fr : Fr FA Wx w2
  pa : PAt A (fun i => i = A) w2 none
  bc : w2.heap[C]? = some (.cells (pairCells A R) 50 (0, 0))
  br : w2.heap[R]? = some (.cells (rpCells d l false) 85 (0, 0))
theorem closeA_at {C A R : Nat} {F FA : Nat → Prop} {w Wx : World} {d : Nat} {l : List UInt8} (h : DAt C F w (some (d, l)) A R FA) (h1 : 1 ≤ d) (h2 : d ≤ 1000) (hl : l.length ≤ 1500000) (hx : Fr (fun _ => False) w Wx) :
    Calls Tryz.prog 15 #[.pointer (some ⟨A, 0, none⟩)] Wx fun e w2 => ∃ a n c, e = .returned (.tuple #[.slice a n c, .int .i64 ((psFin (psRun (ps0 d) l)).2.1 : Int), .int .i64 ((psFin (psRun (ps0 d) l)).2.2 : Int)]) ∧ ShutA C A R FA d l (.slice a n c) w Wx w2 := by
  have hD := h.keep (fun i hi => hx.block i (h.lt i hi) id) hx.size
  refine (hD.pa.close h1 h2 hl).mono ?_
  rintro e w2 ⟨⟨V, he, hrow, how, hf⟩, hp⟩
  obtain ⟨a, n, c, rfl⟩ := row_shape3 hrow
  exact ⟨a, n, c, he, hx, hrow, how, hf, hp, (hf.block C (hD.lt C hD.fc) hD.nc).trans hD.blk, (hf.block R (hD.lt R hD.fr) hD.nr).trans hD.ra⟩
structure ShutB (C A R : Nat) (F FA : Nat → Prop) (d : Nat) (l : List UInt8) (V M : Value) (w w3 : World) : Prop where
  row : w3.ownsRow 0 59 4 V (psFin (psRun (ps0 d) l)).1.length (itsV (psFin (psRun (ps0 d) l)).1)
  mow : w3.ownsRow 0 59 4 M (psFin (psRun (ps0 d) l)).1.length (itsV (psFin (psRun (ps0 d) l)).1)
  dat : DAt C (fun i => i = A ∨ i = R ∨ i = C) w3 none A R (fun i => i = A)
  fr : Fr F w w3
  ow : ∀ i, V.ownBlock = some i → (F i ∨ w.heap.size ≤ i) ∧ ¬ (i = A ∨ i = R ∨ i = C)
theorem closeR_at {C A R : Nat} {F FA : Nat → Prop} {w Wx w2 : World} {d : Nat} {l : List UInt8} {V : Value} (h : DAt C F w (some (d, l)) A R FA) (h2 : d ≤ 1000) (hl : l.length ≤ 1500000) (hA : ShutA C A R FA d l V w Wx w2) :
    Calls Tryz.prog 16 #[.pointer (some ⟨R, 0, none⟩)] w2 fun e w3 => ∃ a n c, e = .returned (.tuple #[.slice a n c, .int .i64 ((psFin (psRun (ps0 d) l)).2.1 : Int), .int .i64 ((psFin (psRun (ps0 d) l)).2.2 : Int)]) ∧ ShutB C A R F FA d l V (.slice a n c) w w3 := by
  refine (closeRef_yes w2 R d l (by omega) h2 hA.br).mono ?_
  rintro e w3 ⟨M, he, hrow, hb, hf, hn⟩
  rw [rFin_true] at he hrow
  obtain ⟨a, n, c, rfl⟩ := row_shape3 hrow
  obtain ⟨hd, hfr, _, hFA⟩ := h.shut hA.fx hA.pa hA.fr hb hf
  have hvR : V.ownBlock ≠ some R := rowT hA.row hA.br (by decide)
  have hrv := rowSame hA.row (w' := w3) (fun i hi => hf.block i (rowIn hA.row hi) (by rintro rfl; exact hvR hi))
  have s1 := hA.fx.size
  refine ⟨a, n, c, he, hrv, hrow, hd, hfr, fun i hi => ⟨?_, ?_⟩⟩
  · rcases hA.ow i hi with h3 | h3
    · exact .inl (h.sub i h3)
    · exact .inr (by omega)
  · rintro (rfl | rfl | rfl)
    · exact rowT hA.row hA.pa.2.2 (by decide) hi
    · exact hvR hi
    · exact rowT hrv hd.blk (by decide) hi
theorem take_at {b C A R : Nat} {Fb F FA : Nat → Prop} {w w3 : World} {n d : Nat} {v : Value} {es : List (Value × Int × Nat)} {l : List UInt8} {V M : Value} (a : Nat) (hb : BkAt b Fb w n v es) (hD : DAt C F w (some (d, l)) A R FA) (hap : ∀ i, Fb i → ¬ F i) (hB : ShutB C A R F FA d l V M w w3) (h1 : 1 ≤ d) (h2 : d ≤ 1000) (hl : l.length ≤ 1100000) (hn : n ≤ 2000000) (hes : es.length ≤ 8000000) :
    Calls Tryz.prog 17 #[.pointer (some ⟨b, 0, none⟩), V, M] w3 fun x w4 => x = .returned (.bool true) ∧ StPost b C A R Fb F n es (some (d, l)) a w w4 := by
  have hlen := psFin_len d l h1 h2
  have hbk := hb.keep (fun i hi => hB.fr.block i (hb.lt i hi) (hap i hi)) hB.fr.size
  refine (takeItems_any b Fb w3 n v es _ V M hbk hB.row hB.mow ?_ (by omega) hn hes).mono ?_
  · intro i hi hf
    rcases (hB.ow i hi).1 with h3 | h3
    · exact hap i hf h3
    · have := hb.lt i hf
      omega
  · rintro x w4 ⟨hx, hT⟩
    have hFA := hD.pa.1
    refine ⟨hx, StPost.take hB.dat ?_ ?_ hB.fr hB.ow hT (by simp only [stLen]; omega)⟩
    · rintro i (rfl | rfl | rfl)
      · exact .inl (hD.sub _ hFA)
      · exact .inl hD.fr
      · exact .inl hD.fc
    · rintro i hi (rfl | rfl | rfl)
      · exact hap _ hi (hD.sub _ hFA)
      · exact hap _ hi hD.fr
      · exact hap _ hi hD.fc
theorem take_none {b C A R : Nat} {Fb F FA : Nat → Prop} {w w3 : World} {n : Nat} {v : Value} {es : List (Value × Int × Nat)} (a : Nat) (hb : BkAt b Fb w n v es) (hD : DAt C F w none A R FA) (hap : ∀ i, Fb i → ¬ F i) (hf : Fr (fun _ => False) w w3) (hn : n ≤ 2000000) (hes : es.length ≤ 8000000) :
    Calls Tryz.prog 17 #[.pointer (some ⟨b, 0, none⟩), .slice none 0 0, .slice none 0 0] w3 fun x w4 => x = .returned (.bool true) ∧ StPost b C A R Fb F n es none a w w4 := by
  have hbk := hb.keep (fun i hi => hf.block i (hb.lt i hi) id) hf.size
  have hd := hD.keep (fun i hi => hf.block i (hD.lt i hi) id) hf.size
  refine (takeItems_any b Fb w3 n v es [] (.slice none 0 0) (.slice none 0 0) hbk (rnil_row w3) (rnil_row w3) (fun i hi => by cases hi) (by simp) hn hes).mono ?_
  rintro x w4 ⟨hx, hT⟩
  exact ⟨hx, StPost.take hd (fun i hi => .inl hi) hap (hf.mono (fun i hi => hi.elim)) (fun i hi => by cases hi) hT (by simp [stLen])⟩
end Go.Proofs.YtmkkibaacclhnaaGreat

namespace Go.Proofs.YtmkkibaacclhnaaGreat
open Go.RowKit

set_option maxRecDepth 100000 in
set_option maxHeartbeats 40000000 in
theorem step_other (b C : Nat) (w : World) (k H : Int) (m : List UInt8) (h1 : k ≠ 1) (h2 : k ≠ 2) :
    Calls Tryz.prog 6 #[.pointer (some ⟨b, 0, none⟩), .pointer (some ⟨C, 0, none⟩), .agg #[.int .i64 k, .int .i64 H, .string (ofL m)]] w fun x w' => x = .returned (.bool true) ∧ Fr (fun _ => False) w w' := by
  have HF := hid (fun o => (Fr.refl (fun _ => False) w).alloc o)
  go_enter Tryz.func6, Tryz.ntmps6
  go_wp2
  go_ret
  exact ⟨rfl, HF.out _⟩
set_option maxRecDepth 100000 in
set_option maxHeartbeats 40000000 in
theorem step_feed (b C A R : Nat) (F FA : Nat → Prop) (w : World) (d : Nat) (l m : List UInt8) (H : Int) (h : DAt C F w (some (d, l)) A R FA) (h1 : 1 ≤ d) (h2 : d ≤ 1000) (hl : l.length + m.length ≤ 1500000) :
    Calls Tryz.prog 6 #[.pointer (some ⟨b, 0, none⟩), .pointer (some ⟨C, 0, none⟩), .agg #[.int .i64 1, .int .i64 H, .string (ofL m)]] w fun x w' => x = .returned (.bool true) ∧ ∃ FA', DAt C (grow F w w') w' (some (d, l ++ m)) A R FA' ∧ Fr F w w' := by
  have hFx : Fr (fun _ => False) w (w.alloc (.cells #[.int .i64 1, .int .i64 H, .string (ofL m)] 34)) := (Fr.refl _ _).alloc _
  have hX := heap_alloc_new w (.cells #[.int .i64 1, .int .i64 H, .string (ofL m)] 34)
  have J0 : (w.alloc (.cells #[.int .i64 1, .int .i64 H, .string (ofL m)] 34)).cell? ⟨C, 0, none⟩ = some (.pointer (some ⟨A, 0, none⟩)) := blk_cell ((hFx.block C (h.lt C h.fc) id).trans h.blk) rfl
  have J2 : (w.alloc (.cells #[.int .i64 1, .int .i64 H, .string (ofL m)] 34)).cell? ⟨w.heap.size, 2, none⟩ = some (.string (ofL m)) := blk_cell hX rfl
  have HFX := hid hFx
  have HX := hid hX
  have HA := hid (fun (Wx : World) (hx : Fr (fun _ => False) w Wx) (hX : Wx.heap[w.heap.size]? = some (.cells #[.int .i64 1, .int .i64 H, .string (ofL m)] 34 (0, 0))) => feedA_at h m h1 h2 hl hx hX (Nat.le_refl _))
  have HR := hid (fun (Wx w2 Wy : World) (hA : FedA C A R FA d l (l ++ m) w.heap.size #[.int .i64 1, .int .i64 H, .string (ofL m)] w Wx w2) (hy : Fr (fun _ => False) w2 Wy) => feedR_at h h2 hl hA hy)
  have H3 := hid (fun e w => num_any e w)
  obtain ⟨U, hU⟩ : ∃ U, errOf (psRun (ps0 d) (l ++ m)) = U := ⟨_, rfl⟩
  rw [hU] at HA HR
  clear hU h h1 h2 hl hFx hX
  generalize l ++ m = lm at *
  go_enter Tryz.func6, Tryz.ntmps6
  go_wp2_with fail
  go_region_held3 (fun w' => w'.cell? ⟨C, 0, none⟩ = some (.pointer (some ⟨A, 0, none⟩)) ∧ w'.cell? ⟨w.heap.size, 2, none⟩ = some (.string (ofL m))) (first | exact ⟨J0, J2⟩ | exact ⟨m0, m2⟩ | go_keep) (first | (go_at_call 13; refine Calls.mono (HA.out _ (by first | exact HFX.out | exact HFX.out.drew | exact HFX.out.drewN _) (by exact HX.out)) ?_; rintro x w2 ⟨rfl, hA⟩; have m0 : w2.cell? ⟨C, 0, none⟩ = some (.pointer (some ⟨A, 0, none⟩)) := blk_cell hA.bc rfl; have m1 : w2.cell? ⟨C, 1, none⟩ = some (.pointer (some ⟨R, 0, none⟩)) := blk_cell hA.bc rfl; have m2 : w2.cell? ⟨w.heap.size, 2, none⟩ = some (.string (ofL m)) := blk_cell hA.bx rfl; have HFA := hid hA; clear hA))
  all_goals
    go_wp2_with fail
    go_region_held3 (fun w' => w'.cell? ⟨C, 1, none⟩ = some (.pointer (some ⟨R, 0, none⟩)) ∧ w'.cell? ⟨w.heap.size, 2, none⟩ = some (.string (ofL m))) (first | exact ⟨m1, m2⟩ | exact ⟨n1, n2⟩ | go_keep) (first | (go_at_call 14; refine Calls.mono (HR.out _ _ _ HFA.out (by first | exact Fr.refl _ _ | exact (Fr.refl _ _).drew | exact (Fr.refl _ _).drewN _)) ?_; rintro x w3 ⟨rfl, hd, hc, hx⟩; have n1 : w3.cell? ⟨C, 1, none⟩ = some (.pointer (some ⟨R, 0, none⟩)) := blk_cell hc rfl; have n2 : w3.cell? ⟨w.heap.size, 2, none⟩ = some (.string (ofL m)) := blk_cell hx rfl; have HD := hid hd; clear hd hc hx))
    all_goals
      go_wp2_with (first | (go_at_call 10; refine Calls.mono (H3.out _ _) ?_; rintro x w4 ⟨rfl, rfl⟩) | fail)
      go_ret
      exact ⟨by simp, _, HD.out⟩
set_option maxRecDepth 100000 in
set_option maxHeartbeats 40000000 in
theorem step_feed_shut (b C A R : Nat) (F FA : Nat → Prop) (w : World) (m : List UInt8) (H : Int) (h : DAt C F w none A R FA) :
    Calls Tryz.prog 6 #[.pointer (some ⟨b, 0, none⟩), .pointer (some ⟨C, 0, none⟩), .agg #[.int .i64 1, .int .i64 H, .string (ofL m)]] w fun x w' => x = .returned (.bool true) ∧ Fr (fun _ => False) w w' := by
  have hFx : Fr (fun _ => False) w (w.alloc (.cells #[.int .i64 1, .int .i64 H, .string (ofL m)] 34)) := (Fr.refl _ _).alloc _
  have hX := heap_alloc_new w (.cells #[.int .i64 1, .int .i64 H, .string (ofL m)] 34)
  have J0 : (w.alloc (.cells #[.int .i64 1, .int .i64 H, .string (ofL m)] 34)).cell? ⟨C, 0, none⟩ = some (.pointer (some ⟨A, 0, none⟩)) := blk_cell ((hFx.block C (h.lt C h.fc) id).trans h.blk) rfl
  have J2 : (w.alloc (.cells #[.int .i64 1, .int .i64 H, .string (ofL m)] 34)).cell? ⟨w.heap.size, 2, none⟩ = some (.string (ofL m)) := blk_cell hX rfl
  obtain ⟨d, l, hra⟩ := h.ra
  have HFX := hid hFx
  have HX := hid hX
  have HA := hid (fun (Wx : World) (hx : Fr (fun _ => False) w Wx) => feed_shut Wx A m ((hx.block A (h.lt A (h.sub A h.pa.1)) id).trans h.pa.2.2))
  have HR := hid (fun (Wy : World) (hy : Fr (fun _ => False) w Wy) => feedRef_no Wy R d l m ((hy.block R (h.lt R h.fr) id).trans hra))
  have HC := hid (fun (Wy : World) (hy : Fr (fun _ => False) w Wy) => (hy.block C (h.lt C h.fc) id).trans h.blk)
  have H3 := hid (fun e w => num_any e w)
  clear h hFx hX hra
  go_enter Tryz.func6, Tryz.ntmps6
  go_wp2_with fail
  go_region_held3 (fun w' => w'.cell? ⟨C, 0, none⟩ = some (.pointer (some ⟨A, 0, none⟩)) ∧ w'.cell? ⟨w.heap.size, 2, none⟩ = some (.string (ofL m))) (first | exact ⟨J0, J2⟩ | exact ⟨m0, m2⟩ | go_keep) (first | (go_at_call 13; refine Calls.mono (HA.out _ (by first | exact HFX.out | exact HFX.out.drew | exact HFX.out.drewN _)) ?_; rintro x w2 ⟨rfl, hf⟩; have hf2 : Fr (fun _ => False) w w2 := HFX.out.drew.trans hf; have m0 : w2.cell? ⟨C, 0, none⟩ = some (.pointer (some ⟨A, 0, none⟩)) := blk_cell (HC.out _ hf2) rfl; have m1 : w2.cell? ⟨C, 1, none⟩ = some (.pointer (some ⟨R, 0, none⟩)) := blk_cell (HC.out _ hf2) rfl; have m2 : w2.cell? ⟨w.heap.size, 2, none⟩ = some (.string (ofL m)) := blk_cell ((hf.block _ (lt_of_block HX.out) id).trans HX.out) rfl; have HF2 := hid hf2; clear hf hf2))
  all_goals
    go_wp2_with fail
    go_region_held3 (fun w' => w'.cell? ⟨C, 1, none⟩ = some (.pointer (some ⟨R, 0, none⟩)) ∧ w'.cell? ⟨w.heap.size, 2, none⟩ = some (.string (ofL m))) (first | exact ⟨m1, m2⟩ | go_keep) (first | (go_at_call 14; refine Calls.mono (HR.out _ (by first | exact HF2.out | exact HF2.out.drew | exact HF2.out.drewN _)) ?_; rintro x w3 ⟨rfl, rfl⟩))
    all_goals
      go_wp2_with (first | (go_at_call 10; refine Calls.mono (H3.out _ _) ?_; rintro x w4 ⟨rfl, rfl⟩) | fail)
      go_ret
      exact ⟨by simp, by first | exact HF2.out | exact HF2.out.drew | exact HF2.out.drewN _⟩
set_option maxRecDepth 100000 in
set_option maxHeartbeats 40000000 in
theorem step_close (b C A R : Nat) (Fb F FA : Nat → Prop) (w : World) (n d : Nat) (v : Value) (es : List (Value × Int × Nat)) (l m : List UInt8) (H : Int) (hb : BkAt b Fb w n v es) (h : DAt C F w (some (d, l)) A R FA) (hap : ∀ i, Fb i → ¬ F i) (h1 : 1 ≤ d) (h2 : d ≤ 1000) (hl : l.length ≤ 1100000) (hn : n ≤ 2000000) (hes : es.length ≤ 8000000) :
    Calls Tryz.prog 6 #[.pointer (some ⟨b, 0, none⟩), .pointer (some ⟨C, 0, none⟩), .agg #[.int .i64 2, .int .i64 H, .string (ofL m)]] w fun x w' => x = .returned (.bool true) ∧ StPost b C A R Fb F n es (some (d, l)) m.length w w' := by
  have hFx : Fr (fun _ => False) w (w.alloc (.cells #[.int .i64 2, .int .i64 H, .string (ofL m)] 34)) := (Fr.refl _ _).alloc _
  have J0 : (w.alloc (.cells #[.int .i64 2, .int .i64 H, .string (ofL m)] 34)).cell? ⟨C, 0, none⟩ = some (.pointer (some ⟨A, 0, none⟩)) := blk_cell ((hFx.block C (h.lt C h.fc) id).trans h.blk) rfl
  have HA := hid (closeA_at h h1 h2 (by omega) hFx)
  have HR := hid (fun (V : Value) (w2 : World) (hA : ShutA C A R FA d l V w (w.alloc (.cells #[.int .i64 2, .int .i64 H, .string (ofL m)] 34)) w2) => closeR_at h h2 (by omega) hA)
  have HT := hid (fun (V M : Value) (w3 : World) (hB : ShutB C A R F FA d l V M w w3) => take_at m.length hb h hap hB h1 h2 hl hn hes)
  have H3 := hid (fun e w => num_any e w)
  obtain ⟨U, hU⟩ : ∃ U, (psFin (psRun (ps0 d) l)).2.1 = U := ⟨_, rfl⟩
  obtain ⟨U2, hU2⟩ : ∃ U, (psFin (psRun (ps0 d) l)).2.2 = U := ⟨_, rfl⟩
  rw [hU, hU2] at HA HR
  clear hU hU2 hb h hap h1 h2 hl hFx hn hes
  go_enter Tryz.func6, Tryz.ntmps6
  go_wp2_with (first
    | (go_at_call 15; refine Calls.mono HA.out ?_; rintro x w2 ⟨a1, n1, c1, rfl, hA⟩; have m1 : w2.cell? ⟨C, 1, none⟩ = some (.pointer (some ⟨R, 0, none⟩)) := blk_cell hA.bc rfl; have HFA := hid hA; clear hA)
    | (go_at_call 16; refine Calls.mono (HR.out _ _ HFA.out) ?_; rintro x w3 ⟨a2, n2, c2, rfl, hB⟩; have HB := hid hB; clear hB)
    | (go_at_call 17; refine Calls.mono (HT.out _ _ _ HB.out) ?_; rintro x w4 ⟨rfl, hS⟩; have HS := hid hS; clear hS)
    | (go_at_call 10; refine Calls.mono (H3.out _ _) ?_; rintro x w5 ⟨rfl, rfl⟩)
    | fail)
  go_ret
  exact ⟨by simp, HS.out⟩
set_option maxRecDepth 100000 in
set_option maxHeartbeats 40000000 in
theorem step_close_shut (b C A R : Nat) (Fb F FA : Nat → Prop) (w : World) (n : Nat) (v : Value) (es : List (Value × Int × Nat)) (m : List UInt8) (H : Int) (hb : BkAt b Fb w n v es) (h : DAt C F w none A R FA) (hap : ∀ i, Fb i → ¬ F i) (hn : n ≤ 2000000) (hes : es.length ≤ 8000000) :
    Calls Tryz.prog 6 #[.pointer (some ⟨b, 0, none⟩), .pointer (some ⟨C, 0, none⟩), .agg #[.int .i64 2, .int .i64 H, .string (ofL m)]] w fun x w' => x = .returned (.bool true) ∧ StPost b C A R Fb F n es none m.length w w' := by
  have hFx : Fr (fun _ => False) w (w.alloc (.cells #[.int .i64 2, .int .i64 H, .string (ofL m)] 34)) := (Fr.refl _ _).alloc _
  have J0 : (w.alloc (.cells #[.int .i64 2, .int .i64 H, .string (ofL m)] 34)).cell? ⟨C, 0, none⟩ = some (.pointer (some ⟨A, 0, none⟩)) := blk_cell ((hFx.block C (h.lt C h.fc) id).trans h.blk) rfl
  have J1 : (w.alloc (.cells #[.int .i64 2, .int .i64 H, .string (ofL m)] 34)).cell? ⟨C, 1, none⟩ = some (.pointer (some ⟨R, 0, none⟩)) := blk_cell ((hFx.block C (h.lt C h.fc) id).trans h.blk) rfl
  obtain ⟨d, l, hra⟩ := h.ra
  have HA := hid (close_shut _ A ((hFx.block A (h.lt A (h.sub A h.pa.1)) id).trans h.pa.2.2))
  have HR := hid (closeRef_no _ R d l ((hFx.block R (h.lt R h.fr) id).trans hra))
  have HT := hid (take_none m.length hb h hap hFx hn hes)
  have H3 := hid (fun e w => num_any e w)
  clear hb h hap hFx hn hes hra
  go_enter Tryz.func6, Tryz.ntmps6
  go_wp2_with (first
    | (go_at_call 15; refine Calls.mono HA.out ?_; rintro x w2 ⟨rfl, rfl⟩)
    | (go_at_call 16; refine Calls.mono HR.out ?_; rintro x w3 ⟨rfl, rfl⟩)
    | (go_at_call 17; refine Calls.mono HT.out ?_; rintro x w4 ⟨rfl, hS⟩; have HS := hid hS; clear hS)
    | (go_at_call 10; refine Calls.mono (H3.out _ _) ?_; rintro x w5 ⟨rfl, rfl⟩)
    | fail)
  go_ret
  exact ⟨by simp, HS.out⟩
/-- one step, whatever it is -/
theorem step_any (b C A R : Nat) (Fb F FA : Nat → Prop) (w : World) (n : Nat) (v : Value) (es : List (Value × Int × Nat)) (st : Option (Nat × List UInt8)) (k H : Int) (m : List UInt8) (hb : BkAt b Fb w n v es) (h : DAt C F w st A R FA) (hap : ∀ i, Fb i → ¬ F i) (hok : stOk st) (hl : stLen st + m.length ≤ 1100000) (hn : n ≤ 2000000) (hes : es.length ≤ 8000000) :
    Calls Tryz.prog 6 #[.pointer (some ⟨b, 0, none⟩), .pointer (some ⟨C, 0, none⟩), .agg #[.int .i64 k, .int .i64 H, .string (ofL m)]] w fun x w' => x = .returned (.bool true) ∧ StPost b C A R Fb F n es st m.length w w' := by
  by_cases k1 : k = 1
  · subst k1
    cases st with
    | none =>
      refine (step_feed_shut b C A R F FA w m H h).mono ?_
      rintro x w' ⟨hx, hf⟩
      exact ⟨hx, StPost.same hb h hap hok hf⟩
    | some x =>
      obtain ⟨d, l⟩ := x
      obtain ⟨h1, h2⟩ := hok d l rfl
      simp only [stLen] at hl
      refine (step_feed b C A R F FA w d l m H h h1 h2 (by omega)).mono ?_
      rintro x w' ⟨hx, FA', hd, hf⟩
      exact ⟨hx, StPost.fed hb hap h1 h2 hd hf⟩
  · by_cases k2 : k = 2
    · subst k2
      cases st with
      | none => exact step_close_shut b C A R Fb F FA w n v es m H hb h hap hn hes
      | some x =>
        obtain ⟨d, l⟩ := x
        obtain ⟨h1, h2⟩ := hok d l rfl
        simp only [stLen] at hl
        exact step_close b C A R Fb F FA w n d v es l m H hb h hap h1 h2 (by omega) hn hes
    · refine (step_other b C w k H m k1 k2).mono ?_
      rintro x w' ⟨hx, hf⟩
      exact ⟨hx, StPost.same hb h hap hok hf⟩
end Go.Proofs.YtmkkibaacclhnaaGreat
