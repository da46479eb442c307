/-
  A step of the walk of the numbers, the part named Many. No theorem of the row.
-/
import Derived.Test.YtmkkibaacclhnaaFrom
import Derived.Test.YtmkkibaacclhnaaNatD
namespace Go.Proofs.Ytmkkibaacclhnaa
open Go.RowKit

/-- Several naturals in memory, none in another's room: struct block, words' block, value. -/
def Nats (w : World) : List (Nat × Nat × Nat) → Prop
  | [] => True
  | t :: r => Nt w t.1 t.2.1 t.2.2 ∧ (∀ u ∈ r, t.1 ≠ u.1 ∧ t.1 ≠ u.2.1 ∧ t.2.1 ≠ u.1 ∧ t.2.1 ≠ u.2.1) ∧ Nats w r

theorem Nats.perm {w : World} {l l' : List (Nat × Nat × Nat)} (p : l.Perm l') : Nats w l → Nats w l' := by
  induction p with
  | nil => exact id
  | cons x p ih => rintro ⟨h1, h2, h3⟩; exact ⟨h1, fun u hu => h2 u (p.mem_iff.2 hu), ih h3⟩
  | swap x y l =>
    rintro ⟨h1, h2, h3, h4, h5⟩
    refine ⟨h3, ?_, h1, fun u hu => h2 u (List.mem_cons_of_mem _ hu), h5⟩
    intro u hu
    rcases List.mem_cons.1 hu with rfl | hu
    · obtain ⟨a, b, c, d⟩ := h2 x List.mem_cons_self; exact ⟨a.symm, c.symm, b.symm, d.symm⟩
    · exact h4 u hu
  | trans _ _ a b => exact fun h => b (a h)

theorem Nats.nt {w : World} {l : List (Nat × Nat × Nat)} (h : Nats w l) : ∀ t ∈ l, Nt w t.1 t.2.1 t.2.2 := by
  induction l with
  | nil => intro t ht; cases ht
  | cons x r ih =>
    intro t ht
    rcases List.mem_cons.1 ht with rfl | ht
    · exact h.1
    · exact ih h.2.2 t ht

theorem Nats.frame {w w' : World} {l : List (Nat × Nat × Nat)} {S : Nat → Prop} (h : Nats w l) (hf : Fr S w w') (hS : ∀ t ∈ l, ¬ S t.1 ∧ ¬ S t.2.1) : Nats w' l := by
  induction l with
  | nil => trivial
  | cons x r ih => exact ⟨h.1.frame hf (hS x List.mem_cons_self).1 (hS x List.mem_cons_self).2, h.2.1, ih h.2.2 (fun t ht => hS t (List.mem_cons_of_mem _ ht))⟩

/-- The naturals (struct block, value) that a call works with, since the world w0: it has touched blocks of S and new ones alone; A: blocks that are none of theirs. -/
def Sx (S A : Nat → Prop) (w0 w : World) (l : List (Nat × Nat)) : Prop :=
  ∃ L : List (Nat × Nat × Nat), L.map (fun t => (t.1, t.2.2)) = l ∧ Nats w L ∧ Fr S w0 w ∧ (∀ t ∈ L, ((S t.1 ∨ w0.heap.size ≤ t.1) ∧ (S t.2.1 ∨ w0.heap.size ≤ t.2.1)) ∧ ¬ A t.1 ∧ ¬ A t.2.1) ∧ ∀ i, A i → i < w.heap.size

theorem Sx.fr {S A : Nat → Prop} {w0 w : World} {l : List (Nat × Nat)} (h : Sx S A w0 w l) : Fr S w0 w := h.choose_spec.2.2.1

theorem map_perm {α β : Type} (f : α → β) {L : List α} {l' : List β} (p : (L.map f).Perm l') : ∃ L', L.Perm L' ∧ L'.map f = l' := by
  generalize hl : L.map f = l at p
  induction p generalizing L with
  | nil => exact ⟨L, List.Perm.refl _, by simpa using hl⟩
  | cons x p ih =>
    cases L with
    | nil => simp at hl
    | cons y r =>
      simp at hl
      obtain ⟨r', p1, p2⟩ := ih hl.2
      exact ⟨y :: r', p1.cons _, by simp [hl.1, p2]⟩
  | swap x y l =>
    match L, hl with
    | a :: b :: r, hl =>
      simp at hl
      exact ⟨b :: a :: r, List.Perm.swap _ _ _, by simp [hl.1, hl.2.1, hl.2.2]⟩
  | trans _ _ ih1 ih2 =>
    obtain ⟨L1, p1, e1⟩ := ih1 hl
    obtain ⟨L2, p2, e2⟩ := ih2 e1
    exact ⟨L2, p1.trans p2, e2⟩

theorem Sx.perm {S A : Nat → Prop} {w0 w : World} {l l' : List (Nat × Nat)} (h : Sx S A w0 w l) (p : l.Perm l') : Sx S A w0 w l' := by
  obtain ⟨L, rfl, h2, h3, h4, h5⟩ := h
  obtain ⟨L', p', e⟩ := map_perm _ p
  exact ⟨L', e, h2.perm p', h3, fun t ht => h4 t (p'.mem_iff.2 ht), h5⟩
theorem Sx.swap {S A : Nat → Prop} {w0 w : World} {x y : Nat × Nat} {l : List (Nat × Nat)} (h : Sx S A w0 w (x :: y :: l)) : Sx S A w0 w (y :: x :: l) := h.perm (List.Perm.swap _ _ _)

theorem Sx.drewN {S A : Nat → Prop} {w0 w : World} {l : List (Nat × Nat)} (h : Sx S A w0 w l) (m : Nat) : Sx S A w0 (w.drewN m) l := by
  obtain ⟨L, h1, h2, h3, h4, h5⟩ := h
  exact ⟨L, h1, h2.frame (S := fun _ => False) ((Fr.refl _ w).drewN m) (fun _ _ => ⟨id, id⟩), h3.drewN m, h4, h5⟩
theorem Sx.drew {S A : Nat → Prop} {w0 w : World} {l : List (Nat × Nat)} (h : Sx S A w0 w l) : Sx S A w0 w.drew l := h.drewN 1

/-- Something else has been made or written: nothing of the naturals. -/
theorem Sx.other {S A : Nat → Prop} {w0 w w' : World} {l : List (Nat × Nat)} (h : Sx S A w0 w l) {T : Nat → Prop} (hf : Fr T w w') (hT : ∀ i, T i → (S i ∨ w0.heap.size ≤ i)) (hA : ∀ i, T i → A i) : Sx S A w0 w' l := by
  obtain ⟨L, h1, h2, h3, h4, h5⟩ := h
  exact ⟨L, h1, h2.frame hf (fun t ht => ⟨fun e => (h4 t ht).2.1 (hA _ e), fun e => (h4 t ht).2.2 (hA _ e)⟩), h3.trans' hf hT, h4, fun i hi => Nat.lt_of_lt_of_le (h5 i hi) hf.size⟩

/-- A new block that is none of theirs. -/
theorem Sx.alloc {S A : Nat → Prop} {w0 w : World} {l : List (Nat × Nat)} (h : Sx S A w0 w l) (o : Obj) : Sx S (fun i => A i ∨ i = w.heap.size) w0 (w.alloc o) l := by
  obtain ⟨L, h1, h2, h3, h4, h5⟩ := h
  refine ⟨L, h1, h2.frame (S := fun _ => False) ((Fr.refl _ w).alloc o) (fun _ _ => ⟨id, id⟩), h3.alloc o, fun t ht => ⟨(h4 t ht).1, ?_, ?_⟩, ?_⟩
  · rintro (e | e)
    · exact (h4 t ht).2.1 e
    · have := (h2.nt t ht).lt; omega
  · rintro (e | e)
    · exact (h4 t ht).2.2 e
    · have := (h2.nt t ht).lt; omega
  · rintro i (hi | hi)
    · have := h5 i hi; simp; omega
    · simp; omega
theorem Sx.weaken {S A A' : Nat → Prop} {w0 w : World} {l : List (Nat × Nat)} (h : Sx S A w0 w l) (hA : ∀ i, A' i → A i) : Sx S A' w0 w l := by
  obtain ⟨L, h1, h2, h3, h4, h5⟩ := h
  exact ⟨L, h1, h2, h3, fun t ht => ⟨(h4 t ht).1, fun e => (h4 t ht).2.1 (hA _ e), fun e => (h4 t ht).2.2 (hA _ e)⟩, fun i hi => h5 i (hA i hi)⟩
theorem Sx.tail {S A : Nat → Prop} {w0 w : World} {x : Nat × Nat} {l : List (Nat × Nat)} (h : Sx S A w0 w (x :: l)) : Sx S A w0 w l := by
  obtain ⟨L, h1, h2, h3, h4, h5⟩ := h
  cases L with
  | nil => simp at h1
  | cons t r => simp at h1; exact ⟨r, h1.2, h2.2.2, h3, fun u hu => h4 u (List.mem_cons_of_mem _ hu), h5⟩
theorem Sx.start {A : Nat → Prop} (w : World) (hA : ∀ i, A i → i < w.heap.size) : Sx (fun _ => False) A w w [] :=
  ⟨[], rfl, trivial, Fr.refl _ _, by simp, hA⟩

/-- A step that turns the head one. -/
theorem Sx.step {S A : Nat → Prop} {w0 w w' : World} {b N N' : Nat} {l : List (Nat × Nat)} {L : List (Nat × Nat × Nat)} {g g' : Nat} (hL : L.map (fun t => (t.1, t.2.2)) = l)
    (h2 : Nats w ((b, g, N) :: L)) (h3 : Fr S w0 w) (h4 : ∀ t ∈ (b, g, N) :: L, ((S t.1 ∨ w0.heap.size ≤ t.1) ∧ (S t.2.1 ∨ w0.heap.size ≤ t.2.1)) ∧ ¬ A t.1 ∧ ¬ A t.2.1) (h5 : ∀ i, A i → i < w.heap.size)
    (r1 : Nt w' b g' N') (r2 : Fr (fun i => i = b ∨ i = g) w w') (r3 : g' = g ∨ w.heap.size ≤ g') : Sx S A w0 w' ((b, N') :: l) := by
  have hb := h4 _ List.mem_cons_self
  have hlt := h2.nt _ List.mem_cons_self
  have hlt := hlt.lt
  simp only at hb hlt
  refine ⟨(b, g', N') :: L, by simp [hL], ⟨r1, fun u hu => ?_, h2.2.2.frame r2 (fun u hu => ?_)⟩, h3.trans' r2 ?_, ?_, fun i hi => Nat.lt_of_lt_of_le (h5 i hi) r2.size⟩
  · have a := h2.2.1 u hu
    have c := (h2.2.2.nt u hu).lt
    simp only at a ⊢
    omega
  · have a := h2.2.1 u hu
    simp only at a
    omega
  · rintro i (rfl | rfl)
    · exact hb.1.1
    · exact hb.1.2
  · intro t ht
    rcases List.mem_cons.1 ht with rfl | ht
    · refine ⟨⟨hb.1.1, ?_⟩, hb.2.1, ?_⟩
      · rcases r3 with rfl | r3
        · exact hb.1.2
        · have := h3.size; exact .inr (by simp only; omega)
      · rcases r3 with rfl | r3
        · exact hb.2.2
        · intro e; have := h5 _ e; simp only at this; omega
    · exact h4 t (List.mem_cons_of_mem _ ht)

theorem sx_op {S A : Nat → Prop} {w0 w : World} {b N N' f : Nat} {args : Array Value} {l : List (Nat × Nat)} {e0 : Ending}
    (hc : ∀ g, Nt w b g N → Calls Try.prog f args w fun e w' => e = e0 ∧ ∃ g', Nt w' b g' N' ∧ Fr (fun i => i = b ∨ i = g) w w' ∧ (g' = g ∨ w.heap.size ≤ g'))
    (h : Sx S A w0 w ((b, N) :: l)) : Calls Try.prog f args w fun e w' => e = e0 ∧ Sx S A w0 w' ((b, N') :: l) := by
  obtain ⟨L, h1, h2, h3, h4, h5⟩ := h
  cases L with
  | nil => simp at h1
  | cons t L =>
    obtain ⟨b', g, N0⟩ := t
    simp at h1
    obtain ⟨⟨rfl, rfl⟩, h1⟩ := h1
    refine (hc g h2.1).mono ?_
    rintro e w' ⟨rfl, g', r1, r2, r3⟩
    exact ⟨rfl, Sx.step h1 h2 h3 h4 h5 r1 r2 r3⟩

theorem timesPlus_sx {S A : Nat → Prop} {w0 w : World} {l : List (Nat × Nat)} (b N f c : Nat) (hS : Sm N) (hf : f < 4294967296) (hf0 : 0 < f) (hc : c < 4294967296) (h : Sx S A w0 w ((b, N) :: l)) :
    Calls Try.prog 91 #[.pointer (some ⟨b, 0, none⟩), .int .u32 f, .int .u32 c] w fun e w' => e = .returned (.tuple #[]) ∧ Sx S A w0 w' ((b, f * N + c) :: l) :=
  sx_op (fun g hg => timesPlus_nt b g N f c w hS hf hf0 hc hg) h
theorem timesPowerOfTen_sx {S A : Nat → Prop} {w0 w : World} {l : List (Nat × Nat)} (b N k : Nat) (hS : Sm (N * p10 k)) (hk : k ≤ 100000) (h : Sx S A w0 w ((b, N) :: l)) :
    Calls Try.prog 101 #[.pointer (some ⟨b, 0, none⟩), .int .i64 k] w fun e w' => e = .returned (.tuple #[]) ∧ Sx S A w0 w' ((b, N * p10 k) :: l) :=
  sx_op (fun g hg => timesPowerOfTen_nt b g N k w hS hg hk) h
theorem shiftLeft_sx {S A : Nat → Prop} {w0 w : World} {l : List (Nat × Nat)} (b N k : Nat) (hk : k ≤ 30000) (hS : Sm (2 ^ k * N)) (h : Sx S A w0 w ((b, N) :: l)) :
    Calls Try.prog 83 #[.pointer (some ⟨b, 0, none⟩), .int .i64 k] w fun e w' => e = .returned (.tuple #[]) ∧ Sx S A w0 w' ((b, 2 ^ k * N) :: l) :=
  sx_op (fun g hg => shiftLeft_nt b g N k w hk hg hS) h
theorem subtract_sx {S A : Nat → Prop} {w0 w : World} {l : List (Nat × Nat)} (b N c M : Nat) (hS : Sm N) (hS2 : Sm M) (hge : M ≤ N) (h : Sx S A w0 w ((b, N) :: (c, M) :: l)) :
    Calls Try.prog 87 #[.pointer (some ⟨b, 0, none⟩), .pointer (some ⟨c, 0, none⟩)] w fun e w' => e = .returned (.tuple #[]) ∧ Sx S A w0 w' ((b, N - M) :: (c, M) :: l) := by
  obtain ⟨L, h1, h2, h3, h4, h5⟩ := h
  match L, h1 with
  | (b', g, N0) :: (c', h', M0) :: L, e1 =>
    simp at e1
    obtain ⟨⟨rfl, rfl⟩, ⟨rfl, rfl⟩, e1⟩ := e1
    have hd := h2.2.1 _ List.mem_cons_self
    simp only at hd
    refine (subtract_nt b' g c' h' N0 M0 w hS hS2 hge h2.1 h2.2.2.1 hd.1.symm hd.2.2.1.symm hd.2.1.symm hd.2.2.2.symm).mono ?_
    rintro e w' ⟨rfl, r1, r2⟩
    exact ⟨rfl, Sx.step (by simp [e1]) h2 h3 h4 h5 r1 r2 (.inl rfl)⟩
theorem Sx.head {S A : Nat → Prop} {w0 w : World} {l : List (Nat × Nat)} {b N : Nat} (h : Sx S A w0 w ((b, N) :: l)) : ∃ g, Nt w b g N := by
  obtain ⟨L, h1, h2, h3, h4, h5⟩ := h
  match L, h1 with
  | (b', g, N0) :: L, h1 =>
    simp at h1
    obtain ⟨⟨rfl, rfl⟩, h1⟩ := h1
    exact ⟨g, h2.1⟩
theorem compare_sx {S A : Nat → Prop} {w0 w : World} {l l2 : List (Nat × Nat)} (b N c M : Nat) (hS : Sm N) (hS2 : Sm M) (h : Sx S A w0 w ((b, N) :: l)) (h2 : Sx S A w0 w ((c, M) :: l2)) :
    Calls Try.prog 89 #[.pointer (some ⟨b, 0, none⟩), .pointer (some ⟨c, 0, none⟩)] w fun e w' => ∃ r : Int, e = .returned (.int .i64 r) ∧ (r < 0 ↔ N < M) ∧ (r = 0 ↔ N = M) ∧ -1000000 ≤ r ∧ r ≤ 1000000 ∧ ∃ m, w' = w.drewN m := by
  obtain ⟨g, hg⟩ := h.head
  obtain ⟨g2, hg2⟩ := h2.head
  exact compare_nt b g c g2 N M w hS hS2 hg hg2
theorem length_sx {S A : Nat → Prop} {w0 w : World} {l : List (Nat × Nat)} (b N : Nat) (hS : Sm N) (h : Sx S A w0 w ((b, N) :: l)) :
    Calls Try.prog 102 #[.pointer (some ⟨b, 0, none⟩)] w fun e w' => e = .returned (.int .i64 (nlen N : Nat)) ∧ w' = w := by
  obtain ⟨g, hg⟩ := h.head
  exact length_nt b g N w hS hg
/-- One more, new. -/
theorem Sx.more {S A : Nat → Prop} {w0 w w' : World} {l : List (Nat × Nat)} {b g N : Nat} (h : Sx S A w0 w l) (r1 : Nt w' b g N) (r2 : Fr (fun _ => False) w w') (r3 : w.heap.size ≤ b) (r4 : w.heap.size ≤ g) : Sx S A w0 w' ((b, N) :: l) := by
  obtain ⟨L, h1, h2, h3, h4, h5⟩ := h
  have hs := h3.size
  refine ⟨(b, g, N) :: L, by simp [h1], ⟨r1, fun u hu => ?_, h2.frame r2 (fun _ _ => ⟨id, id⟩)⟩, h3.trans' r2 (fun i hi => hi.elim), ?_, fun i hi => Nat.lt_of_lt_of_le (h5 i hi) r2.size⟩
  · have c := (h2.nt u hu).lt
    simp only
    omega
  · intro t ht
    rcases List.mem_cons.1 ht with rfl | ht
    · simp only
      exact ⟨⟨.inr (by omega), .inr (by omega)⟩, fun e => by have := h5 _ e; omega, fun e => by have := h5 _ e; omega⟩
    · exact h4 t ht
theorem newNatural_sx {S A : Nat → Prop} {w0 w : World} {l : List (Nat × Nat)} (n : Nat) (hn : n < 18446744073709551616) (h : Sx S A w0 w l) :
    Calls Try.prog 80 #[.int .u64 n] w fun e w' => ∃ b, e = .returned (.pointer (some ⟨b, 0, none⟩)) ∧ Sx S A w0 w' ((b, n) :: l) ∧ w.heap.size ≤ b ∧ Fr (fun _ => False) w w' := by
  refine (newNatural_nt n w hn).mono ?_
  rintro e w' ⟨b, g, rfl, r1, r2, r3, r4⟩
  exact ⟨b, rfl, h.more r1 r2 r3 r4, r3, r2⟩

end Go.Proofs.Ytmkkibaacclhnaa
