/-
  A step of the walk, the part named Uh. No theorem of the row.
-/
import Derived.Test.YtmkkibaacclhnaaGreatUf
import Derived.Test.YtmkkibaacclhnaaGreatBuv
namespace Go.Proofs.YtmkkibaacclhnaaGreat
open Go.RowKit

/-- a pair of parsers, or none -/
def PQ (P : Value) (F : Nat → Prop) (w : World) (st : Option (Nat × List UInt8)) : Prop :=
  (P = .pointer none ∧ ∀ i, ¬ F i) ∨ ∃ C A R FA, P = .pointer (some ⟨C, 0, none⟩) ∧ DAt C F w st A R FA
theorem PQ.lt {P : Value} {F : Nat → Prop} {w : World} {st : Option (Nat × List UInt8)} (h : PQ P F w st) : ∀ i, F i → i < w.heap.size := by
  intro i hi
  rcases h with ⟨_, h⟩ | ⟨C, A, R, FA, _, h⟩
  · exact absurd hi (h i)
  · exact h.lt i hi
theorem PQ.keep {P : Value} {F : Nat → Prop} {w w' : World} {st : Option (Nat × List UInt8)} (h : PQ P F w st) (hk : ∀ i, F i → w'.heap[i]? = w.heap[i]?) (hs : w.heap.size ≤ w'.heap.size) : PQ P F w' st := by
  rcases h with h | ⟨C, A, R, FA, hP, h⟩
  · exact .inl h
  · exact .inr ⟨C, A, R, FA, hP, h.keep hk hs⟩
/-- what is known between two steps: so many bytes came, so many steps were made -/
def RdAt (w0 : World) (b : Nat) (P Q S : Value) (t i : Nat) (w : World) : Prop :=
  ∃ Fb Fp Fq Fs n v es sp sq ss, BkAt b Fb w n v es ∧ (PQ P Fp w sp ∧ PQ Q Fq w sq ∧ PQ S Fs w ss) ∧ (∀ j, Fb j → ¬ Fp j ∧ ¬ Fq j ∧ ¬ Fs j) ∧ (∀ j, Fp j → ¬ Fq j ∧ ¬ Fs j) ∧ (∀ j, Fq j → ¬ Fs j) ∧
    (∀ j, Fb j ∨ Fp j ∨ Fq j ∨ Fs j → w0.heap.size ≤ j) ∧ Fr (fun _ => False) w0 w ∧ (stOk sp ∧ stOk sq ∧ stOk ss) ∧ (stLen sp ≤ t ∧ stLen sq ≤ t ∧ stLen ss ≤ t) ∧ n ≤ i ∧ es.length ≤ 4 * i ∧ ∀ e, e ∈ es → e.2.2 ≤ 3300004
theorem RdAt.swap {w0 : World} {b : Nat} {P Q S : Value} {t i : Nat} {w : World} (h : RdAt w0 b P Q S t i w) : RdAt w0 b Q P S t i w := by
  obtain ⟨Fb, Fp, Fq, Fs, n, v, es, sp, sq, ss, h1, ⟨h2, h3, h4⟩, h5, h6, h7, h8, h9, ⟨h10, h11, h12⟩, ⟨h13, h14, h15⟩, h16⟩ := h
  exact ⟨Fb, Fq, Fp, Fs, n, v, es, sq, sp, ss, h1, ⟨h3, h2, h4⟩, fun j hj => ⟨(h5 j hj).2.1, (h5 j hj).1, (h5 j hj).2.2⟩, fun j hj => ⟨fun hp => (h6 j hp).1 hj, h7 j hj⟩, fun j hj => (h6 j hj).2,
    fun j hj => h8 j (by rcases hj with h | h | h | h <;> simp [h]), h9, ⟨h11, h10, h12⟩, ⟨h14, h13, h15⟩, h16⟩
theorem RdAt.rot {w0 : World} {b : Nat} {P Q S : Value} {t i : Nat} {w : World} (h : RdAt w0 b P Q S t i w) : RdAt w0 b S P Q t i w := by
  obtain ⟨Fb, Fp, Fq, Fs, n, v, es, sp, sq, ss, h1, ⟨h2, h3, h4⟩, h5, h6, h7, h8, h9, ⟨h10, h11, h12⟩, ⟨h13, h14, h15⟩, h16⟩ := h
  exact ⟨Fb, Fs, Fp, Fq, n, v, es, ss, sp, sq, h1, ⟨h4, h2, h3⟩, fun j hj => ⟨(h5 j hj).2.2, (h5 j hj).1, (h5 j hj).2.1⟩, fun j hj => ⟨fun hp => (h6 j hp).2 hj, fun hq => h7 j hq hj⟩, fun j hj => (h6 j hj).1,
    fun j hj => h8 j (by rcases hj with h | h | h | h <;> simp [h]), h9, ⟨h12, h10, h11⟩, ⟨h15, h13, h14⟩, h16⟩
theorem RdAt.keep {w0 : World} {b : Nat} {P Q S : Value} {t i : Nat} {w w' : World} (h : RdAt w0 b P Q S t i w) (hf : Fr (fun _ => False) w w') : RdAt w0 b P Q S t i w' := by
  obtain ⟨Fb, Fp, Fq, Fs, n, v, es, sp, sq, ss, h1, ⟨h2, h3, h4⟩, h5, h6, h7, h8, h9, h10⟩ := h
  exact ⟨Fb, Fp, Fq, Fs, n, v, es, sp, sq, ss, h1.keep (fun i hi => hf.block i (h1.lt i hi) id) hf.size, ⟨h2.keep (fun i hi => hf.block i (h2.lt i hi) id) hf.size, h3.keep (fun i hi => hf.block i (h3.lt i hi) id) hf.size, h4.keep (fun i hi => hf.block i (h4.lt i hi) id) hf.size⟩, h5, h6, h7, h8, h9.trans hf, h10⟩
theorem RdAt.mono {w0 : World} {b : Nat} {P Q S : Value} {t i t' i' : Nat} {w : World} (h : RdAt w0 b P Q S t i w) (ht : t ≤ t') (hi : i ≤ i') : RdAt w0 b P Q S t' i' w := by
  obtain ⟨Fb, Fp, Fq, Fs, n, v, es, sp, sq, ss, h1, h2, h5, h6, h7, h8, h9, h10, ⟨h13, h14, h15⟩, h16, h17, h18⟩ := h
  exact ⟨Fb, Fp, Fq, Fs, n, v, es, sp, sq, ss, h1, h2, h5, h6, h7, h8, h9, h10, ⟨by omega, by omega, by omega⟩, by omega, by omega, h18⟩
theorem RdAt.fr {w0 : World} {b : Nat} {P Q S : Value} {t i : Nat} {w : World} (h : RdAt w0 b P Q S t i w) : Fr (fun _ => False) w0 w := by
  obtain ⟨Fb, Fp, Fq, Fs, n, v, es, sp, sq, ss, h1, h2, h5, h6, h7, h8, h9, h10⟩ := h
  exact h9
theorem RdAt.start {w0 w : World} {P Q S : Value} {Fp Fq Fs : Nat → Prop} {sp sq ss : Option (Nat × List UInt8)} (hp : PQ P Fp w sp) (hq : PQ Q Fq w sq) (hs : PQ S Fs w ss) (h1 : ∀ j, Fp j → ¬ Fq j ∧ ¬ Fs j) (h2 : ∀ j, Fq j → ¬ Fs j) (h3 : ∀ j, Fp j ∨ Fq j ∨ Fs j → w0.heap.size ≤ j) (hf : Fr (fun _ => False) w0 w)
    (ho : stOk sp ∧ stOk sq ∧ stOk ss) (hl : stLen sp = 0 ∧ stLen sq = 0 ∧ stLen ss = 0) : RdAt w0 w.heap.size P Q S 0 0 (w.alloc (.cells (bookCells 0 (.slice none 0 0)) 31)) := by
  have hk : ∀ i, i < w.heap.size → (w.alloc (.cells (bookCells 0 (.slice none 0 0)) 31)).heap[i]? = w.heap[i]? := fun i hi => Below.heap_alloc _ _ _ hi
  have hsz : w.heap.size ≤ (w.alloc (.cells (bookCells 0 (.slice none 0 0)) 31)).heap.size := by simp
  refine ⟨_, Fp, Fq, Fs, 0, _, [], sp, sq, ss, BkAt.new w, ⟨hp.keep (fun i hi => hk i (hp.lt i hi)) hsz, hq.keep (fun i hi => hk i (hq.lt i hi)) hsz, hs.keep (fun i hi => hk i (hs.lt i hi)) hsz⟩, ?_, h1, h2, ?_, hf.alloc _, ho, ⟨by omega, by omega, by omega⟩, Nat.le_refl _, by simp, fun e he => by cases he⟩
  · intro j hj
    have hj : j = w.heap.size := hj
    subst hj
    exact ⟨fun h => Nat.lt_irrefl _ (hp.lt _ h), fun h => Nat.lt_irrefl _ (hq.lt _ h), fun h => Nat.lt_irrefl _ (hs.lt _ h)⟩
  · intro j hj
    rcases hj with h | h
    · have h : j = w.heap.size := h
      subst h
      exact hf.size
    · exact h3 j h
/-- a step of the first of them -/
theorem RdAt.step {w0 : World} {b C : Nat} {Q S : Value} {t i : Nat} {w : World} (h : RdAt w0 b (.pointer (some ⟨C, 0, none⟩)) Q S t i w) (k H : Int) (m : List UInt8) (ht : t + m.length ≤ 1100000) (hi : i ≤ 1900000) :
    Calls Tryz.prog 6 #[.pointer (some ⟨b, 0, none⟩), .pointer (some ⟨C, 0, none⟩), .agg #[.int .i64 k, .int .i64 H, .string (ofL m)]] w fun x w' => x = .returned (.bool true) ∧ RdAt w0 b (.pointer (some ⟨C, 0, none⟩)) Q S (t + m.length) (i + 1) w' := by
  obtain ⟨Fb, Fp, Fq, Fs, n, v, es, sp, sq, ss, h1, ⟨h2, h3, h4⟩, h5, h6, h7, h8, h9, ⟨h10, h11, h12⟩, ⟨h13, h14, h15⟩, h16, h17, h18⟩ := h
  rcases h2 with ⟨hP, _⟩ | ⟨C', A, R, FA, hP, hD⟩
  · cases hP
  · obtain rfl : C = C' := by simpa using hP
    refine (step_any b C A R Fb Fp FA w n v es sp k H m h1 hD (fun j hj => (h5 j hj).1) h10 (by omega) (by omega) (by omega)).mono ?_
    rintro x w' ⟨hx, Fb', F', FA', st', n', v', es', g1, g2, g3, g4, g5, g6, g7, g8, g9, g10, g11⟩
    have hq : ∀ j, Fq j → ¬ (Fb j ∨ Fp j) := fun j hj hh => hh.elim (fun hb => (h5 j hb).2.1 hj) (fun hp => (h6 j hp).1 hj)
    have hs : ∀ j, Fs j → ¬ (Fb j ∨ Fp j) := fun j hj hh => hh.elim (fun hb => (h5 j hb).2.2 hj) (fun hp => (h6 j hp).2 hj)
    have hsz := h9.size
    refine ⟨hx, Fb', F', Fq, Fs, n', v', es', st', sq, ss, g1, ⟨.inr ⟨C, A, R, FA', rfl, g2⟩, h3.keep (fun j hj => g6.block j (h3.lt j hj) (hq j hj)) g6.size, h4.keep (fun j hj => g6.block j (h4.lt j hj) (hs j hj)) g6.size⟩, ?_, ?_, h7, ?_, ?_, ⟨g11, h11, h12⟩, ⟨by omega, by omega, by omega⟩, by omega, by omega, ?_⟩
    · intro j hj
      refine ⟨g3 j hj, fun hh => ?_, fun hh => ?_⟩
      · rcases g4 j hj with h | h | h
        · exact hq j hh (.inl h)
        · exact hq j hh (.inr h)
        · have := h3.lt j hh; omega
      · rcases g4 j hj with h | h | h
        · exact hs j hh (.inl h)
        · exact hs j hh (.inr h)
        · have := h4.lt j hh; omega
    · intro j hj
      refine ⟨fun hh => ?_, fun hh => ?_⟩
      · rcases g5 j hj with h | h
        · exact hq j hh (.inr h)
        · have := h3.lt j hh; omega
      · rcases g5 j hj with h | h
        · exact hs j hh (.inr h)
        · have := h4.lt j hh; omega
    · intro j hj
      rcases hj with h | h | h | h
      · rcases g4 j h with h | h | h
        · exact h8 j (.inl h)
        · exact h8 j (.inr (.inl h))
        · omega
      · rcases g5 j h with h | h
        · exact h8 j (.inr (.inl h))
        · omega
      · exact h8 j (.inr (.inr (.inl h)))
      · exact h8 j (.inr (.inr (.inr h)))
    · refine h9.trans' g6 ?_
      rintro j (h | h)
      · exact .inr (h8 j (.inl h))
      · exact .inr (h8 j (.inr (.inl h)))
    · intro e he
      rcases g9 e he with h | h
      · exact h18 e h
      · omega
theorem RdAt.looks {w0 : World} {b : Nat} {P Q S : Value} {t i : Nat} {w : World} (h : RdAt w0 b P Q S t i w) (hi : i ≤ 2000000) :
    Calls Tryz.prog 7 #[.pointer (some ⟨b, 0, none⟩)] w fun x w' => x = .returned (.bool true) ∧ RdAt w0 b P Q S t i w' := by
  have h' := h
  obtain ⟨Fb, Fp, Fq, Fs, n, v, es, sp, sq, ss, h1, h2, h5, h6, h7, h8, h9, h10, h13, h16, h17, h18⟩ := h
  refine (looks_any b Fb w n v es h1 (by omega) (fun e he => by have := h18 e he; omega)).mono ?_
  rintro x w' ⟨hx, hf⟩
  exact ⟨hx, h'.keep hf⟩
/-- a pair is made, or none -/
theorem made_pq (w : World) (n : Int) :
    Calls Tryz.prog 5 #[.int .i64 n] w fun x w' => ∃ P, x = .returned (.tuple #[P, .bool true]) ∧ (P = .pointer none ∨ ∃ C, P = .pointer (some ⟨C, 0, none⟩)) ∧ Fr (fun _ => False) w w' ∧ ∃ F st, PQ P F w' st ∧ (∀ i, F i → w.heap.size ≤ i) ∧ stOk st ∧ stLen st = 0 := by
  by_cases hn : n < 1 ∨ 1000 < n
  · refine (made_no w n hn).mono ?_
    rintro x w' ⟨hx, rfl⟩
    exact ⟨_, hx, .inl rfl, Fr.refl _ _, fun _ => False, none, .inl ⟨rfl, fun _ h => h⟩, fun _ h => h.elim, fun d l h => (by cases h), rfl⟩
  · obtain ⟨d, rfl⟩ : ∃ d : Nat, n = (d : Int) := ⟨n.toNat, by omega⟩
    refine (made_yes w d (by omega) (by omega)).mono ?_
    rintro x w' ⟨hx, rfl⟩
    refine ⟨_, hx, .inr ⟨_, rfl⟩, (((Fr.refl _ _).alloc _).alloc _).alloc _, _, some (d, []), .inr ⟨_, _, _, _, rfl, DAt.new w d⟩, fun i hi => hi.1, ?_, rfl⟩
    intro d' l' he
    simp at he
    omega
end Go.Proofs.YtmkkibaacclhnaaGreat

namespace Go.Proofs.YtmkkibaacclhnaaGreat
open Go.RowKit

def sumL (M : Nat → List UInt8) : Nat → Nat
  | 0 => 0
  | k + 1 => sumL M k + (M k).length
theorem sumL_le (M : Nat → List UInt8) {k n : Nat} (h : k ≤ n) : sumL M k ≤ sumL M n := by
  induction n with
  | zero => obtain rfl : k = 0 := by omega
            exact Nat.le_refl _
  | succ n ih =>
    by_cases hk : k = n + 1
    · subst hk; exact Nat.le_refl _
    · have := ih (by omega)
      simp only [sumL]
      omega
theorem made_one (w : World) :
    Calls Tryz.prog 5 #[.int .i64 1] w fun x w' => ∃ C, x = .returned (.tuple #[.pointer (some ⟨C, 0, none⟩), .bool true]) ∧ Fr (fun _ => False) w w' ∧ ∃ F st, PQ (.pointer (some ⟨C, 0, none⟩)) F w' st ∧ (∀ i, F i → w.heap.size ≤ i) ∧ stOk st ∧ stLen st = 0 := by
  refine (made_yes w 1 (by omega) (by omega)).mono ?_
  rintro x w' ⟨hx, rfl⟩
  refine ⟨_, hx, (((Fr.refl _ _).alloc _).alloc _).alloc _, _, some (1, []), .inr ⟨_, _, _, _, rfl, DAt.new w 1⟩, fun i hi => hi.1, ?_, rfl⟩
  intro d' l' he
  simp at he
  omega
theorem RdAt.stepQ {w0 : World} {b C : Nat} {P S : Value} {t i : Nat} {w : World} (h : RdAt w0 b P (.pointer (some ⟨C, 0, none⟩)) S t i w) (k H : Int) (m : List UInt8) (ht : t + m.length ≤ 1100000) (hi : i ≤ 1900000) :
    Calls Tryz.prog 6 #[.pointer (some ⟨b, 0, none⟩), .pointer (some ⟨C, 0, none⟩), .agg #[.int .i64 k, .int .i64 H, .string (ofL m)]] w fun x w' => x = .returned (.bool true) ∧ RdAt w0 b P (.pointer (some ⟨C, 0, none⟩)) S (t + m.length) (i + 1) w' :=
  (h.swap.step k H m ht hi).mono fun _ _ hx => ⟨hx.1, hx.2.swap⟩
theorem RdAt.stepS {w0 : World} {b C : Nat} {P Q : Value} {t i : Nat} {w : World} (h : RdAt w0 b P Q (.pointer (some ⟨C, 0, none⟩)) t i w) (k H : Int) (m : List UInt8) (ht : t + m.length ≤ 1100000) (hi : i ≤ 1900000) :
    Calls Tryz.prog 6 #[.pointer (some ⟨b, 0, none⟩), .pointer (some ⟨C, 0, none⟩), .agg #[.int .i64 k, .int .i64 H, .string (ofL m)]] w fun x w' => x = .returned (.bool true) ∧ RdAt w0 b P Q (.pointer (some ⟨C, 0, none⟩)) (t + m.length) (i + 1) w' :=
  (h.rot.step k H m ht hi).mono fun _ _ hx => ⟨hx.1, hx.2.rot.rot⟩
theorem RdAt.made {w0 w1 w2 w3 w4 : World} {P Q S : Value} (h1 : Fr (fun _ => False) w0 w1) (hf2 : Fr (fun _ => False) w1 w2) (hS : ∃ F st, PQ S F w2 st ∧ (∀ i, F i → w1.heap.size ≤ i) ∧ stOk st ∧ stLen st = 0)
    (hf3 : Fr (fun _ => False) w2 w3) (hP : ∃ F st, PQ P F w3 st ∧ (∀ i, F i → w2.heap.size ≤ i) ∧ stOk st ∧ stLen st = 0) (hf4 : Fr (fun _ => False) w3 w4) (hQ : ∃ F st, PQ Q F w4 st ∧ (∀ i, F i → w3.heap.size ≤ i) ∧ stOk st ∧ stLen st = 0) :
    RdAt w0 w4.heap.size P Q S 0 0 (w4.alloc (.cells (bookCells 0 (.slice none 0 0)) 31)) := by
  obtain ⟨Fs, ss, s1, s2, s3, s4⟩ := hS
  obtain ⟨Fp, sp, p1, p2, p3, p4⟩ := hP
  obtain ⟨Fq, sq, q1, q2, q3, q4⟩ := hQ
  have hs34 := hf3.trans hf4
  have z1 := h1.size
  have z2 := hf2.size
  have z3 := hf3.size
  have z4 := hf4.size
  refine RdAt.start (p1.keep (fun i hi => hf4.block i (p1.lt i hi) id) z4) q1 (s1.keep (fun i hi => hs34.block i (s1.lt i hi) id) hs34.size) ?_ ?_ ?_ ((h1.trans hf2).trans hs34) ⟨p3, q3, s3⟩ ⟨p4, q4, s4⟩
  · intro j hj
    refine ⟨fun hq => ?_, fun hs => ?_⟩
    · have := p1.lt j hj; have := q2 j hq; omega
    · have := p2 j hj; have := s1.lt j hs; omega
  · intro j hj hs
    have := q2 j hj
    have := s1.lt j hs
    omega
  · intro j hj
    rcases hj with h | h | h
    · have := p2 j h; omega
    · have := q2 j h; omega
    · have := s2 j h; omega
set_option maxRecDepth 100000 in
set_option maxHeartbeats 40000000 in
theorem reads_any (dp ot : Int) (pa : Option Addr) (n cap : Nat) (K H : Nat → Int) (M : Nat → List UInt8) (w : World) (hn : n ≤ 1048576) (hsum : sumL M n ≤ 1048576) (hpa : 0 < n → ∃ ad, pa = some ad) (hblk : ∀ ad, pa = some ad → 0 < n → ad.block < w.heap.size)
    (hel : ∀ j ad, j < n → pa = some ad → w.cell? (ad.add (j * 3)) = some (.int .i64 (K j)) ∧ w.cell? ((ad.add (j * 3)).add 1) = some (.int .i64 (H j)) ∧ w.cell? ((ad.add (j * 3)).add 2) = some (.string (ofL (M j)))) :
    Calls Tryz.prog 3 #[.int .i64 dp, .int .i64 ot, .slice pa n cap] w fun x w' => x = .returned (.bool true) ∧ Fr (fun _ => False) w w' := by
  have HEL := hid (fun (wx : World) (hf : Fr (fun _ => False) w wx) j ad (hj : j < n) (hp : pa = some ad) => (show ∀ ob : Obj, (wx.alloc ob).cell? (ad.add (j * 3)) = some (.int .i64 (K j)) ∧ (wx.alloc ob).cell? ⟨(ad.add (j * 3)).block, (ad.add (j * 3)).off + 1, none⟩ = some (.int .i64 (H j)) ∧ (wx.alloc ob).cell? ⟨(ad.add (j * 3)).block, (ad.add (j * 3)).off + 2, none⟩ = some (.string (ofL (M j))) from fun ob => by
    have hfa := hf.alloc ob
    have hb := hblk ad hp (by omega)
    have hbl : ∀ i, (ad.add i).block = ad.block := fun i => by unfold Addr.add; split <;> rfl
    obtain ⟨c0, c1, c2⟩ := hel j ad hj hp
    rw [Addr.add_add] at c1 c2
    refine ⟨(hfa.cell (p := ad.add (j * 3)) (by rw [hbl]; exact hb) id).trans c0, ?_, ?_⟩
    · have := (hfa.cell (p := ad.add (j * 3 + 1)) (by rw [hbl]; exact hb) id).trans c1
      rw [← Addr.add_add] at this
      simpa [Addr.add] using this
    · have := (hfa.cell (p := ad.add (j * 3 + 2)) (by rw [hbl]; exact hb) id).trans c2
      rw [← Addr.add_add] at this
      simpa [Addr.add] using this))
  have HPA := hid hpa
  have HSU := hid (fun k (hk : k ≤ n) => Nat.le_trans (sumL_le M hk) hsum)
  have H3 := hid (fun w => shown_any w)
  have HS1 := hid (fun k (hk : k < n) => (show sumL M (min (k + 1) n) = sumL M (min k n) + (M k).length from by rw [Nat.min_eq_left (by omega), Nat.min_eq_left (by omega)]; rfl))
  have HS2 := hid (fun k (hk : ¬ k < n) => (show sumL M (min (k + 1) n) = sumL M (min k n) from by rw [Nat.min_eq_right (by omega), Nat.min_eq_right (by omega)]))
  clear hel hblk hpa hsum
  go_enter Tryz.func3, Tryz.ntmps3
  go_wp2_with fail
  refine Calls.mono (H3.out _) ?_
  rintro x w1 ⟨rfl, hf1⟩
  have F1 := hid hf1
  clear hf1
  go_wp2_with fail
  refine Calls.mono (made_one _) ?_
  rintro x w2 ⟨C1, rfl, hf2, hS⟩
  have F2 := hid hf2
  have GS := hid hS
  clear hf2 hS
  go_wp2_with fail
  refine Calls.mono (made_pq _ _) ?_
  rintro x w3 ⟨P, rfl, hP, hf3, hP2⟩
  have HP := hid hP
  have F3 := hid hf3
  have GP := hid hP2
  clear hP hf3 hP2
  go_wp2_with fail
  refine Calls.mono (made_pq _ _) ?_
  rintro x w4 ⟨Q, rfl, hQ, hf4, hQ2⟩
  have HQ := hid hQ
  have R0 := hid (RdAt.made F1.out F2.out GS.out F3.out GP.out hf4 hQ2)
  clear hQ hf4 hQ2 F1 F2 F3 GS GP
  go_wp2_with fail
  refine Calls.mono (R0.out.stepS 1 0 [91, 49, 44, 93] (by simp) (by omega)) ?_
  rintro x w5 ⟨rfl, hr⟩
  have R1 := hid hr
  clear hr R0
  go_wp2_with fail
  refine Calls.mono (R1.out.stepS 2 0 [] (by simp) (by omega)) ?_
  rintro x w6 ⟨rfl, hr⟩
  have R2 := hid (hr.mono (t' := 4 + sumL M (min 0 n)) (i' := 0 + 2) (by simp) (by omega))
  clear hr R1
  generalize w4.heap.size = b at *
  go_wp2_with fail
  go_loopw [17] (fun s wr => ∃ k : Nat, k ≤ n + 4 ∧ s = .int .i64 (k : Int) ∧ Hid (RdAt w b P Q (.pointer (some ⟨C1, 0, none⟩)) (4 + sumL M (min k n)) (k + 2) wr)) (fun s _ => n + 4 - (intOf s).toNat)
  case atStart => exact ⟨0, by omega, rfl, R2⟩
  case round =>
    clear R2
    obtain ⟨k, hk, rfl, hR⟩ := hrel
    by_cases hlt : k < n
    · obtain ⟨ad, rfl⟩ := HPA.out (by omega)
      have hcs := HEL.out wr hR.out.fr k ad hlt rfl
      have hs := HSU.out (k + 1) (by omega)
      have hs0 := HS1.out k hlt
      have HTT := hid (show 4 + sumL M (min k n) + (M k).length ≤ 1100000 from by rw [Nat.min_eq_left (by omega)] at hs0; rw [Nat.min_eq_left (by omega)] at hs0 ⊢; omega)
      have HTE := hid (show 4 + sumL M (min (k + 1) n) = 4 + sumL M (min k n) + (M k).length from by omega)
      clear hs hs0
      generalize M k = mm at *
      generalize K k = kk at *
      generalize H k = hh at *
      have j0 := fun ob => (hcs ob).1
      have j1 := fun ob => (hcs ob).2.1
      have j2 := fun ob => (hcs ob).2.2
      clear hcs
      have hk4 : (k : Int) < (n : Int) + 4 := by omega
      have RA := hid (hR.out.keep ((Fr.refl _ wr).alloc (.cells #[.int .i64 kk, .int .i64 hh, .string (ofL mm)] 34)))
      go_upto_region 21 with fail
      · rcases HQ.out with rfl | ⟨CQ, rfl⟩
        · go_wp2_with fail
          go_roundw
          case rel => exact ⟨k + 1, by omega, by go_num, hid (RA.out.mono (by rw [HTE.out]; omega) (by omega))⟩
          case measure => simp [intOf]; omega
        · go_wp2_with fail
          refine Calls.mono (RA.out.stepQ kk hh mm HTT.out (by omega)) ?_
          rintro x w7 ⟨rfl, hr⟩
          have RB := hid hr
          clear hr
          go_wp2_with fail
          refine Calls.mono (RB.out.looks (by omega)) ?_
          rintro x w8 ⟨rfl, hr⟩
          have RC := hid hr
          clear hr
          go_wp2_with fail
          go_roundw
          case rel => exact ⟨k + 1, by omega, by go_num, hid (RC.out.mono (by rw [HTE.out]; exact Nat.le_refl _) (by omega))⟩
          case measure => simp [intOf]; omega
      · rcases HP.out with rfl | ⟨CP, rfl⟩
        · go_wp2_with fail
          go_roundw
          case rel => exact ⟨k + 1, by omega, by go_num, hid (RA.out.mono (by rw [HTE.out]; omega) (by omega))⟩
          case measure => simp [intOf]; omega
        · go_wp2_with fail
          refine Calls.mono (RA.out.step kk hh mm HTT.out (by omega)) ?_
          rintro x w7 ⟨rfl, hr⟩
          have RB := hid hr
          clear hr
          go_wp2_with fail
          refine Calls.mono (RB.out.looks (by omega)) ?_
          rintro x w8 ⟨rfl, hr⟩
          have RC := hid hr
          clear hr
          go_wp2_with fail
          go_roundw
          case rel => exact ⟨k + 1, by omega, by go_num, hid (RC.out.mono (by rw [HTE.out]; exact Nat.le_refl _) (by omega))⟩
          case measure => simp [intOf]; omega
    · by_cases hlt4 : k < n + 4
      · have hk4 : (k : Int) < (n : Int) + 4 := by omega
        have hk5 : ¬ ((k : Int) < (n : Int)) := by omega
        have hs := HSU.out (min k n) (Nat.min_le_right _ _)
        have HTT := hid (show 4 + sumL M (min k n) + ([] : List UInt8).length ≤ 1100000 from by simp; omega)
        have HTE := hid (show 4 + sumL M (min (k + 1) n) = 4 + sumL M (min k n) + ([] : List UInt8).length from by rw [HS2.out k hlt]; rfl)
        have RA := hid (hR.out.keep ((Fr.refl _ wr).alloc (.cells #[.int .i64 2, .int .i64 (k : Int), .string ⟨#[]⟩] 34)))
        clear hs
        go_upto_region 21 with fail
        · rcases HQ.out with rfl | ⟨CQ, rfl⟩
          · go_wp2_with fail
            go_roundw
            case rel => exact ⟨k + 1, by omega, by go_num, hid (RA.out.mono (by rw [HTE.out]; omega) (by omega))⟩
            case measure => simp [intOf]; omega
          · go_wp2_with fail
            refine Calls.mono (RA.out.stepQ 2 (k : Int) [] HTT.out (by omega)) ?_
            rintro x w7 ⟨rfl, hr⟩
            have RB := hid hr
            clear hr
            go_wp2_with fail
            refine Calls.mono (RB.out.looks (by omega)) ?_
            rintro x w8 ⟨rfl, hr⟩
            have RC := hid hr
            clear hr
            go_wp2_with fail
            go_roundw
            case rel => exact ⟨k + 1, by omega, by go_num, hid (RC.out.mono (by rw [HTE.out]; exact Nat.le_refl _) (by omega))⟩
            case measure => simp [intOf]; omega
        · rcases HP.out with rfl | ⟨CP, rfl⟩
          · go_wp2_with fail
            go_roundw
            case rel => exact ⟨k + 1, by omega, by go_num, hid (RA.out.mono (by rw [HTE.out]; omega) (by omega))⟩
            case measure => simp [intOf]; omega
          · go_wp2_with fail
            refine Calls.mono (RA.out.step 2 (k : Int) [] HTT.out (by omega)) ?_
            rintro x w7 ⟨rfl, hr⟩
            have RB := hid hr
            clear hr
            go_wp2_with fail
            refine Calls.mono (RB.out.looks (by omega)) ?_
            rintro x w8 ⟨rfl, hr⟩
            have RC := hid hr
            clear hr
            go_wp2_with fail
            go_roundw
            case rel => exact ⟨k + 1, by omega, by go_num, hid (RC.out.mono (by rw [HTE.out]; exact Nat.le_refl _) (by omega))⟩
            case measure => simp [intOf]; omega
      · have hk4 : ¬ ((k : Int) < (n : Int) + 4) := by omega
        have HFR := hid hR.out.fr
        go_wp2_with fail
        go_ret
        exact ⟨rfl, HFR.out⟩
end Go.Proofs.YtmkkibaacclhnaaGreat
