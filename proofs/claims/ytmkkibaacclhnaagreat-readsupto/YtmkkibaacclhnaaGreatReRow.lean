/-
  The law decantlaw.Reads, second form: whatever the two depths and the script, of bulk at most 1048576: every Feed and Close of two parsers in turns answers as the document's own reading does, and no list that came out is changed by another. By the walks of the texts above it.
-/
import Derived.Test.YtmkkibaacclhnaaGreatUf
import Derived.Test.YtmkkibaacclhnaaGreatBuv
import Derived.Test.YtmkkibaacclhnaaGreatRows
import Derived.ProofKit
import Derived.OpenShut
import Derived.JoinedCond
import Derived.Carry
import Derived.ChangeSlices
namespace Go.Proofs.YtmkkibaacclhnaaGreat
open Go.RowKit

/-- a pair of parsers, or none -/
def PQ (P : Value) (F : Nat → Prop) (w : World) (st : Option (Nat × List UInt8)) : Prop :=
  (P = .pointer none ∧ ∀ i, ¬ F i) ∨ ∃ C A R FA, P = .pointer (some ⟨C, 0, none⟩) ∧ DAt C F w st A R FA
theorem PQ.lt {P : Value} {F : Nat → Prop} {w : World} {st : Option (Nat × List UInt8)} (h : PQ P F w st) : ∀ i, F i → i < w.heap.size := by
  intro i hi
  rcases h with ⟨_, h⟩ | ⟨C, A, R, FA, _, h⟩
  · exact absurd hi (h i)
  · exact h.lt i hi
theorem PQ.keep {P : Value} {F : Nat → Prop} {w w' : World} {st : Option (Nat × List UInt8)} (h : PQ P F w st) (hk : ∀ i, F i → w'.heap[i]? = w.heap[i]?) (hs : w.heap.size ≤ w'.heap.size) : PQ P F w' st := by
  rcases h with h | ⟨C, A, R, FA, hP, h⟩
  · exact .inl h
  · exact .inr ⟨C, A, R, FA, hP, h.keep hk hs⟩
/-- what is known between two steps: so many bytes came, so many steps were made -/
def RdAt (w0 : World) (b : Nat) (P Q S : Value) (t i : Nat) (w : World) : Prop :=
  ∃ Fb Fp Fq Fs n v es sp sq ss, BkAt b Fb w n v es ∧ (PQ P Fp w sp ∧ PQ Q Fq w sq ∧ PQ S Fs w ss) ∧ (∀ j, Fb j → ¬ Fp j ∧ ¬ Fq j ∧ ¬ Fs j) ∧ (∀ j, Fp j → ¬ Fq j ∧ ¬ Fs j) ∧ (∀ j, Fq j → ¬ Fs j) ∧
    (∀ j, Fb j ∨ Fp j ∨ Fq j ∨ Fs j → w0.heap.size ≤ j) ∧ Fr (fun _ => False) w0 w ∧ (stOk sp ∧ stOk sq ∧ stOk ss) ∧ (stLen sp ≤ t ∧ stLen sq ≤ t ∧ stLen ss ≤ t) ∧ n ≤ i ∧ es.length ≤ 4 * i ∧ ∀ e, e ∈ es → e.2.2 ≤ 3300004
theorem RdAt.swap {w0 : World} {b : Nat} {P Q S : Value} {t i : Nat} {w : World} (h : RdAt w0 b P Q S t i w) : RdAt w0 b Q P S t i w := by
  obtain ⟨Fb, Fp, Fq, Fs, n, v, es, sp, sq, ss, h1, ⟨h2, h3, h4⟩, h5, h6, h7, h8, h9, ⟨h10, h11, h12⟩, ⟨h13, h14, h15⟩, h16⟩ := h
  exact ⟨Fb, Fq, Fp, Fs, n, v, es, sq, sp, ss, h1, ⟨h3, h2, h4⟩, fun j hj => ⟨(h5 j hj).2.1, (h5 j hj).1, (h5 j hj).2.2⟩, fun j hj => ⟨fun hp => (h6 j hp).1 hj, h7 j hj⟩, fun j hj => (h6 j hj).2,
    fun j hj => h8 j (by rcases hj with h | h | h | h <;> simp [h]), h9, ⟨h11, h10, h12⟩, ⟨h14, h13, h15⟩, h16⟩
theorem RdAt.rot {w0 : World} {b : Nat} {P Q S : Value} {t i : Nat} {w : World} (h : RdAt w0 b P Q S t i w) : RdAt w0 b S P Q t i w := by
  obtain ⟨Fb, Fp, Fq, Fs, n, v, es, sp, sq, ss, h1, ⟨h2, h3, h4⟩, h5, h6, h7, h8, h9, ⟨h10, h11, h12⟩, ⟨h13, h14, h15⟩, h16⟩ := h
  exact ⟨Fb, Fs, Fp, Fq, n, v, es, ss, sp, sq, h1, ⟨h4, h2, h3⟩, fun j hj => ⟨(h5 j hj).2.2, (h5 j hj).1, (h5 j hj).2.1⟩, fun j hj => ⟨fun hp => (h6 j hp).2 hj, fun hq => h7 j hq hj⟩, fun j hj => (h6 j hj).1,
    fun j hj => h8 j (by rcases hj with h | h | h | h <;> simp [h]), h9, ⟨h12, h10, h11⟩, ⟨h15, h13, h14⟩, h16⟩
theorem RdAt.keep {w0 : World} {b : Nat} {P Q S : Value} {t i : Nat} {w w' : World} (h : RdAt w0 b P Q S t i w) (hf : Fr (fun _ => False) w w') : RdAt w0 b P Q S t i w' := by
  obtain ⟨Fb, Fp, Fq, Fs, n, v, es, sp, sq, ss, h1, ⟨h2, h3, h4⟩, h5, h6, h7, h8, h9, h10⟩ := h
  exact ⟨Fb, Fp, Fq, Fs, n, v, es, sp, sq, ss, h1.keep (fun i hi => hf.block i (h1.lt i hi) id) hf.size, ⟨h2.keep (fun i hi => hf.block i (h2.lt i hi) id) hf.size, h3.keep (fun i hi => hf.block i (h3.lt i hi) id) hf.size, h4.keep (fun i hi => hf.block i (h4.lt i hi) id) hf.size⟩, h5, h6, h7, h8, h9.trans hf, h10⟩
theorem RdAt.mono {w0 : World} {b : Nat} {P Q S : Value} {t i t' i' : Nat} {w : World} (h : RdAt w0 b P Q S t i w) (ht : t ≤ t') (hi : i ≤ i') : RdAt w0 b P Q S t' i' w := by
  obtain ⟨Fb, Fp, Fq, Fs, n, v, es, sp, sq, ss, h1, h2, h5, h6, h7, h8, h9, h10, ⟨h13, h14, h15⟩, h16, h17, h18⟩ := h
  exact ⟨Fb, Fp, Fq, Fs, n, v, es, sp, sq, ss, h1, h2, h5, h6, h7, h8, h9, h10, ⟨by omega, by omega, by omega⟩, by omega, by omega, h18⟩
theorem RdAt.fr {w0 : World} {b : Nat} {P Q S : Value} {t i : Nat} {w : World} (h : RdAt w0 b P Q S t i w) : Fr (fun _ => False) w0 w := by
  obtain ⟨Fb, Fp, Fq, Fs, n, v, es, sp, sq, ss, h1, h2, h5, h6, h7, h8, h9, h10⟩ := h
  exact h9
theorem RdAt.start {w0 w : World} {P Q S : Value} {Fp Fq Fs : Nat → Prop} {sp sq ss : Option (Nat × List UInt8)} (hp : PQ P Fp w sp) (hq : PQ Q Fq w sq) (hs : PQ S Fs w ss) (h1 : ∀ j, Fp j → ¬ Fq j ∧ ¬ Fs j) (h2 : ∀ j, Fq j → ¬ Fs j) (h3 : ∀ j, Fp j ∨ Fq j ∨ Fs j → w0.heap.size ≤ j) (hf : Fr (fun _ => False) w0 w)
    (ho : stOk sp ∧ stOk sq ∧ stOk ss) (hl : stLen sp = 0 ∧ stLen sq = 0 ∧ stLen ss = 0) : RdAt w0 w.heap.size P Q S 0 0 (w.alloc (.cells (bookCells 0 (.slice none 0 0)) 31)) := by
  have hk : ∀ i, i < w.heap.size → (w.alloc (.cells (bookCells 0 (.slice none 0 0)) 31)).heap[i]? = w.heap[i]? := fun i hi => Below.heap_alloc _ _ _ hi
  have hsz : w.heap.size ≤ (w.alloc (.cells (bookCells 0 (.slice none 0 0)) 31)).heap.size := by simp
  refine ⟨_, Fp, Fq, Fs, 0, _, [], sp, sq, ss, BkAt.new w, ⟨hp.keep (fun i hi => hk i (hp.lt i hi)) hsz, hq.keep (fun i hi => hk i (hq.lt i hi)) hsz, hs.keep (fun i hi => hk i (hs.lt i hi)) hsz⟩, ?_, h1, h2, ?_, hf.alloc _, ho, ⟨by omega, by omega, by omega⟩, Nat.le_refl _, by simp, fun e he => by cases he⟩
  · intro j hj
    have hj : j = w.heap.size := hj
    subst hj
    exact ⟨fun h => Nat.lt_irrefl _ (hp.lt _ h), fun h => Nat.lt_irrefl _ (hq.lt _ h), fun h => Nat.lt_irrefl _ (hs.lt _ h)⟩
  · intro j hj
    rcases hj with h | h
    · have h : j = w.heap.size := h
      subst h
      exact hf.size
    · exact h3 j h
/-- a step of the first of them -/
theorem RdAt.step {w0 : World} {b C : Nat} {Q S : Value} {t i : Nat} {w : World} (h : RdAt w0 b (.pointer (some ⟨C, 0, none⟩)) Q S t i w) (k H : Int) (m : List UInt8) (ht : t + m.length ≤ 1100000) (hi : i ≤ 1900000) :
    Calls Tryz.prog 6 #[.pointer (some ⟨b, 0, none⟩), .pointer (some ⟨C, 0, none⟩), .agg #[.int .i64 k, .int .i64 H, .string (ofL m)]] w fun x w' => x = .returned (.bool true) ∧ RdAt w0 b (.pointer (some ⟨C, 0, none⟩)) Q S (t + m.length) (i + 1) w' := by
  obtain ⟨Fb, Fp, Fq, Fs, n, v, es, sp, sq, ss, h1, ⟨h2, h3, h4⟩, h5, h6, h7, h8, h9, ⟨h10, h11, h12⟩, ⟨h13, h14, h15⟩, h16, h17, h18⟩ := h
  rcases h2 with ⟨hP, _⟩ | ⟨C', A, R, FA, hP, hD⟩
  · cases hP
  · obtain rfl : C = C' := by simpa using hP
    refine (step_any b C A R Fb Fp FA w n v es sp k H m h1 hD (fun j hj => (h5 j hj).1) h10 (by omega) (by omega) (by omega)).mono ?_
    rintro x w' ⟨hx, Fb', F', FA', st', n', v', es', g1, g2, g3, g4, g5, g6, g7, g8, g9, g10, g11⟩
    have hq : ∀ j, Fq j → ¬ (Fb j ∨ Fp j) := fun j hj hh => hh.elim (fun hb => (h5 j hb).2.1 hj) (fun hp => (h6 j hp).1 hj)
    have hs : ∀ j, Fs j → ¬ (Fb j ∨ Fp j) := fun j hj hh => hh.elim (fun hb => (h5 j hb).2.2 hj) (fun hp => (h6 j hp).2 hj)
    have hsz := h9.size
    refine ⟨hx, Fb', F', Fq, Fs, n', v', es', st', sq, ss, g1, ⟨.inr ⟨C, A, R, FA', rfl, g2⟩, h3.keep (fun j hj => g6.block j (h3.lt j hj) (hq j hj)) g6.size, h4.keep (fun j hj => g6.block j (h4.lt j hj) (hs j hj)) g6.size⟩, ?_, ?_, h7, ?_, ?_, ⟨g11, h11, h12⟩, ⟨by omega, by omega, by omega⟩, by omega, by omega, ?_⟩
    · intro j hj
      refine ⟨g3 j hj, fun hh => ?_, fun hh => ?_⟩
      · rcases g4 j hj with h | h | h
        · exact hq j hh (.inl h)
        · exact hq j hh (.inr h)
        · have := h3.lt j hh; omega
      · rcases g4 j hj with h | h | h
        · exact hs j hh (.inl h)
        · exact hs j hh (.inr h)
        · have := h4.lt j hh; omega
    · intro j hj
      refine ⟨fun hh => ?_, fun hh => ?_⟩
      · rcases g5 j hj with h | h
        · exact hq j hh (.inr h)
        · have := h3.lt j hh; omega
      · rcases g5 j hj with h | h
        · exact hs j hh (.inr h)
        · have := h4.lt j hh; omega
    · intro j hj
      rcases hj with h | h | h | h
      · rcases g4 j h with h | h | h
        · exact h8 j (.inl h)
        · exact h8 j (.inr (.inl h))
        · omega
      · rcases g5 j h with h | h
        · exact h8 j (.inr (.inl h))
        · omega
      · exact h8 j (.inr (.inr (.inl h)))
      · exact h8 j (.inr (.inr (.inr h)))
    · refine h9.trans' g6 ?_
      rintro j (h | h)
      · exact .inr (h8 j (.inl h))
      · exact .inr (h8 j (.inr (.inl h)))
    · intro e he
      rcases g9 e he with h | h
      · exact h18 e h
      · omega
theorem RdAt.looks {w0 : World} {b : Nat} {P Q S : Value} {t i : Nat} {w : World} (h : RdAt w0 b P Q S t i w) (hi : i ≤ 2000000) :
    Calls Tryz.prog 7 #[.pointer (some ⟨b, 0, none⟩)] w fun x w' => x = .returned (.bool true) ∧ RdAt w0 b P Q S t i w' := by
  have h' := h
  obtain ⟨Fb, Fp, Fq, Fs, n, v, es, sp, sq, ss, h1, h2, h5, h6, h7, h8, h9, h10, h13, h16, h17, h18⟩ := h
  refine (looks_any b Fb w n v es h1 (by omega) (fun e he => by have := h18 e he; omega)).mono ?_
  rintro x w' ⟨hx, hf⟩
  exact ⟨hx, h'.keep hf⟩
/-- a pair is made, or none -/
theorem made_pq (w : World) (n : Int) :
    Calls Tryz.prog 5 #[.int .i64 n] w fun x w' => ∃ P, x = .returned (.tuple #[P, .bool true]) ∧ (P = .pointer none ∨ ∃ C, P = .pointer (some ⟨C, 0, none⟩)) ∧ Fr (fun _ => False) w w' ∧ ∃ F st, PQ P F w' st ∧ (∀ i, F i → w.heap.size ≤ i) ∧ stOk st ∧ stLen st = 0 := by
  by_cases hn : n < 1 ∨ 1000 < n
  · refine (made_no w n hn).mono ?_
    rintro x w' ⟨hx, rfl⟩
    exact ⟨_, hx, .inl rfl, Fr.refl _ _, fun _ => False, none, .inl ⟨rfl, fun _ h => h⟩, fun _ h => h.elim, fun d l h => (by cases h), rfl⟩
  · obtain ⟨d, rfl⟩ : ∃ d : Nat, n = (d : Int) := ⟨n.toNat, by omega⟩
    refine (made_yes w d (by omega) (by omega)).mono ?_
    rintro x w' ⟨hx, rfl⟩
    refine ⟨_, hx, .inr ⟨_, rfl⟩, (((Fr.refl _ _).alloc _).alloc _).alloc _, _, some (d, []), .inr ⟨_, _, _, _, rfl, DAt.new w d⟩, fun i hi => hi.1, ?_, rfl⟩
    intro d' l' he
    simp at he
    omega
end Go.Proofs.YtmkkibaacclhnaaGreat

namespace Go.Proofs.YtmkkibaacclhnaaGreat
open Go.RowKit

def sumL (M : Nat → List UInt8) : Nat → Nat
  | 0 => 0
  | k + 1 => sumL M k + (M k).length
theorem sumL_le (M : Nat → List UInt8) {k n : Nat} (h : k ≤ n) : sumL M k ≤ sumL M n := by
  induction n with
  | zero => obtain rfl : k = 0 := by omega
            exact Nat.le_refl _
  | succ n ih =>
    by_cases hk : k = n + 1
    · subst hk; exact Nat.le_refl _
    · have := ih (by omega)
      simp only [sumL]
      omega
theorem made_one (w : World) :
    Calls Tryz.prog 5 #[.int .i64 1] w fun x w' => ∃ C, x = .returned (.tuple #[.pointer (some ⟨C, 0, none⟩), .bool true]) ∧ Fr (fun _ => False) w w' ∧ ∃ F st, PQ (.pointer (some ⟨C, 0, none⟩)) F w' st ∧ (∀ i, F i → w.heap.size ≤ i) ∧ stOk st ∧ stLen st = 0 := by
  refine (made_yes w 1 (by omega) (by omega)).mono ?_
  rintro x w' ⟨hx, rfl⟩
  refine ⟨_, hx, (((Fr.refl _ _).alloc _).alloc _).alloc _, _, some (1, []), .inr ⟨_, _, _, _, rfl, DAt.new w 1⟩, fun i hi => hi.1, ?_, rfl⟩
  intro d' l' he
  simp at he
  omega
theorem RdAt.stepQ {w0 : World} {b C : Nat} {P S : Value} {t i : Nat} {w : World} (h : RdAt w0 b P (.pointer (some ⟨C, 0, none⟩)) S t i w) (k H : Int) (m : List UInt8) (ht : t + m.length ≤ 1100000) (hi : i ≤ 1900000) :
    Calls Tryz.prog 6 #[.pointer (some ⟨b, 0, none⟩), .pointer (some ⟨C, 0, none⟩), .agg #[.int .i64 k, .int .i64 H, .string (ofL m)]] w fun x w' => x = .returned (.bool true) ∧ RdAt w0 b P (.pointer (some ⟨C, 0, none⟩)) S (t + m.length) (i + 1) w' :=
  (h.swap.step k H m ht hi).mono fun _ _ hx => ⟨hx.1, hx.2.swap⟩
theorem RdAt.stepS {w0 : World} {b C : Nat} {P Q : Value} {t i : Nat} {w : World} (h : RdAt w0 b P Q (.pointer (some ⟨C, 0, none⟩)) t i w) (k H : Int) (m : List UInt8) (ht : t + m.length ≤ 1100000) (hi : i ≤ 1900000) :
    Calls Tryz.prog 6 #[.pointer (some ⟨b, 0, none⟩), .pointer (some ⟨C, 0, none⟩), .agg #[.int .i64 k, .int .i64 H, .string (ofL m)]] w fun x w' => x = .returned (.bool true) ∧ RdAt w0 b P Q (.pointer (some ⟨C, 0, none⟩)) (t + m.length) (i + 1) w' :=
  (h.rot.step k H m ht hi).mono fun _ _ hx => ⟨hx.1, hx.2.rot.rot⟩
theorem RdAt.made {w0 w1 w2 w3 w4 : World} {P Q S : Value} (h1 : Fr (fun _ => False) w0 w1) (hf2 : Fr (fun _ => False) w1 w2) (hS : ∃ F st, PQ S F w2 st ∧ (∀ i, F i → w1.heap.size ≤ i) ∧ stOk st ∧ stLen st = 0)
    (hf3 : Fr (fun _ => False) w2 w3) (hP : ∃ F st, PQ P F w3 st ∧ (∀ i, F i → w2.heap.size ≤ i) ∧ stOk st ∧ stLen st = 0) (hf4 : Fr (fun _ => False) w3 w4) (hQ : ∃ F st, PQ Q F w4 st ∧ (∀ i, F i → w3.heap.size ≤ i) ∧ stOk st ∧ stLen st = 0) :
    RdAt w0 w4.heap.size P Q S 0 0 (w4.alloc (.cells (bookCells 0 (.slice none 0 0)) 31)) := by
  obtain ⟨Fs, ss, s1, s2, s3, s4⟩ := hS
  obtain ⟨Fp, sp, p1, p2, p3, p4⟩ := hP
  obtain ⟨Fq, sq, q1, q2, q3, q4⟩ := hQ
  have hs34 := hf3.trans hf4
  have z1 := h1.size
  have z2 := hf2.size
  have z3 := hf3.size
  have z4 := hf4.size
  refine RdAt.start (p1.keep (fun i hi => hf4.block i (p1.lt i hi) id) z4) q1 (s1.keep (fun i hi => hs34.block i (s1.lt i hi) id) hs34.size) ?_ ?_ ?_ ((h1.trans hf2).trans hs34) ⟨p3, q3, s3⟩ ⟨p4, q4, s4⟩
  · intro j hj
    refine ⟨fun hq => ?_, fun hs => ?_⟩
    · have := p1.lt j hj; have := q2 j hq; omega
    · have := p2 j hj; have := s1.lt j hs; omega
  · intro j hj hs
    have := q2 j hj
    have := s1.lt j hs
    omega
  · intro j hj
    rcases hj with h | h | h
    · have := p2 j h; omega
    · have := q2 j h; omega
    · have := s2 j h; omega
set_option maxRecDepth 100000 in
set_option maxHeartbeats 40000000 in
theorem reads_any (dp ot : Int) (pa : Option Addr) (n cap : Nat) (K H : Nat → Int) (M : Nat → List UInt8) (w : World) (hn : n ≤ 1048576) (hsum : sumL M n ≤ 1048576) (hpa : 0 < n → ∃ ad, pa = some ad) (hblk : ∀ ad, pa = some ad → 0 < n → ad.block < w.heap.size)
    (hel : ∀ j ad, j < n → pa = some ad → w.cell? (ad.add (j * 3)) = some (.int .i64 (K j)) ∧ w.cell? ((ad.add (j * 3)).add 1) = some (.int .i64 (H j)) ∧ w.cell? ((ad.add (j * 3)).add 2) = some (.string (ofL (M j)))) :
    Calls Tryz.prog 3 #[.int .i64 dp, .int .i64 ot, .slice pa n cap] w fun x w' => x = .returned (.bool true) ∧ Fr (fun _ => False) w w' := by
  have HEL := hid (fun (wx : World) (hf : Fr (fun _ => False) w wx) j ad (hj : j < n) (hp : pa = some ad) => (show ∀ ob : Obj, (wx.alloc ob).cell? (ad.add (j * 3)) = some (.int .i64 (K j)) ∧ (wx.alloc ob).cell? ⟨(ad.add (j * 3)).block, (ad.add (j * 3)).off + 1, none⟩ = some (.int .i64 (H j)) ∧ (wx.alloc ob).cell? ⟨(ad.add (j * 3)).block, (ad.add (j * 3)).off + 2, none⟩ = some (.string (ofL (M j))) from fun ob => by
    have hfa := hf.alloc ob
    have hb := hblk ad hp (by omega)
    have hbl : ∀ i, (ad.add i).block = ad.block := fun i => by unfold Addr.add; split <;> rfl
    obtain ⟨c0, c1, c2⟩ := hel j ad hj hp
    rw [Addr.add_add] at c1 c2
    refine ⟨(hfa.cell (p := ad.add (j * 3)) (by rw [hbl]; exact hb) id).trans c0, ?_, ?_⟩
    · have := (hfa.cell (p := ad.add (j * 3 + 1)) (by rw [hbl]; exact hb) id).trans c1
      rw [← Addr.add_add] at this
      simpa [Addr.add] using this
    · have := (hfa.cell (p := ad.add (j * 3 + 2)) (by rw [hbl]; exact hb) id).trans c2
      rw [← Addr.add_add] at this
      simpa [Addr.add] using this))
  have HPA := hid hpa
  have HSU := hid (fun k (hk : k ≤ n) => Nat.le_trans (sumL_le M hk) hsum)
  have H3 := hid (fun w => shown_any w)
  have HS1 := hid (fun k (hk : k < n) => (show sumL M (min (k + 1) n) = sumL M (min k n) + (M k).length from by rw [Nat.min_eq_left (by omega), Nat.min_eq_left (by omega)]; rfl))
  have HS2 := hid (fun k (hk : ¬ k < n) => (show sumL M (min (k + 1) n) = sumL M (min k n) from by rw [Nat.min_eq_right (by omega), Nat.min_eq_right (by omega)]))
  clear hel hblk hpa hsum
  go_enter Tryz.func3, Tryz.ntmps3
  go_wp2_with fail
  refine Calls.mono (H3.out _) ?_
  rintro x w1 ⟨rfl, hf1⟩
  have F1 := hid hf1
  clear hf1
  go_wp2_with fail
  refine Calls.mono (made_one _) ?_
  rintro x w2 ⟨C1, rfl, hf2, hS⟩
  have F2 := hid hf2
  have GS := hid hS
  clear hf2 hS
  go_wp2_with fail
  refine Calls.mono (made_pq _ _) ?_
  rintro x w3 ⟨P, rfl, hP, hf3, hP2⟩
  have HP := hid hP
  have F3 := hid hf3
  have GP := hid hP2
  clear hP hf3 hP2
  go_wp2_with fail
  refine Calls.mono (made_pq _ _) ?_
  rintro x w4 ⟨Q, rfl, hQ, hf4, hQ2⟩
  have HQ := hid hQ
  have R0 := hid (RdAt.made F1.out F2.out GS.out F3.out GP.out hf4 hQ2)
  clear hQ hf4 hQ2 F1 F2 F3 GS GP
  go_wp2_with fail
  refine Calls.mono (R0.out.stepS 1 0 [91, 49, 44, 93] (by simp) (by omega)) ?_
  rintro x w5 ⟨rfl, hr⟩
  have R1 := hid hr
  clear hr R0
  go_wp2_with fail
  refine Calls.mono (R1.out.stepS 2 0 [] (by simp) (by omega)) ?_
  rintro x w6 ⟨rfl, hr⟩
  have R2 := hid (hr.mono (t' := 4 + sumL M (min 0 n)) (i' := 0 + 2) (by simp) (by omega))
  clear hr R1
  generalize w4.heap.size = b at *
  go_wp2_with fail
  go_loopw [17] (fun s wr => ∃ k : Nat, k ≤ n + 4 ∧ s = .int .i64 (k : Int) ∧ Hid (RdAt w b P Q (.pointer (some ⟨C1, 0, none⟩)) (4 + sumL M (min k n)) (k + 2) wr)) (fun s _ => n + 4 - (intOf s).toNat)
  case atStart => exact ⟨0, by omega, rfl, R2⟩
  case round =>
    clear R2
    obtain ⟨k, hk, rfl, hR⟩ := hrel
    by_cases hlt : k < n
    · obtain ⟨ad, rfl⟩ := HPA.out (by omega)
      have hcs := HEL.out wr hR.out.fr k ad hlt rfl
      have hs := HSU.out (k + 1) (by omega)
      have hs0 := HS1.out k hlt
      have HTT := hid (show 4 + sumL M (min k n) + (M k).length ≤ 1100000 from by rw [Nat.min_eq_left (by omega)] at hs0; rw [Nat.min_eq_left (by omega)] at hs0 ⊢; omega)
      have HTE := hid (show 4 + sumL M (min (k + 1) n) = 4 + sumL M (min k n) + (M k).length from by omega)
      clear hs hs0
      generalize M k = mm at *
      generalize K k = kk at *
      generalize H k = hh at *
      have j0 := fun ob => (hcs ob).1
      have j1 := fun ob => (hcs ob).2.1
      have j2 := fun ob => (hcs ob).2.2
      clear hcs
      have hk4 : (k : Int) < (n : Int) + 4 := by omega
      have RA := hid (hR.out.keep ((Fr.refl _ wr).alloc (.cells #[.int .i64 kk, .int .i64 hh, .string (ofL mm)] 34)))
      go_upto_region 21 with fail
      · rcases HQ.out with rfl | ⟨CQ, rfl⟩
        · go_wp2_with fail
          go_roundw
          case rel => exact ⟨k + 1, by omega, by go_num, hid (RA.out.mono (by rw [HTE.out]; omega) (by omega))⟩
          case measure => simp [intOf]; omega
        · go_wp2_with fail
          refine Calls.mono (RA.out.stepQ kk hh mm HTT.out (by omega)) ?_
          rintro x w7 ⟨rfl, hr⟩
          have RB := hid hr
          clear hr
          go_wp2_with fail
          refine Calls.mono (RB.out.looks (by omega)) ?_
          rintro x w8 ⟨rfl, hr⟩
          have RC := hid hr
          clear hr
          go_wp2_with fail
          go_roundw
          case rel => exact ⟨k + 1, by omega, by go_num, hid (RC.out.mono (by rw [HTE.out]; exact Nat.le_refl _) (by omega))⟩
          case measure => simp [intOf]; omega
      · rcases HP.out with rfl | ⟨CP, rfl⟩
        · go_wp2_with fail
          go_roundw
          case rel => exact ⟨k + 1, by omega, by go_num, hid (RA.out.mono (by rw [HTE.out]; omega) (by omega))⟩
          case measure => simp [intOf]; omega
        · go_wp2_with fail
          refine Calls.mono (RA.out.step kk hh mm HTT.out (by omega)) ?_
          rintro x w7 ⟨rfl, hr⟩
          have RB := hid hr
          clear hr
          go_wp2_with fail
          refine Calls.mono (RB.out.looks (by omega)) ?_
          rintro x w8 ⟨rfl, hr⟩
          have RC := hid hr
          clear hr
          go_wp2_with fail
          go_roundw
          case rel => exact ⟨k + 1, by omega, by go_num, hid (RC.out.mono (by rw [HTE.out]; exact Nat.le_refl _) (by omega))⟩
          case measure => simp [intOf]; omega
    · by_cases hlt4 : k < n + 4
      · have hk4 : (k : Int) < (n : Int) + 4 := by omega
        have hk5 : ¬ ((k : Int) < (n : Int)) := by omega
        have hs := HSU.out (min k n) (Nat.min_le_right _ _)
        have HTT := hid (show 4 + sumL M (min k n) + ([] : List UInt8).length ≤ 1100000 from by simp; omega)
        have HTE := hid (show 4 + sumL M (min (k + 1) n) = 4 + sumL M (min k n) + ([] : List UInt8).length from by rw [HS2.out k hlt]; rfl)
        have RA := hid (hR.out.keep ((Fr.refl _ wr).alloc (.cells #[.int .i64 2, .int .i64 (k : Int), .string ⟨#[]⟩] 34)))
        clear hs
        go_upto_region 21 with fail
        · rcases HQ.out with rfl | ⟨CQ, rfl⟩
          · go_wp2_with fail
            go_roundw
            case rel => exact ⟨k + 1, by omega, by go_num, hid (RA.out.mono (by rw [HTE.out]; omega) (by omega))⟩
            case measure => simp [intOf]; omega
          · go_wp2_with fail
            refine Calls.mono (RA.out.stepQ 2 (k : Int) [] HTT.out (by omega)) ?_
            rintro x w7 ⟨rfl, hr⟩
            have RB := hid hr
            clear hr
            go_wp2_with fail
            refine Calls.mono (RB.out.looks (by omega)) ?_
            rintro x w8 ⟨rfl, hr⟩
            have RC := hid hr
            clear hr
            go_wp2_with fail
            go_roundw
            case rel => exact ⟨k + 1, by omega, by go_num, hid (RC.out.mono (by rw [HTE.out]; exact Nat.le_refl _) (by omega))⟩
            case measure => simp [intOf]; omega
        · rcases HP.out with rfl | ⟨CP, rfl⟩
          · go_wp2_with fail
            go_roundw
            case rel => exact ⟨k + 1, by omega, by go_num, hid (RA.out.mono (by rw [HTE.out]; omega) (by omega))⟩
            case measure => simp [intOf]; omega
          · go_wp2_with fail
            refine Calls.mono (RA.out.step 2 (k : Int) [] HTT.out (by omega)) ?_
            rintro x w7 ⟨rfl, hr⟩
            have RB := hid hr
            clear hr
            go_wp2_with fail
            refine Calls.mono (RB.out.looks (by omega)) ?_
            rintro x w8 ⟨rfl, hr⟩
            have RC := hid hr
            clear hr
            go_wp2_with fail
            go_roundw
            case rel => exact ⟨k + 1, by omega, by go_num, hid (RC.out.mono (by rw [HTE.out]; exact Nat.le_refl _) (by omega))⟩
            case measure => simp [intOf]; omega
      · have hk4 : ¬ ((k : Int) < (n : Int) + 4) := by omega
        have HFR := hid hR.out.fr
        go_wp2_with fail
        go_ret
        exact ⟨rfl, HFR.out⟩
end Go.Proofs.YtmkkibaacclhnaaGreat

namespace Go.Proofs.YtmkkibaacclhnaaGreat
open Go.ChangeShapes Go.WideShapes Go.ChangeAt Go.RowKit
open Go.ChangeMaps (open_string shut_string)

theorem reads_own : ownKnob Tryz.prog.godebug = none := by kernel_rfl
theorem reads_laid : laidOutB Tryz.prog = true := by kernel_rfl
theorem Tryz.under22R : Tryz.prog.underlying 22 = some (.slice 34) := by kernel_rfl
theorem ofL_backC (s : ByteArray) : ofL s.data.toList = s := by
  cases s; rfl
theorem Tryz.cells34R : Tryz.prog.cellsOf 34 = 3 := by kernel_rfl
theorem Tryz.cells3R : Tryz.prog.cellsOf 3 = 1 := by kernel_rfl
theorem Tryz.cells9R : Tryz.prog.cellsOf 9 = 1 := by kernel_rfl
theorem Tryz.fields34R : (Tryz.prog.underlying 34).map (fun d => match d with | .struct fs => fs.toList.map (fun f => (f.type, f.offset)) | _ => []) = some [(3, 0), (3, 1), (9, 2)] := by kernel_rfl
theorem Tryz.struct34R : ∃ f0 f1 f2 : Field, Tryz.prog.underlying 34 = some (.struct #[f0, f1, f2]) ∧ (f0.type = 3 ∧ f0.offset = 0) ∧ (f1.type = 3 ∧ f1.offset = 1) ∧ f2.type = 9 ∧ f2.offset = 2 := by
  have h := Tryz.fields34R
  cases hu : Tryz.prog.underlying 34 with
  | none => rw [hu] at h; cases h
  | some d =>
    rw [hu] at h
    simp only [Option.map_some, Option.some.injEq] at h
    split at h
    · rename_i fs
      obtain ⟨l⟩ := fs
      match l, h with
      | [], h => cases h
      | [_], h => simp at h
      | [_, _], h => simp at h
      | [f0, f1, f2], h =>
        simp at h
        exact ⟨f0, f1, f2, rfl, h.1, h.2.1, h.2.2⟩
      | _ :: _ :: _ :: _ :: _, h => simp at h
    · cases h
theorem list_three {α : Type} (l : List α) (h : l.length = 3) : ∃ a b c, l = [a, b, c] := by
  match l, h with
  | [a, b, c], _ => exact ⟨a, b, c, rfl⟩
/-- a step as it is read -/
theorem open_step {H : Type} {enc : TypeId × Value → H} {w : World} {base : Nat} {spare : Nat → Bool} {held : Bool} {fuel : Nat} {a : Addr} {y : DataW H × List MemPlace}
    (h : (w.cells? base a (Tryz.prog.cellsOf 34)).bind (DataW.trod enc Tryz.prog w base spare held fuel 34) = some y) :
    ∃ (k z : Int) (s : ByteArray), w.cell? a = some (.int .i64 k) ∧ w.cell? (a.add 1) = some (.int .i64 z) ∧ w.cell? (a.add 2) = some (.string s) ∧ y = (.agg [.lit (.int .i64 k), .lit (.int .i64 z), .lit (.string s.data.toList)], []) := by
  obtain ⟨cs, hcs, hy⟩ := Option.bind_eq_some_iff.1 h
  obtain ⟨_, hl, hc⟩ := World.cells?_some hcs
  rw [Tryz.cells34R] at hl hc
  obtain ⟨f0, f1, f2, hu, ⟨t0, o0⟩, ⟨t1, o1⟩, t2, o2⟩ := Tryz.struct34R
  obtain ⟨xs, n, _, rfl, _, hxl, hf⟩ := DataW.trod_struct hu hy
  have g0 := hf 0 f0 rfl
  have g1 := hf 1 f1 rfl
  have g2 := hf 2 f2 rfl
  have hxl3 : xs.length = 3 := hxl
  clear hy hf hxl h hcs
  obtain ⟨c0, c1, c2, rfl⟩ := list_three cs hl
  obtain ⟨x0, x1, x2, rfl⟩ := list_three xs hxl3
  rw [t0, o0, Tryz.cells3R] at g0
  rw [t1, o1, Tryz.cells3R] at g1
  rw [t2, o2, Tryz.cells9R] at g2
  obtain ⟨k, e0, rfl, _⟩ := DataW.trod_int Tryz.underlying3 g0
  obtain ⟨z, e1, rfl, _⟩ := DataW.trod_int Tryz.underlying3 g1
  obtain ⟨s, e2, rfl, _⟩ := DataW.trod_string Tryz.underlying9 g2
  simp at e0 e1 e2
  subst e0 e1 e2
  have a0 := hc 0 (by omega)
  have a1 := hc 1 (by omega)
  have a2 := hc 2 (by omega)
  refine ⟨k, z, s, ?_, a1, a2, by simp⟩
  simpa [Addr.add] using a0
theorem bulk_snoc {H : Type} (ds : List (DataW H)) (d : DataW H) : Rows.uptoBulkAll (ds ++ [d]) = Rows.uptoBulkAll ds + Rows.uptoBulk d := by
  induction ds with
  | nil => simp [Rows.uptoBulkAll]
  | cons x ds ih =>
    simp only [List.cons_append, Rows.uptoBulkAll, ih]
    omega
def kOf {H : Type} (y : DataW H × List MemPlace) : Int := match y.1 with | .agg [.lit (.int _ k), _, _] => k | _ => 0
def hOf {H : Type} (y : DataW H × List MemPlace) : Int := match y.1 with | .agg [_, .lit (.int _ k), _] => k | _ => 0
def mOf {H : Type} (y : DataW H × List MemPlace) : List UInt8 := match y.1 with | .agg [_, _, .lit (.string m)] => m | _ => []
theorem sum_bulk {H : Type} (ys : List (DataW H × List MemPlace)) (hy : ∀ y ∈ ys, ∃ (k z : Int) (m : List UInt8), y.1 = .agg [.lit (.int .i64 k), .lit (.int .i64 z), .lit (.string m)]) :
    ∀ k, k ≤ ys.length → sumL (fun i => (ys[i]?.map mOf).getD []) k + 5 * k = Rows.uptoBulkAll ((ys.take k).map (·.1)) + k := by
  intro k
  induction k with
  | zero => intro _; simp [sumL, Rows.uptoBulkAll]
  | succ k ih =>
    intro hk
    have h1 := ih (by omega)
    have hlt : k < ys.length := by omega
    obtain ⟨kk, z, m, e⟩ := hy (ys[k]) (List.getElem_mem hlt)
    rw [List.take_succ_eq_append_getElem hlt, List.map_append, List.map_singleton, bulk_snoc, e]
    have e2 : mOf ys[k] = m := by unfold mOf; rw [e]
    simp only [sumL, List.getElem?_eq_getElem hlt, Option.map_some, Option.getD_some, e2, Rows.uptoBulk, Rows.uptoBulkAll]
    omega
set_option maxRecDepth 100000 in
theorem reads_contract (H : Type) (enc : TypeId × Value → H) (W : World) (base : Nat) (args : Array Value) (ds gs : List (DataW H)) (before : List MemPlace)
    (hval : ∀ (j : Nat) t v, Tryz.f3.params[j]? = some t → args[j]? = some v → Value.okWide Tryz.prog W .any base t v)
    (hW : DataW.Whole enc Tryz.prog Tryz.f3.params.toList Rows.readsSpec.vars false W args.toList ds gs before) (hk : Rows.uptoSmall H (ds ++ gs) = true) :
    Calls Tryz.prog 3 args W fun e W' => ∃ v, e = .returned v ∧ Rows.readsSpec.post enc Tryz.prog Tryz.f3 false true false false W args v W' := by
  have hW' := hW
  obtain ⟨p, q, hA0, hV, rfl, hfz, hnd⟩ := hW
  have hA : DataW.TrodAll enc Tryz.prog W 0 (fun _ => true) true Tryz.f3.params.toList args.toList ds p := hA0
  rw [Tryz.params3] at hA hval
  obtain ⟨v0, vs0, d0, ds0, p0, q0, hargs, rfl, rfl, h0, r0⟩ := trodAll_cons hA
  obtain ⟨v1, vs1, d1, ds1, p1, q1, rfl, rfl, rfl, h1, r1⟩ := trodAll_cons r0
  obtain ⟨v2, vs2, d2, ds2, p2, q2, rfl, rfl, rfl, h2, r2⟩ := trodAll_cons r1
  obtain ⟨rfl, rfl, rfl⟩ := trodAll_nil r2
  obtain rfl : args = #[v0, v1, v2] := by cases args; simp_all
  obtain ⟨rfl, rfl⟩ := trodVars_none hV
  obtain ⟨a0, rfl, rfl, rfl, w0⟩ := open_int Tryz.underlying3 (hval 0 3 v0 rfl rfl) h0
  obtain ⟨a1, rfl, rfl, rfl, w1⟩ := open_int Tryz.underlying3 (hval 1 3 v1 rfl rfl) h1
  obtain ⟨pa, n, cap, rfl⟩ := okWide_slice Tryz.under22R (hval 2 22 v2 rfl rfl)
  have h2k := h2
  obtain ⟨fuel, hf⟩ := h2
  clear hA0
  simp only [List.append_nil, List.nil_append] at hW' hk
  have hlt : ∀ x ∈ p2, x.block < W.heap.size := fun x hx => by simpa using hW'.lt x hx
  have hargs2 : ∀ (W' : World), Below W.heap.size W W' → DataW.Trod enc Tryz.prog W' 0 (fun b => decide (b < W.heap.size)) true 22 (.slice pa n cap) d2 p2 :=
    fun W' hn => Below.trod reads_laid (by kernel_rfl) (of_decide_eq_true (by kernel_rfl)) h2k hn hlt
  have hbulk : Rows.uptoBulkAll [DataW.lit (H := H) (.int .i64 a0), .lit (.int .i64 a1), d2] ≤ 1048576 := of_decide_eq_true hk
  simp only [Rows.uptoBulkAll, Rows.uptoBulk] at hbulk
  have close : ∀ (K Z : Nat → Int) (M : Nat → List UInt8), n ≤ 1048576 → sumL M n ≤ 1048576 → (0 < n → ∃ ad, pa = some ad) → (∀ ad, pa = some ad → 0 < n → ad.block < W.heap.size) →
      (∀ j ad, j < n → pa = some ad → W.cell? (ad.add (j * 3)) = some (.int .i64 (K j)) ∧ W.cell? ((ad.add (j * 3)).add 1) = some (.int .i64 (Z j)) ∧ W.cell? ((ad.add (j * 3)).add 2) = some (.string (ofL (M j)))) →
      Calls Tryz.prog 3 #[.int .i64 a0, .int .i64 a1, .slice pa n cap] W fun e W' => ∃ v, e = .returned v ∧ Rows.readsSpec.post enc Tryz.prog Tryz.f3 false true false false W #[.int .i64 a0, .int .i64 a1, .slice pa n cap] v W' := by
    intro K Z M hn hs hnil hb hel
    refine (reads_any a0 a1 pa n cap K Z M W hn hs hnil hb hel).mono fun e W' ⟨he, hg⟩ => ?_
    subst he
    exact ⟨_, rfl, _, _, _, [], p2, [], hW', trodAll_cons_mk (shut_bool Tryz.underlying4 _) trodAll_mk0, trodAll_mk3 (shut_int Tryz.underlying3 w0) (shut_int Tryz.underlying3 w1) (hargs2 W' hg.below), rfl, hg.below.frame _, fun h => by cases h⟩
  rcases DataW.trod_slice Tryz.under22R hf with ⟨hcs, hx⟩ | ⟨a, len', cap', elems, rest, n', _, hcs, hx, _, hl, hm, hlen, hel, _, _⟩
  · simp [Value.cells] at hcs
    obtain ⟨rfl, rfl, rfl⟩ := hcs
    exact close (fun _ => 0) (fun _ => 0) (fun _ => []) (by omega) (by simp [sumL]) (fun h => absurd h (by omega)) (fun ad h => by cases h) (fun j ad hj => absurd hj (by omega))
  · simp [Value.cells] at hcs
    obtain ⟨rfl, rfl, rfl⟩ := hcs
    simp only [Prod.mk.injEq] at hx
    obtain ⟨rfl, rfl⟩ := hx
    have each : ∀ i, i < n → ∃ (y : DataW H × List MemPlace) (k z : Int) (s : ByteArray), elems[i]? = some y ∧ W.cell? (a.add (i * 3)) = some (.int .i64 k) ∧ W.cell? ((a.add (i * 3)).add 1) = some (.int .i64 z) ∧ W.cell? ((a.add (i * 3)).add 2) = some (.string s) ∧ y = (.agg [.lit (.int .i64 k), .lit (.int .i64 z), .lit (.string s.data.toList)], []) := by
      intro i hi
      have h3 := hel i hi
      rw [List.getElem?_eq_getElem (show i < elems.length by omega)] at h3
      obtain ⟨k, z, s, c0, c1, c2, hy⟩ := open_step h3
      rw [Tryz.cells34R] at c0 c1 c2
      exact ⟨_, k, z, s, List.getElem?_eq_getElem (show i < elems.length by omega), c0, c1, c2, hy⟩
    have hb := sum_bulk elems (fun y hy => by
      obtain ⟨i, hi⟩ := List.getElem?_of_mem hy
      obtain ⟨y', k, z, s, e, _, _, _, rfl⟩ := each i (by have := (List.getElem?_eq_some_iff.1 hi).1; omega)
      rw [e] at hi
      simp at hi
      subst hi
      exact ⟨k, z, _, rfl⟩) n (by omega)
    rw [List.take_of_length_le (by omega)] at hb
    simp only [Rows.uptoBulk] at hbulk
    refine close (fun i => (elems[i]?.map kOf).getD 0) (fun i => (elems[i]?.map hOf).getD 0) (fun i => (elems[i]?.map mOf).getD []) (by omega) (by omega) (fun _ => ⟨a, rfl⟩) (fun ad e hpos => ?_) (fun j ad hj e => ?_)
    · cases e
      obtain ⟨b, off, spot⟩ := a
      refine hlt (.cell b off) (List.mem_append.2 (.inl (MemPlace.mem_row.2 ⟨0, ?_, by simp⟩)))
      rw [Tryz.cells34R]
      omega
    · cases e
      obtain ⟨y, k, z, s, e, c0, c1, c2, rfl⟩ := each j hj
      simp only [e, Option.map_some, Option.getD_some, kOf, hOf, mOf]
      rw [ofL_backC]
      exact ⟨c0, c1, c2⟩
set_option maxRecDepth 100000 in
theorem reads_lifted (os : Os) (started : os.Started) (H : Type) (enc : TypeId × Value → H) (F : Stop.Interp) :
    ReturnsInHanded {} Tryz.checked os 3 .any ((Rows.OpenSpec.upto Rows.readsSpec).pre6 enc Tryz.prog Tryz.f3 Rows.readsUptoRow.domain false) (((Rows.OpenSpec.upto Rows.readsSpec).at F).post enc Tryz.prog Tryz.f3 false true false false) := by
  refine returnsInHanded_of_cond (C := Tryz.checked) (s := Rows.OpenSpec.upto Rows.readsSpec) (k := Rows.uptoSmall) rfl reads_own started (by kernel_rfl) Tryz.func3
    (OpenSpec.witness (enc := enc) (C := Tryz.checked) (s := Rows.OpenSpec.upto Rows.readsSpec) (k := Rows.uptoSmall) rfl false ⟨#[], #[.int .i64 0, .int .i64 0, .slice none 0 0], []⟩ 8 (by kernel_rfl) (by kernel_rfl) (by kernel_rfl)
      (x := ([.lit (.int .i64 0), .lit (.int .i64 0), .nil], [], [])) (by kernel_rfl) rfl (by kernel_rfl)) ?_
  intro W base args ds gs before hval hW _ hk _
  exact reads_contract H enc W base args ds gs before hval hW hk
/-- What is claimed. -/
theorem reads_holds : Rows.ReadsUptoSaid :=
  OpenClaim.holds_of_cond 3 Tryz.f3 rfl rfl rfl rfl rfl rfl rfl ⟨rfl, rfl, rfl, rfl, rfl⟩ rfl rfl rfl rfl rfl (by kernel_rfl) Tryz.func3 (by kernel_rfl)
    (of_decide_eq_true (by kernel_rfl)) (by unfold Func.isWrapper; first | (rw [if_pos (by decide +kernel)]; kernel_rfl) | (rw [if_neg (by decide +kernel)]; exact ⟨rfl, rfl⟩))
    (fun os started H enc _ F => reads_lifted os started H enc F)
end Go.Proofs.YtmkkibaacclhnaaGreat
