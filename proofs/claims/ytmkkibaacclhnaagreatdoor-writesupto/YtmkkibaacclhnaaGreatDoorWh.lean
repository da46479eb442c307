/-
  A step of the walk, the part named Wh. No theorem of the row.
-/
import Derived.Test.YtmkkibaacclhnaaGreatDoorWg
namespace Go.Proofs.YtmkkibaacclhnaaGreatDoor
open Go.RowKit

theorem merges_all (w0 : World) (blk n cap bx : Nat) (D : Nat → Prop) (cf : Nat → Nat → Int) (R : Nat → Nat → Prop) (tr : ∀ x y z, R x y → R y z → R x z) (hC : CmpAt w0 blk #[.pointer (some ⟨bx, 0, none⟩)] D cf) (hn : n ≤ 10000000) (f : Nat) : Merges w0 blk n cap bx D cf R f := by
  induction f with
  | zero =>
    intro w a m b X A B Y hf h hX hm hb hA hB
    omega
  | succ f ih =>
    intro w a m b X A B Y hf h hX hm hb hA hB pA pB hCf hD
    by_cases hA1 : A.length = 1
    · obtain ⟨x0, rfl⟩ := List.length_eq_one_iff.1 hA1
      exact merge_first w0 w blk n cap a m b bx D cf R tr X B Y x0 h hX hm hb pB (fun y hy => hCf x0 (by simp) y hy) (hD x0 (by simp)) (fun x hx => hD x (by simp [hx])) hC hn
    · by_cases hB1 : B.length = 1
      · obtain ⟨y0, rfl⟩ := List.length_eq_one_iff.1 hB1
        exact merge_last w0 w blk n cap a m b bx D cf R tr X A Y y0 h hX (by omega) hm hb pA (fun x hx => hCf x hx y0 (by simp)) (hD y0 (by simp)) (fun x hx => hD x (by simp [hx])) hC hn
      · by_cases hmm : (a + b) / 2 < m
        · exact merge_mid_hi w0 w blk n cap a m b bx _ f D cf R tr ih hf X A B Y h hX (by omega) (by omega) hm hb rfl hmm pA pB hCf hD hC hn
        · exact merge_mid_lo w0 w blk n cap a m b bx _ f D cf R tr ih hf X A B Y h hX (by omega) (by omega) hm hb rfl hmm pA pB hCf hD hC hn
abbrev Bks := List (List Nat × List Nat)
def cat (l : Bks) : List Nat := (l.map (·.1)).flatten
def cato (l : Bks) : List Nat := (l.map (·.2)).flatten
theorem cat_append (a b : Bks) : cat (a ++ b) = cat a ++ cat b := by simp [cat]
theorem cato_append (a b : Bks) : cato (a ++ b) = cato a ++ cato b := by simp [cato]
theorem cat_one (p : List Nat × List Nat) : cat [p] = p.1 := by simp [cat]
theorem cato_one (p : List Nat × List Nat) : cato [p] = p.2 := by simp [cato]
theorem cat_cons (p : List Nat × List Nat) (l : Bks) : cat (p :: l) = p.1 ++ cat l := rfl
theorem cato_cons (p : List Nat × List Nat) (l : Bks) : cato (p :: l) = p.2 ++ cato l := rfl
/-- each part is what came, in order -/
def OkB (R : Nat → Nat → Prop) (l : Bks) : Prop := ∀ p, p ∈ l → p.1.Perm p.2 ∧ p.1.Pairwise R
/-- all parts have this length, but the last one may be shorter -/
def Full (s : Nat) : Bks → Prop
  | [] => True
  | [p] => p.1.length ≤ s
  | p :: q :: r => p.1.length = s ∧ Full s (q :: r)
def Whole (s : Nat) (l : Bks) : Prop := ∀ p, p ∈ l → p.1.length = s
theorem Full.of_whole {s : Nat} {l : Bks} (h : Whole s l) (p : List Nat × List Nat) (hp : p.1.length ≤ s) : Full s (l ++ [p]) := by
  induction l with
  | nil => exact hp
  | cons q l ih =>
    have h1 := ih (fun x hx => h x (by simp [hx]))
    cases l with
    | nil => exact ⟨h q (by simp), h1⟩
    | cons r l => exact ⟨h q (by simp), h1⟩
theorem Full.of_whole' {s : Nat} {l : Bks} (h : Whole s l) : Full s l := by
  induction l with
  | nil => trivial
  | cons q l ih =>
    have h1 := ih (fun x hx => h x (by simp [hx]))
    cases l with
    | nil => exact Nat.le_of_eq (h q (by simp))
    | cons r l => exact ⟨h q (by simp), h1⟩
theorem Full.tail {s : Nat} {p : List Nat × List Nat} {l : Bks} (h : Full s (p :: l)) : Full s l := by
  cases l with
  | nil => trivial
  | cons q l => exact h.2
/-- one part as long as all -/
theorem Full.one {R : Nat → Nat → Prop} {s : Nat} {l : Bks} (h : Full s l) (ho : OkB R l) (hs : (cat l).length ≤ s) (h0 : 0 < s) : (cat l).Perm (cato l) ∧ (cat l).Pairwise R := by
  match l, h with
  | [], _ => exact ⟨List.Perm.refl _, List.Pairwise.nil⟩
  | [p], _ =>
    rw [cat_one, cato_one]
    exact ho p (by simp)
  | p :: q :: r, h =>
    have h1 := h.1
    rw [cat_cons, List.length_append] at hs
    have h2 : (cat (q :: r)).length = 0 := by omega
    have hq := ho q (by simp)
    have h3 : q.1 = [] := by
      rw [cat_cons, List.length_append] at h2
      exact List.eq_nil_of_length_eq_zero (by omega)
    have hr : r = [] := by
      cases r with
      | nil => rfl
      | cons t r =>
        have h4 := h.2.1
        rw [h3] at h4
        simp at h4
        omega
    subst hr
    have h5 : q.2 = [] := by
      have := hq.1.length_eq
      rw [h3] at this
      exact List.eq_nil_of_length_eq_zero this.symm
    have hp := ho p (by simp)
    rw [cat_cons, cato_cons, cat_one, cato_one, h3, h5, List.append_nil, List.append_nil]
    exact hp
/-- the parts so far, and what is still as it came -/
structure InsAt (w0 w : World) (blk n cap : Nat) (R : Nat → Nat → Prop) (zs : List Nat) (a : Nat) (done : Bks) (Zr : List Nat) : Prop where
  z : zs = cato done ++ Zr
  la : (cat done).length = a
  wh : Whole 20 done
  ok : OkB R done
  d : DR w0 w blk n cap (cat done ++ Zr)
/-- the parts so far of the greater length, and those still to do -/
structure MgAt (w0 w : World) (blk n cap : Nat) (R : Nat → Nat → Prop) (zs : List Nat) (s a : Nat) (done rest : Bks) : Prop where
  z : zs = cato done ++ cato rest
  la : (cat done).length = a
  wh : Whole (2 * s) done
  ok : OkB R done
  fu : Full s rest
  ok2 : OkB R rest
  d : DR w0 w blk n cap (cat done ++ cat rest)
/-- all parts -/
structure PtAt (w0 w : World) (blk n cap : Nat) (R : Nat → Nat → Prop) (zs : List Nat) (s : Nat) (l : Bks) : Prop where
  z : zs = cato l
  fu : Full s l
  ok : OkB R l
  d : DR w0 w blk n cap (cat l)
theorem OkB.snoc {R : Nat → Nat → Prop} {l : Bks} (h : OkB R l) {p : List Nat × List Nat} (h1 : p.1.Perm p.2) (h2 : p.1.Pairwise R) : OkB R (l ++ [p]) := by
  intro q hq
  rcases List.mem_append.1 hq with hq | hq
  · exact h q hq
  · simp at hq; subst hq; exact ⟨h1, h2⟩
theorem Whole.snoc {s : Nat} {l : Bks} (h : Whole s l) {p : List Nat × List Nat} (h1 : p.1.length = s) : Whole s (l ++ [p]) := by
  intro q hq
  rcases List.mem_append.1 hq with hq | hq
  · exact h q hq
  · simp at hq; subst hq; exact h1
section
variable {w0 w : World} {blk n cap bx : Nat} {D : Nat → Prop} {cf : Nat → Nat → Int} {R : Nat → Nat → Prop} {zs : List Nat}
/-- one part more is put in order -/
theorem InsAt.next (tr : ∀ x y z, R x y → R y z → R x z) (hC : CmpAt w0 blk #[.pointer (some ⟨bx, 0, none⟩)] D cf) (hn : n ≤ 10000000) (hz : zs.Pairwise (Cf cf R)) (hD : ∀ x, x ∈ zs → D x) {a b : Nat} {done : Bks} {Zr : List Nat} (h : InsAt w0 w blk n cap R zs a done Zr) (hb : a + 20 = b) (hbn : b ≤ n) :
    Calls Tryz.prog 202 #[.slice (some ⟨blk, 0, none⟩) n cap, .int .i64 (a : Int), .int .i64 (b : Int), .func (.func 129) #[] #[.pointer (some ⟨bx, 0, none⟩)]] w fun e w' => e = .returned (.tuple #[]) ∧ ∃ done' Zr', InsAt w0 w' blk n cap R zs b done' Zr' := by
  have hl := h.d.len
  rw [List.length_append, h.la] at hl
  obtain ⟨Z, Y, rfl, hZ⟩ := cut_at Zr 20 (by omega)
  have hd : DR w0 w blk n cap (cat done ++ Z ++ Y) := by simpa using h.d
  have hz2 := hz
  rw [h.z, List.pairwise_append, List.pairwise_append] at hz2
  refine (insertion_any w0 w blk n cap a b bx D cf R tr (cat done) Z Y hd h.la (by omega) hz2.2.1.1 (fun x hx => hD x (by rw [h.z]; simp [hx])) hC hn).mono ?_
  rintro e w' ⟨he, Z', p1, p2, hd'⟩
  refine ⟨he, done ++ [(Z', Z)], Y, ?_, ?_, h.wh.snoc (by rw [p1.length_eq]; exact hZ), h.ok.snoc p1 p2, ?_⟩
  · rw [cato_append, cato_one, h.z]; simp
  · rw [cat_append, cat_one, List.length_append, h.la, p1.length_eq]; omega
  · rw [cat_append, cat_one]; exact hd'
theorem InsAt.last (tr : ∀ x y z, R x y → R y z → R x z) (hC : CmpAt w0 blk #[.pointer (some ⟨bx, 0, none⟩)] D cf) (hn : n ≤ 10000000) (hz : zs.Pairwise (Cf cf R)) (hD : ∀ x, x ∈ zs → D x) {a : Nat} {done : Bks} {Zr : List Nat} (h : InsAt w0 w blk n cap R zs a done Zr) (hb : n < a + 20) :
    Calls Tryz.prog 202 #[.slice (some ⟨blk, 0, none⟩) n cap, .int .i64 (a : Int), .int .i64 (n : Int), .func (.func 129) #[] #[.pointer (some ⟨bx, 0, none⟩)]] w fun e w' => e = .returned (.tuple #[]) ∧ ∃ l, PtAt w0 w' blk n cap R zs 20 l := by
  have hl := h.d.len
  rw [List.length_append, h.la] at hl
  have hd : DR w0 w blk n cap (cat done ++ Zr ++ []) := by simpa using h.d
  have hz2 := hz
  rw [h.z, List.pairwise_append] at hz2
  refine (insertion_any w0 w blk n cap a n bx D cf R tr (cat done) Zr [] hd h.la (by omega) hz2.2.1 (fun x hx => hD x (by rw [h.z]; simp [hx])) hC hn).mono ?_
  rintro e w' ⟨he, Z', p1, p2, hd'⟩
  refine ⟨he, done ++ [(Z', Zr)], ?_, Full.of_whole h.wh _ (by show Z'.length ≤ 20; rw [p1.length_eq]; omega), h.ok.snoc p1 p2, ?_⟩
  · rw [cato_append, cato_one, h.z]
  · rw [cat_append, cat_one]; simpa using hd'
/-- two parts become one -/
theorem MgAt.next (tr : ∀ x y z, R x y → R y z → R x z) (hC : CmpAt w0 blk #[.pointer (some ⟨bx, 0, none⟩)] D cf) (hn : n ≤ 10000000) (hz : zs.Pairwise (Cf cf R)) (hD : ∀ x, x ∈ zs → D x) {s a b : Nat} {done rest : Bks} (h : MgAt w0 w blk n cap R zs s a done rest) (h0 : 0 < s) (hb : a + 2 * s = b) (hbn : b ≤ n) :
    Calls Tryz.prog 203 #[.slice (some ⟨blk, 0, none⟩) n cap, .int .i64 (a : Int), .int .i64 ((a + s : Nat) : Int), .int .i64 (b : Int), .func (.func 129) #[] #[.pointer (some ⟨bx, 0, none⟩)]] w fun e w' => e = .returned (.tuple #[]) ∧ ∃ done' rest', MgAt w0 w' blk n cap R zs s b done' rest' := by
  obtain ⟨h1, h2, h3, h4, h5, h6, h7⟩ := h
  have hl := h7.len
  rw [List.length_append, h2] at hl
  match rest, h5 with
  | [], _ => simp [cat] at hl; omega
  | [p], h5 =>
    have h5 : p.1.length ≤ s := h5
    rw [cat_one] at hl
    omega
  | p :: q :: r, h5 =>
    rw [cat_cons, cat_cons, List.length_append, List.length_append] at hl
    have hp : p.1.length = s := h5.1
    have hq : q.1.length = s := by
      cases r with
      | nil =>
        have h8 : q.1.length ≤ s := h5.2
        simp [cat] at hl
        omega
      | cons t r => exact h5.2.1
    have op := h6 p (by simp)
    have oq := h6 q (by simp)
    have hd : DR w0 w blk n cap (cat done ++ p.1 ++ q.1 ++ cat r) := by rw [cat_cons, cat_cons] at h7; simpa using h7
    have hz2 := hz
    rw [h1, cato_cons, cato_cons, List.pairwise_append, List.pairwise_append] at hz2
    have hcf : ∀ x, x ∈ p.1 → ∀ y, y ∈ q.1 → Cf cf R x y := fun x hx y hy => hz2.2.1.2.2 x (op.1.mem_iff.1 hx) y (by simp [oq.1.mem_iff.1 hy])
    have hdm : ∀ x, x ∈ p.1 ++ q.1 → D x := fun x hx => hD x (by
      rw [h1, cato_cons, cato_cons]
      rcases List.mem_append.1 hx with hx | hx
      · simp [op.1.mem_iff.1 hx]
      · simp [oq.1.mem_iff.1 hx])
    refine (merges_all w0 blk n cap bx D cf R tr hC hn (b - a) w a (a + s) b (cat done) p.1 q.1 (cat r) (Nat.le_refl _) hd h2 (by omega) (by omega) (by omega) (by omega) op.2 oq.2 hcf hdm).mono ?_
    rintro e w' ⟨he, Z, p1, p2, hd'⟩
    refine ⟨he, done ++ [(Z, p.2 ++ q.2)], r, ?_, ?_, h3.snoc (by show Z.length = 2 * s; rw [p1.length_eq, List.length_append]; omega), h4.snoc (p1.trans (op.1.append oq.1)) p2, h5.tail.tail, fun x hx => h6 x (by simp [hx]), ?_⟩
    · rw [cato_append, cato_one, h1, cato_cons, cato_cons]; simp
    · rw [cat_append, cat_one, List.length_append, h2, p1.length_eq, List.length_append]; omega
    · rw [cat_append, cat_one]; exact hd'
theorem MgAt.last (tr : ∀ x y z, R x y → R y z → R x z) (hC : CmpAt w0 blk #[.pointer (some ⟨bx, 0, none⟩)] D cf) (hn : n ≤ 10000000) (hz : zs.Pairwise (Cf cf R)) (hD : ∀ x, x ∈ zs → D x) {s a : Nat} {done rest : Bks} (h : MgAt w0 w blk n cap R zs s a done rest) (h0 : 0 < s) (hb : n < a + 2 * s) (hm : a + s < n) :
    Calls Tryz.prog 203 #[.slice (some ⟨blk, 0, none⟩) n cap, .int .i64 (a : Int), .int .i64 ((a + s : Nat) : Int), .int .i64 (n : Int), .func (.func 129) #[] #[.pointer (some ⟨bx, 0, none⟩)]] w fun e w' => e = .returned (.tuple #[]) ∧ ∃ l, PtAt w0 w' blk n cap R zs (2 * s) l := by
  obtain ⟨h1, h2, h3, h4, h5, h6, h7⟩ := h
  have hl := h7.len
  rw [List.length_append, h2] at hl
  match rest, h5 with
  | [], _ => simp [cat] at hl; omega
  | [p], h5 =>
    have h5 : p.1.length ≤ s := h5
    rw [cat_one] at hl
    omega
  | p :: q :: r, h5 =>
    rw [cat_cons, cat_cons, List.length_append, List.length_append] at hl
    have hp : p.1.length = s := h5.1
    have hr : r = [] := by
      cases r with
      | nil => rfl
      | cons t r =>
        have h8 := h5.2.1
        omega
    subst hr
    simp [cat] at hl
    have op := h6 p (by simp)
    have oq := h6 q (by simp)
    have hd : DR w0 w blk n cap (cat done ++ p.1 ++ q.1 ++ []) := by rw [cat_cons, cat_one] at h7; simpa using h7
    have hz2 := hz
    rw [h1, cato_cons, cato_one, List.pairwise_append, List.pairwise_append] at hz2
    have hcf : ∀ x, x ∈ p.1 → ∀ y, y ∈ q.1 → Cf cf R x y := fun x hx y hy => hz2.2.1.2.2 x (op.1.mem_iff.1 hx) y (oq.1.mem_iff.1 hy)
    have hdm : ∀ x, x ∈ p.1 ++ q.1 → D x := fun x hx => hD x (by
      rw [h1, cato_cons, cato_one]
      rcases List.mem_append.1 hx with hx | hx
      · simp [op.1.mem_iff.1 hx]
      · simp [oq.1.mem_iff.1 hx])
    refine (merges_all w0 blk n cap bx D cf R tr hC hn (n - a) w a (a + s) n (cat done) p.1 q.1 [] (Nat.le_refl _) hd h2 (by omega) (by omega) (by omega) (by omega) op.2 oq.2 hcf hdm).mono ?_
    rintro e w' ⟨he, Z, p1, p2, hd'⟩
    refine ⟨he, done ++ [(Z, p.2 ++ q.2)], ?_, Full.of_whole h3 _ (by show Z.length ≤ 2 * s; rw [p1.length_eq, List.length_append]; omega), h4.snoc (p1.trans (op.1.append oq.1)) p2, ?_⟩
    · rw [cato_append, cato_one, h1, cato_cons, cato_one]
    · rw [cat_append, cat_one]; simpa using hd'
theorem MgAt.none {s a : Nat} {done rest : Bks} (h : MgAt w0 w blk n cap R zs s a done rest) (h0 : 0 < s) (hb : n < a + 2 * s) (hm : ¬ a + s < n) : ∃ l, PtAt w0 w blk n cap R zs (2 * s) l := by
  obtain ⟨h1, h2, h3, h4, h5, h6, h7⟩ := h
  have hl := h7.len
  rw [List.length_append, h2] at hl
  match rest, h5 with
  | [], _ => exact ⟨done, by simpa [cato] using h1, Full.of_whole' h3, h4, by simpa [cat] using h7⟩
  | [p], h5 =>
    have h5 : p.1.length ≤ s := h5
    exact ⟨done ++ [p], by rw [cato_append]; exact h1, Full.of_whole h3 p (by omega), h4.snoc (h6 p (by simp)).1 (h6 p (by simp)).2, by rw [cat_append]; exact h7⟩
  | p :: q :: r, h5 =>
    rw [cat_cons, cat_cons, List.length_append, List.length_append] at hl
    have hp : p.1.length = s := h5.1
    have hr : r = [] := by
      cases r with
      | nil => rfl
      | cons t r =>
        have h8 := h5.2.1
        omega
    subst hr
    have op := h6 p (by simp)
    have oq := h6 q (by simp)
    have hq1 : q.1 = [] := List.eq_nil_of_length_eq_zero (by omega)
    have hq2 : q.2 = [] := by
      have := oq.1.length_eq
      rw [hq1] at this
      exact List.eq_nil_of_length_eq_zero this.symm
    refine ⟨done ++ [p], ?_, Full.of_whole h3 p (by omega), h4.snoc op.1 op.2, ?_⟩
    · rw [cato_append, cato_one, h1, cato_cons, cato_one, hq2, List.append_nil]
    · rw [cat_append, cat_one]
      rw [cat_cons, cat_one, hq1, List.append_nil] at h7
      exact h7
end
end Go.Proofs.YtmkkibaacclhnaaGreatDoor
