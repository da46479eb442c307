/-
  A step of the walk of the numbers, the part named Srch. No theorem of the row.
-/
import Derived.Test.YtmkkibaacclhnaaDec
import Derived.Test.YtmkkibaacclhnaaBits
namespace Go.Proofs.Ytmkkibaacclhnaa
open Go.RowKit

/-- blocks of A are as they were -/
def KeepA (A : Nat → Prop) (w w' : World) : Prop := ∀ i, A i → w'.heap[i]? = w.heap[i]?
theorem KeepA.refl (A : Nat → Prop) (w : World) : KeepA A w w := fun _ _ => rfl
theorem KeepA.trans {A : Nat → Prop} {a b c : World} (h : KeepA A a b) (k : KeepA A b c) : KeepA A a c := fun i hi => (k i hi).trans (h i hi)

theorem sx_opA {S A : Nat → Prop} {w0 w : World} {b N N' f : Nat} {args : Array Value} {l : List (Nat × Nat)} {e0 : Ending}
    (hc : ∀ g, Nt w b g N → Calls Try.prog f args w fun e w' => e = e0 ∧ ∃ g', Nt w' b g' N' ∧ Fr (fun i => i = b ∨ i = g) w w' ∧ (g' = g ∨ w.heap.size ≤ g'))
    (h : Sx S A w0 w ((b, N) :: l)) : Calls Try.prog f args w fun e w' => e = e0 ∧ Sx S A w0 w' ((b, N') :: l) ∧ KeepA A w w' := by
  obtain ⟨L, h1, h2, h3, h4, h5⟩ := h
  cases L with
  | nil => simp at h1
  | cons t L =>
    obtain ⟨b', g, N0⟩ := t
    simp at h1
    obtain ⟨⟨rfl, rfl⟩, h1⟩ := h1
    refine (hc g h2.1).mono ?_
    rintro e w' ⟨rfl, g', r1, r2, r3⟩
    refine ⟨rfl, Sx.step h1 h2 h3 h4 h5 r1 r2 r3, fun i hi => r2.block i (h5 i hi) ?_⟩
    have ha := (h4 _ List.mem_cons_self).2
    simp only at ha
    rintro (rfl | rfl)
    · exact ha.1 hi
    · exact ha.2 hi

theorem timesPlus_sa {S A : Nat → Prop} {w0 w : World} {l : List (Nat × Nat)} (b N f c : Nat) (hS : Sm N) (hf : f < 4294967296) (hf0 : 0 < f) (hc : c < 4294967296) (h : Sx S A w0 w ((b, N) :: l)) :
    Calls Try.prog 91 #[.pointer (some ⟨b, 0, none⟩), .int .u32 f, .int .u32 c] w fun e w' => e = .returned (.tuple #[]) ∧ Sx S A w0 w' ((b, f * N + c) :: l) ∧ KeepA A w w' :=
  sx_opA (fun g hg => timesPlus_nt b g N f c w hS hf hf0 hc hg) h
theorem timesPowerOfTen_sa {S A : Nat → Prop} {w0 w : World} {l : List (Nat × Nat)} (b N k : Nat) (hS : Sm (N * p10 k)) (hk : k ≤ 100000) (h : Sx S A w0 w ((b, N) :: l)) :
    Calls Try.prog 101 #[.pointer (some ⟨b, 0, none⟩), .int .i64 k] w fun e w' => e = .returned (.tuple #[]) ∧ Sx S A w0 w' ((b, N * p10 k) :: l) ∧ KeepA A w w' :=
  sx_opA (fun g hg => timesPowerOfTen_nt b g N k w hS hg hk) h
theorem shl_sa {S A : Nat → Prop} {w0 w : World} {l : List (Nat × Nat)} (b N k : Nat) (hk : k ≤ 30000) (hS : Sm (p2 k * N)) (h : Sx S A w0 w ((b, N) :: l)) :
    Calls Try.prog 83 #[.pointer (some ⟨b, 0, none⟩), .int .i64 k] w fun e w' => e = .returned (.tuple #[]) ∧ Sx S A w0 w' ((b, p2 k * N) :: l) ∧ KeepA A w w' :=
  sx_opA (fun g hg => shiftLeft_nt b g N k w hk hg hS) h
theorem subtract_sa {S A : Nat → Prop} {w0 w : World} {l : List (Nat × Nat)} (b N c M : Nat) (hS : Sm N) (hS2 : Sm M) (hge : M ≤ N) (h : Sx S A w0 w ((b, N) :: (c, M) :: l)) :
    Calls Try.prog 87 #[.pointer (some ⟨b, 0, none⟩), .pointer (some ⟨c, 0, none⟩)] w fun e w' => e = .returned (.tuple #[]) ∧ Sx S A w0 w' ((b, N - M) :: (c, M) :: l) ∧ KeepA A w w' := by
  obtain ⟨L, h1, h2, h3, h4, h5⟩ := h
  match L, h1 with
  | (b', g, N0) :: (c', h', M0) :: L, e1 =>
    simp at e1
    obtain ⟨⟨rfl, rfl⟩, ⟨rfl, rfl⟩, e1⟩ := e1
    have hd := h2.2.1 _ List.mem_cons_self
    simp only at hd
    refine (subtract_nt b' g c' h' N0 M0 w hS hS2 hge h2.1 h2.2.2.1 hd.1.symm hd.2.2.1.symm hd.2.1.symm hd.2.2.2.symm).mono ?_
    rintro e w' ⟨rfl, r1, r2⟩
    refine ⟨rfl, Sx.step (by simp [e1]) h2 h3 h4 h5 r1 r2 (.inl rfl), fun i hi => r2.block i (h5 i hi) ?_⟩
    have ha := (h4 _ List.mem_cons_self).2
    simp only at ha
    rintro (rfl | rfl)
    · exact ha.1 hi
    · exact ha.2 hi
theorem Sx.inA {S A : Nat → Prop} {w0 w : World} {l : List (Nat × Nat)} (h : Sx S A w0 w l) (i : Nat) (hi : A i) : i < w.heap.size := h.choose_spec.2.2.2.2 i hi
theorem Sx.rot {S A : Nat → Prop} {w0 w : World} {x : Nat × Nat} {l : List (Nat × Nat)} (h : Sx S A w0 w (x :: l)) : Sx S A w0 w (l ++ [x]) := h.perm (by simpa using (List.perm_append_comm (l₁ := [x]) (l₂ := l)))

/-- a search in memory: digits, power, the four naturals' blocks, the ends -/
def Seven (w : World) (B : Nat) (dg : Nat) (pw : Int) (br bl bh bu : Nat) (ends : Bool) : Prop :=
  w.heap[B]? = some (.cells #[.int .u64 dg, .int .i64 pw, .pointer (some ⟨br, 0, none⟩), .pointer (some ⟨bl, 0, none⟩), .pointer (some ⟨bh, 0, none⟩), .pointer (some ⟨bu, 0, none⟩), .bool ends] 101 (0, 0))
theorem Seven.cells {w : World} {B dg : Nat} {pw : Int} {br bl bh bu : Nat} {ends : Bool} (h : Seven w B dg pw br bl bh bu ends) :
    w.cell? ⟨B, 0, none⟩ = some (.int .u64 dg) ∧ w.cell? ⟨B, 1, none⟩ = some (.int .i64 pw) ∧ w.cell? ⟨B, 2, none⟩ = some (.pointer (some ⟨br, 0, none⟩)) ∧ w.cell? ⟨B, 3, none⟩ = some (.pointer (some ⟨bl, 0, none⟩)) ∧
    w.cell? ⟨B, 4, none⟩ = some (.pointer (some ⟨bh, 0, none⟩)) ∧ w.cell? ⟨B, 5, none⟩ = some (.pointer (some ⟨bu, 0, none⟩)) ∧ w.cell? ⟨B, 6, none⟩ = some (.bool ends) ∧ ∀ j, w.frozen? ⟨B, j, none⟩ = false := by
  unfold Seven at h
  simp [World.cell?, World.frozen?, h]
theorem Seven.set0 {w : World} {B dg : Nat} {pw : Int} {br bl bh bu : Nat} {ends : Bool} (h : Seven w B dg pw br bl bh bu ends) (d : Nat) : Seven (w.setCell ⟨B, 0, none⟩ (.int .u64 d)) B d pw br bl bh bu ends := by
  have := heap_setCell_same w B 0 _ 101 (.int .u64 d) h
  simpa [Seven] using this
theorem Seven.set1 {w : World} {B dg : Nat} {pw : Int} {br bl bh bu : Nat} {ends : Bool} (h : Seven w B dg pw br bl bh bu ends) (p : Int) : Seven (w.setCell ⟨B, 1, none⟩ (.int .i64 p)) B dg p br bl bh bu ends := by
  have := heap_setCell_same w B 1 _ 101 (.int .i64 p) h
  simpa [Seven] using this
theorem Seven.set3 {w : World} {B dg : Nat} {pw : Int} {br bl bh bu : Nat} {ends : Bool} (h : Seven w B dg pw br bl bh bu ends) (b : Nat) : Seven (w.setCell ⟨B, 3, none⟩ (.pointer (some ⟨b, 0, none⟩))) B dg pw br b bh bu ends := by
  have := heap_setCell_same w B 3 _ 101 (.pointer (some ⟨b, 0, none⟩)) h
  simpa [Seven] using this
theorem Seven.keep {w w' : World} {A : Nat → Prop} {B dg : Nat} {pw : Int} {br bl bh bu : Nat} {ends : Bool} (h : Seven w B dg pw br bl bh bu ends) (hk : KeepA A w w') (hA : A B) : Seven w' B dg pw br bl bh bu ends := (hk B hA).trans h

/-- the search with its numbers; A: B and what else is none of theirs -/
structure St (A : Nat → Prop) (w0 w : World) (B dg : Nat) (pw : Int) (R L H U : Nat) (br bl bh bu : Nat) (ends : Bool) : Prop where
  sv : Seven w B dg pw br bl bh bu ends
  sx : Sx (fun _ => False) A w0 w [(br, R), (bl, L), (bh, H), (bu, U)]
  inA : A B
  new : w0.heap.size ≤ B

theorem St.drewN {A : Nat → Prop} {w0 w : World} {B dg : Nat} {pw : Int} {R L H U br bl bh bu : Nat} {ends : Bool} (h : St A w0 w B dg pw R L H U br bl bh bu ends) (m : Nat) : St A w0 (w.drewN m) B dg pw R L H U br bl bh bu ends := ⟨h.sv, h.sx.drewN m, h.inA, h.new⟩
theorem St.set0 {A : Nat → Prop} {w0 w : World} {B dg : Nat} {pw : Int} {R L H U br bl bh bu : Nat} {ends : Bool} (h : St A w0 w B dg pw R L H U br bl bh bu ends) (d : Nat) : St A w0 (w.setCell ⟨B, 0, none⟩ (.int .u64 d)) B d pw R L H U br bl bh bu ends :=
  ⟨h.sv.set0 d, h.sx.other (T := fun i => i = B) ((Fr.refl (fun i => i = B) w).setCell (p := ⟨B, 0, none⟩) (.inl rfl) _) (fun i hi => .inr (by have := h.new; omega)) (fun i hi => by rw [hi]; exact h.inA), h.inA, h.new⟩
theorem St.set1 {A : Nat → Prop} {w0 w : World} {B dg : Nat} {pw : Int} {R L H U br bl bh bu : Nat} {ends : Bool} (h : St A w0 w B dg pw R L H U br bl bh bu ends) (p : Int) : St A w0 (w.setCell ⟨B, 1, none⟩ (.int .i64 p)) B dg p R L H U br bl bh bu ends :=
  ⟨h.sv.set1 p, h.sx.other (T := fun i => i = B) ((Fr.refl (fun i => i = B) w).setCell (p := ⟨B, 1, none⟩) (.inl rfl) _) (fun i hi => .inr (by have := h.new; omega)) (fun i hi => by rw [hi]; exact h.inA), h.inA, h.new⟩

theorem perm3 {α : Type} (a b c d : α) : [a, b, c, d].Perm [c, a, b, d] := by
  have : [a, b, c, d].Perm [a, c, b, d] := (List.Perm.swap _ _ _).cons _
  exact this.trans (List.Perm.swap _ _ _)
theorem St.r {A : Nat → Prop} {w0 w : World} {B dg : Nat} {pw : Int} {R L H U br bl bh bu : Nat} {ends : Bool} (h : St A w0 w B dg pw R L H U br bl bh bu ends) : Sx (fun _ => False) A w0 w [(br, R), (bl, L), (bh, H), (bu, U)] := h.sx
theorem sx_l {A : Nat → Prop} {w0 w : World} {r l h u : Nat × Nat} (hx : Sx (fun _ => False) A w0 w [r, l, h, u]) : Sx (fun _ => False) A w0 w [l, r, h, u] := hx.swap
theorem sx_h {A : Nat → Prop} {w0 w : World} {r l h u : Nat × Nat} (hx : Sx (fun _ => False) A w0 w [r, l, h, u]) : Sx (fun _ => False) A w0 w [h, r, l, u] := hx.perm (perm3 r l h u)
theorem sx_h' {A : Nat → Prop} {w0 w : World} {r l h u : Nat × Nat} (hx : Sx (fun _ => False) A w0 w [h, r, l, u]) : Sx (fun _ => False) A w0 w [r, l, h, u] := hx.perm (by
  have : [h, r, l, u].Perm [r, h, l, u] := List.Perm.swap _ _ _
  exact this.trans ((List.Perm.swap _ _ _).cons _))
theorem sx_u {A : Nat → Prop} {w0 w : World} {r l h u : Nat × Nat} (hx : Sx (fun _ => False) A w0 w [r, l, h, u]) : Sx (fun _ => False) A w0 w [u, r, l, h] := hx.perm (by
  have : ([r, l, h] ++ [u]).Perm ([u] ++ [r, l, h]) := List.perm_append_comm
  exact this)
theorem sx_u' {A : Nat → Prop} {w0 w : World} {r l h u : Nat × Nat} (hx : Sx (fun _ => False) A w0 w [u, r, l, h]) : Sx (fun _ => False) A w0 w [r, l, h, u] := hx.perm (by
  have : ([u] ++ [r, l, h]).Perm ([r, l, h] ++ [u]) := List.perm_append_comm
  exact this)
theorem sx_ru {A : Nat → Prop} {w0 w : World} {r l h u : Nat × Nat} (hx : Sx (fun _ => False) A w0 w [r, l, h, u]) : Sx (fun _ => False) A w0 w [r, u, l, h] := (sx_u hx).swap
theorem sx_ru' {A : Nat → Prop} {w0 w : World} {r l h u : Nat × Nat} (hx : Sx (fun _ => False) A w0 w [r, u, l, h]) : Sx (fun _ => False) A w0 w [r, l, h, u] := sx_u' hx.swap

/-- is a gap within its room -/
def wi (g r : Nat) (ends : Bool) : Bool := decide (g < r) || (decide (g = r) && ends)

set_option maxRecDepth 100000 in
set_option maxHeartbeats 1000000 in
theorem within_any {S A : Nat → Prop} {w0 w : World} {l l2 : List (Nat × Nat)} (B bg br G R : Nat) (ends : Bool) (hS : Sm G) (hS2 : Sm R) (h : Sx S A w0 w ((bg, G) :: l)) (h2 : Sx S A w0 w ((br, R) :: l2)) (hc : w.cell? ⟨B, 6, none⟩ = some (.bool ends)) :
    Calls Try.prog 88 #[.pointer (some ⟨B, 0, none⟩), .pointer (some ⟨bg, 0, none⟩), .pointer (some ⟨br, 0, none⟩)] w fun e w' => e = .returned (.bool (wi G R ends)) ∧ ∃ m, w' = w.drewN m := by
  have HX := hid h
  have HX2 := hid h2
  have H1 := hid hS
  have H2 := hid hS2
  clear h h2 hS hS2
  go_enter Try.func88, Try.ntmps88
  go_wp2_with fail
  refine (compare_sx bg G br R H1.out H2.out HX.out HX2.out).mono ?_
  rintro e w1 ⟨r, rfl, hr1, hr2, hr3, hr4, m, rfl⟩
  rcases Nat.lt_trichotomy G R with h | h | h
  · have hr : r < 0 := by omega
    have hw : Hid (wi G R ends = true) := by simp [Hid, wi, h]
    clear hr1 hr2 h
    go_wp2
    go_ret
    exact ⟨by rw [hw.out]; rfl, _, rfl⟩
  · have hr : r = 0 := by omega
    subst hr
    have hw : Hid (wi G R ends = ends) := by simp [Hid, wi, h]
    clear hr1 hr2 h
    cases ends
    · go_wp2
      go_ret
      exact ⟨by rw [hw.out]; rfl, _, rfl⟩
    · go_wp2
      go_ret
      exact ⟨by rw [hw.out]; rfl, _, rfl⟩
  · have hr : 0 < r := by omega
    have hrz : (r == 0) = false := beq_eq_false_iff_ne.2 (by omega)
    have hrd : decide (r < 0) = false := by rw [decide_eq_false_iff_not]; omega
    have hw : Hid (wi G R ends = false) := by simp [Hid, wi]; omega
    clear hr1 hr2 h
    go_wp2
    go_ret
    exact ⟨by rw [hw.out]; rfl, _, rfl⟩

set_option maxRecDepth 100000 in
set_option maxHeartbeats 1000000 in
theorem ten_any {S A : Nat → Prop} {w0 w : World} {l : List (Nat × Nat)} (b N : Nat) (hS : Sm N) (h : Sx S A w0 w ((b, N) :: l)) :
    Calls Try.prog 90 #[.pointer (some ⟨b, 0, none⟩)] w fun e w' => e = .returned (.tuple #[]) ∧ Sx S A w0 w' ((b, 10 * N) :: l) ∧ KeepA A w w' := by
  have HX := hid h
  have H1 := hid hS
  clear h hS
  go_enter Try.func90, Try.ntmps90
  go_wp2_with fail
  refine (timesPlus_sa b N 10 0 H1.out (by omega) (by omega) (by omega) HX.out).mono ?_
  rintro e w1 ⟨rfl, hx, hk⟩
  have HX1 := hid hx
  have HK := hid hk
  clear hx hk HX
  go_wp2
  go_end0
  exact ⟨rfl, HX1.out, HK.out⟩

set_option maxRecDepth 100000 in
set_option maxHeartbeats 1000000 in
theorem shiftBy_any {S A : Nat → Prop} {w0 w : World} {l : List (Nat × Nat)} (b N k bc : Nat) (hk : k ≤ 30000) (hS : Sm (p2 k * N)) (h : Sx S A w0 w ((b, N) :: l)) (hc : w.cell? ⟨bc, 0, none⟩ = some (.int .i64 k)) :
    Calls Try.prog 82 #[.pointer (some ⟨b, 0, none⟩), .pointer (some ⟨bc, 0, none⟩)] w fun e w' => e = .returned (.tuple #[]) ∧ Sx S A w0 w' ((b, p2 k * N) :: l) ∧ KeepA A w w' := by
  have HX := hid h
  have H1 := hid hS
  clear h hS
  go_enter Try.func82, Try.ntmps82
  go_wp2_with fail
  refine (shl_sa b N k hk H1.out HX.out).mono ?_
  rintro e w1 ⟨rfl, hx, hk⟩
  have HX1 := hid hx
  have HK := hid hk
  clear hx hk HX
  go_wp2
  go_end0
  exact ⟨rfl, HX1.out, HK.out⟩

set_option maxRecDepth 100000 in
set_option maxHeartbeats 1000000 in
theorem tensBy_any {S A : Nat → Prop} {w0 w : World} {l : List (Nat × Nat)} (b N k bc B : Nat) (hk : k ≤ 30000) (hS : Sm (N * p10 k)) (h : Sx S A w0 w ((b, N) :: l)) (hc : w.cell? ⟨bc, 0, none⟩ = some (.pointer (some ⟨B, 0, none⟩))) (hc1 : w.cell? ⟨B, 1, none⟩ = some (.int .i64 (-(k : Int)))) :
    Calls Try.prog 111 #[.pointer (some ⟨b, 0, none⟩), .pointer (some ⟨bc, 0, none⟩)] w fun e w' => e = .returned (.tuple #[]) ∧ Sx S A w0 w' ((b, N * p10 k) :: l) ∧ KeepA A w w' := by
  have HX := hid h
  have H1 := hid hS
  clear h hS
  go_enter Try.func111, Try.ntmps111
  go_wp2_with fail
  try rw [Int.neg_neg]
  refine (timesPowerOfTen_sa b N k H1.out (by omega) HX.out).mono ?_
  rintro e w1 ⟨rfl, hx, hk⟩
  have HX1 := hid hx
  have HK := hid hk
  clear hx hk HX
  go_wp2
  go_end0
  exact ⟨rfl, HX1.out, HK.out⟩

end Go.Proofs.Ytmkkibaacclhnaa
