/-
  What the walks share: a frame by a set of blocks, whole numbers in words of 32 bits, a natural in memory. No theorem of the row.
-/
import Derived.Test.YtmkkibaacclhnaaProg
import Derived.WalkKit
import Derived.WalkSpells
import Derived.WalkLawsBesides
import Derived.ArgAppend
namespace Go.Proofs.Ytmkkibaacclhnaa
open Go.RowKit

/-- All blocks that were there and are not in S are as they were. -/
structure Fr (S : Nat → Prop) (w w' : World) : Prop where
  os : w'.os = w.os
  tape : w'.tape = w.tape
  output : w'.output = w.output
  size : w.heap.size ≤ w'.heap.size
  block : ∀ k, k < w.heap.size → ¬ S k → w'.heap[k]? = w.heap[k]?

theorem Fr.refl (S : Nat → Prop) (w : World) : Fr S w w := ⟨rfl, rfl, rfl, Nat.le_refl _, fun _ _ _ => rfl⟩
theorem Fr.trans {S : Nat → Prop} {a b c : World} (h : Fr S a b) (k : Fr S b c) : Fr S a c :=
  ⟨k.os.trans h.os, k.tape.trans h.tape, k.output.trans h.output, Nat.le_trans h.size k.size, fun i hi hs => (k.block i (Nat.lt_of_lt_of_le hi h.size) hs).trans (h.block i hi hs)⟩
/-- What was laid in between is nobody's: the second step's set may hold blocks that are new. -/
theorem Fr.trans' {S T : Nat → Prop} {a b c : World} (h : Fr S a b) (k : Fr T b c) (hT : ∀ i, T i → S i ∨ a.heap.size ≤ i) : Fr S a c :=
  ⟨k.os.trans h.os, k.tape.trans h.tape, k.output.trans h.output, Nat.le_trans h.size k.size, fun i hi hs =>
    (k.block i (Nat.lt_of_lt_of_le hi h.size) (fun ht => by rcases hT i ht with h1 | h1; exact hs h1; omega)).trans (h.block i hi hs)⟩
theorem Fr.mono {S T : Nat → Prop} {a b : World} (h : Fr S a b) (hS : ∀ i, S i → T i) : Fr T a b :=
  ⟨h.os, h.tape, h.output, h.size, fun i hi ht => h.block i hi (fun hs => ht (hS i hs))⟩
theorem Fr.drew {S : Nat → Prop} {a w : World} (h : Fr S a w) : Fr S a w.drew := ⟨h.os, h.tape, h.output, h.size, h.block⟩
theorem Fr.drewN {S : Nat → Prop} {a w : World} (h : Fr S a w) (n : Nat) : Fr S a (w.drewN n) := ⟨h.os, h.tape, h.output, h.size, h.block⟩
theorem Fr.alloc {S : Nat → Prop} {a w : World} (h : Fr S a w) (o : Obj) : Fr S a (w.alloc o) :=
  ⟨h.os, h.tape, h.output, by have := h.size; simp; omega, fun i hi hs => (Below.heap_alloc w o i (Nat.lt_of_lt_of_le hi h.size)).trans (h.block i hi hs)⟩
theorem Fr.setCell {S : Nat → Prop} {a w : World} (h : Fr S a w) {p : Addr} (hp : S p.block ∨ a.heap.size ≤ p.block) (u : Value) : Fr S a (w.setCell p u) :=
  ⟨h.os, h.tape, h.output, by have := h.size; simpa [World.setCell] using this, fun i hi hs =>
    (Below.heap_setCell w p u i (by rintro rfl; rcases hp with h1 | h1; exact hs h1; omega)).trans (h.block i hi hs)⟩
theorem Fr.grown {S : Nat → Prop} {a w w' : World} {row : Option Nat} (h : Fr S a w) (hg : w.grownBy w' row) (hr : ∀ k, row = some k → S k ∨ a.heap.size ≤ k) : Fr S a w' :=
  ⟨hg.os.trans h.os, hg.tape.trans h.tape, hg.output.trans h.output, Nat.le_trans h.size hg.size, fun i hi hs =>
    (hg.block i (Nat.lt_of_lt_of_le hi h.size) (fun e => by rcases hr i e.symm with h1 | h1; exact hs h1; omega)).trans (h.block i hi hs)⟩
theorem Fr.cell {S : Nat → Prop} {w w' : World} (h : Fr S w w') {p : Addr} (hp : p.block < w.heap.size) (hs : ¬ S p.block) : w'.cell? p = w.cell? p := World.cell?_of_block (w := w) (h.block p.block hp hs)
theorem Fr.frozen {S : Nat → Prop} {w w' : World} (h : Fr S w w') {p : Addr} (hp : p.block < w.heap.size) (hs : ¬ S p.block) : w'.frozen? p = w.frozen? p := World.frozen?_of_block (w := w) (h.block p.block hp hs)
theorem Fr.heap {S : Nat → Prop} {w w' : World} (h : Fr S w w') {k : Nat} {o : Obj} (hk : w.heap[k]? = some o) (hs : ¬ S k) : w'.heap[k]? = some o := (h.block k (lt_of_block hk) hs).trans hk
/-- Nothing of the old blocks turned. -/
theorem Fr.below {w w' : World} (h : Fr (fun _ => False) w w') : Below w.heap.size w w' := ⟨h.os, h.tape, h.output, h.size, fun k hk => h.block k hk id⟩
theorem Fr.ofBelow {S : Nat → Prop} {w w' : World} (h : Below w.heap.size w w') : Fr S w w' := ⟨h.os, h.tape, h.output, h.size, fun k hk _ => h.block k hk⟩

/-! Whole numbers in words -/
def val : List Nat → Nat
  | [] => 0
  | x :: r => x + 4294967296 * val r
def Limbs (ws : List Nat) : Prop := ∀ x ∈ ws, x < 4294967296
def Top (ws : List Nat) : Prop := ws.getLast? ≠ some 0
def vs (ws : List Nat) : List Value := ws.map (fun x : Nat => Value.int .u32 (x : Int))

theorem val_append (a b : List Nat) : val (a ++ b) = val a + 4294967296 ^ a.length * val b := by
  induction a with
  | nil => simp [val]
  | cons x r ih => simp only [List.cons_append, val, ih, List.length_cons, Nat.pow_succ, Nat.mul_add, Nat.add_assoc]; congr 2; rw [← Nat.mul_assoc, Nat.mul_comm 4294967296]
theorem val_snoc (a : List Nat) (x : Nat) : val (a ++ [x]) = val a + 4294967296 ^ a.length * x := by rw [val_append]; simp [val]
theorem val_lt (a : List Nat) (h : Limbs a) : val a < 4294967296 ^ a.length := by
  induction a with
  | nil => simp [val]
  | cons x r ih =>
    have h1 := ih (fun y hy => h y (List.mem_cons_of_mem _ hy))
    have h2 := h x List.mem_cons_self
    simp only [val, List.length_cons, Nat.pow_succ]; omega
theorem vs_length (ws : List Nat) : (vs ws).length = ws.length := by simp [vs]
theorem vs_append (a b : List Nat) : vs (a ++ b) = vs a ++ vs b := by simp [vs]

/-- A natural in memory: its struct in block b, its words at the head of block g. -/
def IsNat (w : World) (b g : Nat) (ws : List Nat) : Prop :=
  ∃ cap T, w.heap[b]? = some (.cells #[.slice (some ⟨g, 0, none⟩) ws.length cap] T (0, 0)) ∧ w.ownsRow 0 127 1 (.slice (some ⟨g, 0, none⟩) ws.length cap) ws.length (vs ws) ∧ b ≠ g

theorem ownsRow_heap {w w' : World} {v : Value} {n : Nat} {xs : List Value} {g cap : Nat} (hv : v = .slice (some ⟨g, 0, none⟩) n cap) (h : w.ownsRow 0 127 1 v n xs) (hk : w'.heap[g]? = w.heap[g]?) : w'.ownsRow 0 127 1 v n xs := by
  obtain ⟨h1, h2⟩ := h
  refine ⟨h1, ?_⟩
  rcases h2 with h2 | ⟨g', cap', cur, hv', hg, hh, r⟩
  · exact Or.inl h2
  · rw [hv] at hv'; simp at hv'; obtain ⟨rfl, rfl⟩ := hv'
    exact Or.inr ⟨g, cap, cur, hv, hg, hk.trans hh, r⟩
theorem ownsRow_cap {w : World} {n : Nat} {xs : List Value} {base g cap : Nat} {e : TypeId} {size : Nat} (h : w.ownsRow base e size (.slice (some ⟨g, 0, none⟩) n cap) n xs) : n ≤ cap := by
  rcases h.2 with ⟨h2, _⟩ | ⟨g', cap', cur, hv, _, _, h3, _⟩
  · simp at h2
  · simp at hv; obtain ⟨rfl, rfl⟩ := hv; exact h3
theorem ownsRow_lt {w : World} {n : Nat} {xs : List Value} {g cap : Nat} (h : w.ownsRow 0 127 1 (.slice (some ⟨g, 0, none⟩) n cap) n xs) : g < w.heap.size := (h.lt g rfl).2
theorem IsNat.frame {S : Nat → Prop} {w w' : World} {b g : Nat} {ws : List Nat} (h : IsNat w b g ws) (hf : Fr S w w') (hb : ¬ S b) (hg : ¬ S g) : IsNat w' b g ws := by
  obtain ⟨cap, T, h1, h2, h3⟩ := h
  exact ⟨cap, T, hf.heap h1 hb, ownsRow_heap rfl h2 (hf.block g (ownsRow_lt h2) hg), h3⟩
theorem IsNat.drewN {w : World} {b g : Nat} {ws : List Nat} (h : IsNat w b g ws) (n : Nat) : IsNat (w.drewN n) b g ws := h
theorem IsNat.lt {w : World} {b g : Nat} {ws : List Nat} (h : IsNat w b g ws) : b < w.heap.size ∧ g < w.heap.size ∧ b ≠ g := by
  obtain ⟨cap, T, h1, h2, h3⟩ := h
  exact ⟨lt_of_block h1, ownsRow_lt h2, h3⟩

theorem ownsRow_base {w : World} {base e size : Nat} {v : Value} {n : Nat} {xs : List Value} (h : w.ownsRow base e size v n xs) : w.ownsRow 0 e size v n xs := by
  obtain ⟨h1, h2⟩ := h
  refine ⟨h1, ?_⟩
  rcases h2 with h2 | ⟨g, cap, cur, hv, hg, hh⟩
  · exact .inl h2
  · exact .inr ⟨g, cap, cur, hv, Nat.zero_le _, hh⟩

/-- append to a row of one's own: in its place, or in a new block. -/
theorem run_append_d {P : Program} (w : World) (t ty e : TypeId) (i : TypeInfo) (z : Value) (size bytes : Nat) (ht : P.underlying t = some (.slice e)) (hi : P.info? e = some i) (hz : i.zero = some z)
    (hsize : i.size = size) (hby : i.bytes = bytes) (hzs : z.cells.size = size) (hsz : 0 < size)
    (v : Value) (n : Nat) (xs : List Value) (hown : w.ownsRow 0 e size v n xs)
    (a : Addr) (m c : Nat) (news : List Value) (hl : news.length = m * size) (hnews : ∀ j u, news[j]? = some u → w.cell? (a.add j) = some u) (h1 : ∀ u ∈ news, u.oneCell' = true)
    (h63 : n + m ≤ maxLen) (hbytes : (n + m) * bytes ≤ 140737488355328) :
    ∃ v' w', (Builtin.append_ #[t, t] ty #[v, .slice (some a) m c]).run P w = .ok v' w' ∧ w'.ownsRow 0 e size v' (n + m) (xs ++ news) ∧ w.grownBy w' v.ownBlock ∧
      (∀ g', v'.ownBlock = some g' → v.ownBlock = some g' ∨ w.heap.size ≤ g') := by
  rcases hown.2 with ⟨rfl, rfl⟩ | ⟨g, cap, cur, rfl, hbg, hg, hnc, hcm, hcs, htake⟩
  · have hx : xs = [] := List.eq_nil_of_length_eq_zero (by simpa using hown.1)
    subst hx
    obtain ⟨v', w', h2, h3, h4, h5⟩ := run_append_own (P := P) w w.heap.size t ty e i z size bytes ht hi hz hsize hby hzs hsz _ 0 [] (World.ownsRow_nil w _ e size) a m c news hl hnews h1 h63 hbytes (Nat.le_refl _)
    exact ⟨v', w', h2, ownsRow_base h3, h4, fun g' hg' => .inr (h3.lt g' hg').1⟩
  · by_cases hroom : n + m ≤ cap
    · obtain ⟨w', h2, h3, h4⟩ := run_append_fits (P := P) w 0 t ty e i size ht hi hsize g n cap xs hown a m c news hl hnews h1 hroom
      exact ⟨_, w', h2, h3, h4, fun g' hg' => .inl hg'⟩
    · obtain ⟨v', w', h2, h3, h4⟩ := run_append_arg_grows (P := P) w t ty e i z size bytes ht hi hz hsize hby hzs hsz ⟨g, 0, none⟩ n cap xs hown.1 (hown.cells (g := g) rfl) a m c news hl hnews (by omega) h63 hbytes
      exact ⟨v', w', h2, ownsRow_base h3, ⟨h4.os, h4.tape, h4.output, h4.size, fun k hk _ => h4.block k hk (by simp)⟩, fun g' hg' => .inr (h3.lt g' hg').1⟩

theorem wpList_append_d {P : Program} (w : World) {ops : Array Oper} {rest : List Oper} {o : Oper} {a : Act} {Q : Exit → Act → World → Prop} (hgd : o.guard = none) (s x : Operand) (t : TypeId)
    (ho : o.op = .call { callee := .builtin .append, args := #[s, x], argTypes := #[t, t] })
    (e : TypeId) (i : TypeInfo) (z : Value) (size bytes : Nat) (ht : P.underlying t = some (.slice e)) (hi : P.info? e = some i) (hz : i.zero = some z)
    (hsize : i.size = size) (hby : i.bytes = bytes) (hzs : z.cells.size = size) (hsz : 0 < size)
    (v : Value) (n : Nat) (xs : List Value) (hs : a.eval s = v) (hown : w.ownsRow 0 e size v n xs)
    (ad : Addr) (m c : Nat) (news : List Value) (hx : a.eval x = .slice (some ad) m c) (hl : news.length = m * size) (hnews : ∀ j u, news[j]? = some u → w.cell? (ad.add j) = some u) (h1 : ∀ u ∈ news, u.oneCell' = true)
    (h63 : n + m ≤ maxLen) (hbytes : (n + m) * bytes ≤ 140737488355328)
    (h : ∀ v' w', w'.ownsRow 0 e size v' (n + m) (xs ++ news) → w.grownBy w' v.ownBlock → (∀ g', v'.ownBlock = some g' → v.ownBlock = some g' ∨ w.heap.size ≤ g') → wpList P ops Q rest (a.put o.dst v') w') : wpList P ops Q (o :: rest) a w := by
  refine wpList_plain hgd fun _ hK => ?_
  obtain ⟨v', w', hr, h2, h3, h4⟩ := run_append_d (P := P) w t o.type e i z size bytes ht hi hz hsize hby hzs hsz v n xs hown ad m c news hl hnews h1 h63 hbytes
  unfold Oper.wp execOp
  simp only [ho, resolve, invoke, builtin, Sem.run_bind, Sem.run_pure, Result.andThen_ok, List.map_toArray, List.map_cons, List.map_nil, hs, hx, hr]
  exact hK _ _ (h v' w' h2 h3 h4)

theorem row_succ {w : World} {base : Nat} {e : TypeId} {size : Nat} {v : Value} {k : Nat} {xs : List Value} (h : w.ownsRow base e size v (k + 1) xs) : ∃ g cap, v = .slice (some ⟨g, 0, none⟩) (k + 1) cap := by
  rcases h.2 with ⟨_, h2⟩ | ⟨g, cap, _, hv, _⟩
  · omega
  · exact ⟨g, cap, hv⟩

theorem IsNat.put {w : World} {b g cap T : Nat} {u : Value} {ws : List Nat} (hb : w.heap[b]? = some (.cells #[u] T (0, 0))) (ho : w.ownsRow 0 127 1 (.slice (some ⟨g, 0, none⟩) ws.length cap) ws.length (vs ws)) (hne : b ≠ g) :
    IsNat (w.setCell ⟨b, 0, none⟩ (.slice (some ⟨g, 0, none⟩) ws.length cap)) b g ws :=
  ⟨cap, T, one_setCell hb, ownsRow_heap rfl ho (Below.heap_setCell _ _ _ _ (by simpa using hne.symm)), hne⟩

/-! canonical words -/
theorem Limbs.nil : Limbs [] := by intro x hx; cases hx
theorem Limbs.append {a b : List Nat} (ha : Limbs a) (hb : Limbs b) : Limbs (a ++ b) := by
  intro x hx; rw [List.mem_append] at hx; rcases hx with hx | hx
  · exact ha x hx
  · exact hb x hx
theorem Limbs.left {a b : List Nat} (h : Limbs (a ++ b)) : Limbs a := fun x hx => h x (List.mem_append_left _ hx)
theorem Limbs.right {a b : List Nat} (h : Limbs (a ++ b)) : Limbs b := fun x hx => h x (List.mem_append_right _ hx)
theorem Limbs.one {x : Nat} (h : x < 4294967296) : Limbs [x] := by intro y hy; simp at hy; omega
theorem Limbs.take {a : List Nat} (h : Limbs a) (k : Nat) : Limbs (a.take k) := fun x hx => h x (List.mem_of_mem_take hx)
theorem Limbs.drop {a : List Nat} (h : Limbs a) (k : Nat) : Limbs (a.drop k) := fun x hx => h x (List.mem_of_mem_drop hx)
theorem top_of_ge (os : List Nat) (hl : Limbs os) (h : os = [] ∨ 4294967296 ^ (os.length - 1) ≤ val os) : Top os := by
  rcases List.eq_nil_or_concat os with rfl | ⟨i, x, rfl⟩
  · simp [Top]
  · rcases h with h | h
    · simp at h
    · rw [List.concat_eq_append] at *
      rw [val_snoc] at h
      have := val_lt i hl.left
      simp only [List.length_append, List.length_cons, List.length_nil, Nat.zero_add, Nat.add_sub_cancel] at h
      intro e
      simp at e
      subst e
      omega
theorem ge_of_top (os : List Nat) (ht : Top os) (h : os ≠ []) : 4294967296 ^ (os.length - 1) ≤ val os := by
  rcases List.eq_nil_or_concat os with rfl | ⟨i, x, rfl⟩
  · exact absurd rfl h
  · rw [List.concat_eq_append] at *
    rw [val_snoc]
    simp only [List.length_append, List.length_cons, List.length_nil, Nat.zero_add, Nat.add_sub_cancel]
    have hx : x ≠ 0 := by intro e; apply ht; simp [e]
    exact Nat.le_trans (Nat.le_mul_of_pos_right _ (by omega)) (Nat.le_add_left _ _)
theorem len_le (os : List Nat) (ht : Top os) (k : Nat) (h : val os < 4294967296 ^ k) : os.length ≤ k := by
  by_cases e : os = []
  · simp [e]
  · have := ge_of_top os ht e
    have h2 : 4294967296 ^ (os.length - 1) < 4294967296 ^ k := Nat.lt_of_le_of_lt this h
    have := (Nat.pow_lt_pow_iff_right (by omega : 1 < 4294967296)).1 h2
    omega
theorem val_zero (os : List Nat) (ht : Top os) (h : val os = 0) : os = [] := by
  have := len_le os ht 0 (by omega)
  exact List.eq_nil_of_length_eq_zero (by omega)
theorem lt_of_len (a b : List Nat) (ha : Limbs a) (hb : Top b) (h : a.length < b.length) : val a < val b := by
  have h1 := val_lt a ha
  have h2 := ge_of_top b hb (by intro e; subst e; simp at h)
  have h3 : 4294967296 ^ a.length ≤ 4294967296 ^ (b.length - 1) := Nat.pow_le_pow_right (by omega) (by omega)
  omega
theorem lt_of_word (a b : List Nat) (ha : Limbs a) (hl : a.length = b.length) (i : Nat) (hi : i < a.length) (hd : a.drop (i + 1) = b.drop (i + 1)) (hx : a[i] < b[i]) : val a < val b := by
  have e1 : a = a.take i ++ (a[i] :: a.drop (i + 1)) := by rw [List.getElem_cons_drop, List.take_append_drop]
  have e2 : b = b.take i ++ (b[i] :: b.drop (i + 1)) := by rw [List.getElem_cons_drop, List.take_append_drop]
  have h1 := val_lt (a.take i) (ha.take i)
  rw [e1, e2, val_append, val_append, hd]
  simp only [List.length_take, val]
  rw [Nat.min_eq_left (by omega), Nat.min_eq_left (by omega)]
  rw [List.length_take, Nat.min_eq_left (by omega)] at h1
  have : 4294967296 ^ i * (a[i] + 4294967296 * val (b.drop (i + 1)) + 1) ≤ 4294967296 ^ i * (b[i] + 4294967296 * val (b.drop (i + 1))) := Nat.mul_le_mul_left _ (by omega)
  rw [Nat.mul_add, Nat.mul_one] at this
  omega

/-- A natural of a value, its highest word not 0. -/
def Nt (w : World) (b g N : Nat) : Prop := ∃ ws, IsNat w b g ws ∧ Limbs ws ∧ Top ws ∧ val ws = N
theorem Nt.frame {S : Nat → Prop} {w w' : World} {b g N : Nat} (h : Nt w b g N) (hf : Fr S w w') (hb : ¬ S b) (hg : ¬ S g) : Nt w' b g N := by
  obtain ⟨ws, h1, h2⟩ := h
  exact ⟨ws, h1.frame hf hb hg, h2⟩
theorem Nt.lt {w : World} {b g N : Nat} (h : Nt w b g N) : b < w.heap.size ∧ g < w.heap.size ∧ b ≠ g := h.choose_spec.1.lt
/-- A number that is not too great (a thousand words). -/
def Sm (N : Nat) : Prop := N < 4294967296 ^ 1000
theorem Sm.len {ws : List Nat} (h : Sm (val ws)) (ht : Top ws) : ws.length ≤ 1000 := len_le ws ht 1000 h

theorem Try.info127 : (Try.prog.info? 127).map (fun i => (i.zero, i.size, i.bytes)) = some (some (.int .u32 0), 1, 4) := by kernel_rfl

end Go.Proofs.Ytmkkibaacclhnaa
