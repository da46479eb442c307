/-
  A step of the walk, the part named Ua. No theorem of the row.
-/
import Derived.Test.YtmkkibaacclhnaaGreatSz
namespace Go.Proofs.YtmkkibaacclhnaaGreat
open Go.RowKit

/-- the head of a row of one's own -/
theorem rowHead {w : World} {e size g n m cap : Nat} {xs ys : List Value} (h : w.ownsRow 0 e size (.slice (some ⟨g, 0, none⟩) (n + m) cap) (n + m) (xs ++ ys)) (hx : xs.length = n * size) : w.ownsRow 0 e size (.slice (some ⟨g, 0, none⟩) n cap) n xs := by
  refine ⟨hx, ?_⟩
  rcases h.2 with ⟨h2, _⟩ | ⟨g', cap', cur, hv, h3, hg, h4, h5, h6, h7⟩
  · cases h2
  · simp at hv
    obtain ⟨rfl, rfl⟩ := hv
    refine .inr ⟨g, cap, cur, rfl, h3, hg, by omega, h5, h6, ?_⟩
    have hle : n * size ≤ (n + m) * size := Nat.mul_le_mul_right _ (by omega)
    have : (cur.toList.take ((n + m) * size)).take (n * size) = xs := by rw [h7, ← hx]; exact List.take_left
    rw [List.take_take, Nat.min_eq_left hle] at this
    exact this
/-- a shorter row in the same block is kept with the longer one -/
theorem rowPrefix {w w' : World} {e size g n k cap c1 : Nat} {xs ys : List Value} (hz : 0 < size) (hv : w.ownsRow 0 e size (.slice (some ⟨g, 0, none⟩) n cap) n xs) (hv' : w'.ownsRow 0 e size (.slice (some ⟨g, 0, none⟩) n cap) n xs) (he : w.ownsRow 0 e size (.slice (some ⟨g, 0, none⟩) k c1) k ys) (hk : k ≤ n) :
    w'.ownsRow 0 e size (.slice (some ⟨g, 0, none⟩) k c1) k ys := by
  refine ⟨he.1, ?_⟩
  rcases hv.2 with ⟨h2, _⟩ | ⟨g1, cap1, cur1, e1, a3, a4, a5, a6, a7, a8⟩
  · cases h2
  rcases hv'.2 with ⟨h2, _⟩ | ⟨g2, cap2, cur2, e2, b3, b4, b5, b6, b7, b8⟩
  · cases h2
  rcases he.2 with ⟨h2, _⟩ | ⟨g3, cap3, cur3, e3, d3, d4, d5, d6, d7, d8⟩
  · cases h2
  simp at e1 e2 e3
  obtain ⟨rfl, rfl⟩ := e1
  obtain ⟨rfl, rfl⟩ := e2
  obtain ⟨rfl, rfl⟩ := e3
  rw [a4] at d4
  injection d4 with d4
  injection d4 with d4
  subst d4
  have hc : c1 = cap := Nat.eq_of_mul_eq_mul_right hz (d7.symm.trans a7)
  subst hc
  refine .inr ⟨g, c1, cur2, rfl, d3, b4, d5, d6, b7, ?_⟩
  have hle : k * size ≤ n * size := Nat.mul_le_mul_right _ hk
  rw [← Nat.min_eq_left hle, ← List.take_take, b8, ← a8, List.take_take, Nat.min_eq_left hle]
  exact d8
theorem run_append_k {P : Program} (w : World) (t ty e : TypeId) (i : TypeInfo) (z : Value) (size bytes : Nat) (ht : P.underlying t = some (.slice e)) (hi : P.info? e = some i) (hz : i.zero = some z)
    (hsize : i.size = size) (hby : i.bytes = bytes) (hzs : z.cells.size = size) (hsz : 0 < size)
    (v : Value) (n : Nat) (xs : List Value) (hown : w.ownsRow 0 e size v n xs)
    (a : Addr) (m c : Nat) (news : List Value) (hl : news.length = m * size) (hnews : ∀ j u, news[j]? = some u → w.cell? (a.add j) = some u) (h1 : ∀ u ∈ news, u.oneCell' = true)
    (h63 : n + m ≤ maxLen) (hbytes : (n + m) * bytes ≤ 140737488355328) :
    ∃ v' w', (Builtin.append_ #[t, t] ty #[v, .slice (some a) m c]).run P w = .ok v' w' ∧ w'.ownsRow 0 e size v' (n + m) (xs ++ news) ∧ w.grownBy w' v.ownBlock ∧
      (∀ g', v'.ownBlock = some g' → v.ownBlock = some g' ∨ w.heap.size ≤ g') ∧ w'.ownsRow 0 e size v n xs := by
  rcases hown.2 with ⟨rfl, rfl⟩ | ⟨g, cap, cur, rfl, hbg, hg, hnc, hcm, hcs, htake⟩
  · have hx : xs = [] := List.eq_nil_of_length_eq_zero (by simpa using hown.1)
    subst hx
    obtain ⟨v', w', h2, h3, h4, h5⟩ := run_append_own (P := P) w w.heap.size t ty e i z size bytes ht hi hz hsize hby hzs hsz _ 0 [] (World.ownsRow_nil w _ e size) a m c news hl hnews h1 h63 hbytes (Nat.le_refl _)
    exact ⟨v', w', h2, ownsRow_base h3, h4, fun g' hg' => .inr (h3.lt g' hg').1, World.ownsRow_nil w' 0 e size⟩
  · by_cases hroom : n + m ≤ cap
    · obtain ⟨w', h2, h3, h4⟩ := run_append_fits (P := P) w 0 t ty e i size ht hi hsize g n cap xs hown a m c news hl hnews h1 hroom
      exact ⟨_, w', h2, h3, h4, fun g' hg' => .inl hg', rowHead h3 hown.1⟩
    · obtain ⟨v', w', h2, h3, h4⟩ := run_append_arg_grows (P := P) w t ty e i z size bytes ht hi hz hsize hby hzs hsz ⟨g, 0, none⟩ n cap xs hown.1 (hown.cells (g := g) rfl) a m c news hl hnews (by omega) h63 hbytes
      exact ⟨v', w', h2, ownsRow_base h3, ⟨h4.os, h4.tape, h4.output, h4.size, fun k hk _ => h4.block k hk (by simp)⟩, fun g' hg' => .inr (h3.lt g' hg').1, rowSame hown (fun i hi => h4.block i (rowIn hown hi) (by simp))⟩
theorem wpList_append_k {P : Program} (w : World) {ops : Array Oper} {rest : List Oper} {o : Oper} {a : Act} {Q : Exit → Act → World → Prop} (hgd : o.guard = none) (s x : Operand) (t : TypeId)
    (ho : o.op = .call { callee := .builtin .append, args := #[s, x], argTypes := #[t, t] })
    (e : TypeId) (i : TypeInfo) (z : Value) (size bytes : Nat) (ht : P.underlying t = some (.slice e)) (hi : P.info? e = some i) (hz : i.zero = some z)
    (hsize : i.size = size) (hby : i.bytes = bytes) (hzs : z.cells.size = size) (hsz : 0 < size)
    (v : Value) (n : Nat) (xs : List Value) (hs : a.eval s = v) (hown : w.ownsRow 0 e size v n xs)
    (ad : Addr) (m c : Nat) (news : List Value) (hx : a.eval x = .slice (some ad) m c) (hl : news.length = m * size) (hnews : ∀ j u, news[j]? = some u → w.cell? (ad.add j) = some u) (h1 : ∀ u ∈ news, u.oneCell' = true)
    (h63 : n + m ≤ maxLen) (hbytes : (n + m) * bytes ≤ 140737488355328)
    (h : ∀ v' w', w'.ownsRow 0 e size v' (n + m) (xs ++ news) → w.grownBy w' v.ownBlock → (∀ g', v'.ownBlock = some g' → v.ownBlock = some g' ∨ w.heap.size ≤ g') → w'.ownsRow 0 e size v n xs → wpList P ops Q rest (a.put o.dst v') w') : wpList P ops Q (o :: rest) a w := by
  refine wpList_plain hgd fun _ hK => ?_
  obtain ⟨v', w', hr, h2, h3, h4, h5⟩ := run_append_k (P := P) w t o.type e i z size bytes ht hi hz hsize hby hzs hsz v n xs hown ad m c news hl hnews h1 h63 hbytes
  unfold Oper.wp execOp
  simp only [ho, resolve, invoke, builtin, Sem.run_bind, Sem.run_pure, Result.andThen_ok, List.map_toArray, List.map_cons, List.map_nil, hs, hx, hr]
  exact hK _ _ (h v' w' h2 h3 h4 h5)
end Go.Proofs.YtmkkibaacclhnaaGreat

namespace Go.Proofs.YtmkkibaacclhnaaGreat
open Go.RowKit

/-- the book is what it was where one more is put behind a list of its own -/
theorem BkAt.item {b : Nat} {F : Nat → Prop} {W w1 : World} {n N : Nat} {v g : Value} {es : List (Value × Int × Nat)} {ob : Obj} {z : Int} (h : BkAt b F W n v es) (hrow : W.ownsRow 0 59 4 g N (repC z N))
    (hsh : ∀ e, e ∈ es → ∀ i, e.1.ownBlock = some i → g.ownBlock = some i → e.2.2 ≤ N) (hold : w1.ownsRow 0 59 4 g N (repC z N)) (hg : (W.alloc ob).grownBy w1 g.ownBlock) : BkAt b F w1 n v es := by
  obtain ⟨h1, h2, h3, h4, h5, h6⟩ := h
  have hk : ∀ i, i < W.heap.size → g.ownBlock ≠ some i → w1.heap[i]? = W.heap[i]? := fun i hi hv => by
    rw [hg.block i (by simp; omega) (fun e => hv e.symm), Below.heap_alloc _ _ _ hi]
  have hs : W.heap.size ≤ w1.heap.size := by
    have := hg.size
    simp at this
    omega
  refine ⟨(hk b (lt_of_block h1) (rowT hrow h1 (by decide))).trans h1, rowSame h2 (fun i hi => ?_), ?_, h4, h5, fun i hi => Nat.lt_of_lt_of_le (h6 i hi) hs⟩
  · obtain ⟨cur, hc⟩ := rowBlk h2 hi
    exact hk i (rowIn h2 hi) (rowT hrow hc (by decide))
  · intro e he
    obtain ⟨hr, hf⟩ := h3 e he
    refine ⟨?_, hf⟩
    by_cases hsame : ∃ i, e.1.ownBlock = some i ∧ g.ownBlock = some i
    · obtain ⟨i, hi1, hi2⟩ := hsame
      have hle := hsh e he i hi1 hi2
      obtain ⟨ev, ez, ek⟩ := e
      have hr : W.ownsRow 0 59 4 ev ek (repC ez ek) := hr
      have hi1 : ev.ownBlock = some i := hi1
      have hle : ek ≤ N := hle
      show w1.ownsRow 0 59 4 ev ek (repC ez ek)
      obtain ⟨i1, c1, q⟩ : ∃ i1 c1, ev = .slice (some ⟨i1, 0, none⟩) ek c1 := by
        rcases hr.2 with ⟨q, _⟩ | ⟨i1, c1, cur1, q, _⟩
        · rw [q] at hi1; cases hi1
        · exact ⟨i1, c1, q⟩
      obtain ⟨i2, c2, q2⟩ : ∃ i2 c2, g = .slice (some ⟨i2, 0, none⟩) N c2 := by
        rcases hrow.2 with ⟨q, _⟩ | ⟨i1, c1, cur1, q, _⟩
        · rw [q] at hi2; cases hi2
        · exact ⟨i1, c1, q⟩
      subst q
      subst q2
      have e1 : i1 = i := by simpa [Value.ownBlock] using hi1
      have e2 : i2 = i := by simpa [Value.ownBlock] using hi2
      rw [e1] at hr ⊢
      rw [e2] at hrow hold
      exact rowPrefix (by decide) hrow hold hr hle
    · exact rowSame hr (fun i hi => hk i (rowIn hr hi) (fun e2 => hsame ⟨i, hi, e2⟩))
/-- behind a list: how far it has come -/
structure BehAt (b : Nat) (F : Nat → Prop) (w0 w : World) (n : Nat) (V : Value) (es : List (Value × Int × Nat)) (X len k : Nat) (g : Value) (F' : Nat → Prop) (v' : Value) (es' : List (Value × Int × Nat)) : Prop where
  bk : BkAt b F' w n v' es'
  ln : es'.length = es.length + 1 + k
  row : w.ownsRow 0 59 4 g (len + k) (repC (-((n : Int))) (len + k))
  own : ∀ i, g.ownBlock = some i → F' i
  blk : w.heap[X]? = some (.cells #[.int .i64 (-((n : Int))), .int .i64 0, .int .u64 0, .string ⟨#[]⟩] 59 (0, 0))
  nf : ¬ F' X
  fr : Fr (fun i => F i ∨ V.ownBlock = some i) w0 w
  sub : ∀ i, F' i → F i ∨ V.ownBlock = some i ∨ w0.heap.size ≤ i
  ent : ∀ e, e ∈ es' → e ∈ es ∨ e.2.2 ≤ len + 3
  sh : ∀ e, e ∈ es' → ∀ i, e.1.ownBlock = some i → g.ownBlock = some i → e.2.2 ≤ len + k
theorem BehAt.start {b : Nat} {F : Nat → Prop} {w0 W w1 w2 : World} {n : Nat} {v v' V : Value} {es : List (Value × Int × Nat)} {X len : Nat} (h : OvAt b F w0 W n v V es X len (repC (-((n : Int))) len)) (hVF : ∀ i, V.ownBlock = some i → ¬ F i)
    (hb : BkAt b (fun i => F i ∨ V.ownBlock = some i ∨ (W.heap.size ≤ i ∧ i < w1.heap.size)) w2 n v' (es ++ [(V, -((n : Int)), len)])) (hf : Fr F W w2) :
    BehAt b F w0 w2 n V es X len 0 V (fun i => F i ∨ V.ownBlock = some i ∨ (W.heap.size ≤ i ∧ i < w1.heap.size)) v' (es ++ [(V, -((n : Int)), len)]) := by
  have hX := lt_of_block h.blk
  have hs := h.fr.size
  refine ⟨hb, by simp, (hb.ent (V, -((n : Int)), len) (by simp)).1, fun i hi => .inr (.inl hi), (hf.block X hX h.nf).trans h.blk, ?_, h.fr.trans (hf.mono (fun i hi => .inl hi)), ?_, ?_, ?_⟩
  · rintro (h1 | h1 | h1)
    · exact h.nf h1
    · exact h.nx h1
    · omega
  · rintro i (h1 | h1 | h1)
    · exact .inl h1
    · exact .inr (.inl h1)
    · exact .inr (.inr (by omega))
  · intro e he
    rcases List.mem_append.1 he with he | he
    · exact .inl he
    · obtain rfl : e = (V, -((n : Int)), len) := by simpa using he
      exact .inr (by show len ≤ len + 3; omega)
  · intro e he i h1 h2
    rcases List.mem_append.1 he with he | he
    · exact absurd ((h.bk.ent e he).2 i h1) (hVF i h2)
    · obtain rfl : e = (V, -((n : Int)), len) := by simpa using he
      show len ≤ len + 0
      omega
theorem BehAt.next {b : Nat} {F F' : Nat → Prop} {w0 W w1 w2 w3 : World} {n : Nat} {v v3 V g g' : Value} {es es1 : List (Value × Int × Nat)} {X len k : Nat} {ob : Obj} (h : BehAt b F w0 W n V es X len k g F' v es1) (hk : k < 3)
    (hgr : (W.alloc ob).grownBy w1 g.ownBlock) (hn : ∀ i, g'.ownBlock = some i → g.ownBlock = some i ∨ W.heap.size + 1 ≤ i)
    (hb : BkAt b (fun i => F' i ∨ g'.ownBlock = some i ∨ (w1.drew.heap.size ≤ i ∧ i < w2.heap.size)) w3 n v3 (es1 ++ [(g', -((n : Int)), len + (k + 1))])) (hf : Fr F' w1.drew w3) :
    BehAt b F w0 w3 n V es X len (k + 1) g' (fun i => F' i ∨ g'.ownBlock = some i ∨ (w1.drew.heap.size ≤ i ∧ i < w2.heap.size)) v3 (es1 ++ [(g', -((n : Int)), len + (k + 1))]) := by
  have hX := lt_of_block h.blk
  have hs := h.fr.size
  have hs1 : W.heap.size + 1 ≤ w1.heap.size := by have := hgr.size; simpa using this
  have hd : w1.drew.heap.size = w1.heap.size := rfl
  have hgX : g.ownBlock ≠ some X := fun e => h.nf (h.own X e)
  have f1 : Fr F' W w1 := ((Fr.refl F' W).alloc ob).grown hgr (fun i hi => .inl (h.own i hi))
  have f2 : Fr F' W w3 := f1.drew.trans hf
  refine ⟨hb, by rw [List.length_append, h.ln]; simp; omega, (hb.ent (g', -((n : Int)), len + (k + 1)) (by simp)).1, fun i hi => .inr (.inl hi), (f2.block X hX h.nf).trans h.blk, ?_, h.fr.trans' f2 (fun i hi => ?_), ?_, ?_, ?_⟩
  · rintro (h1 | h1 | h1)
    · exact h.nf h1
    · rcases hn X h1 with h2 | h2
      · exact hgX h2
      · omega
    · omega
  · rcases h.sub i hi with h1 | h1 | h1
    · exact .inl (.inl h1)
    · exact .inl (.inr h1)
    · exact .inr h1
  · rintro i (h1 | h1 | h1)
    · exact h.sub i h1
    · rcases hn i h1 with h2 | h2
      · exact h.sub i (h.own i h2)
      · exact .inr (.inr (by omega))
    · exact .inr (.inr (by omega))
  · intro e he
    rcases List.mem_append.1 he with he | he
    · exact h.ent e he
    · obtain rfl : e = (g', -((n : Int)), len + (k + 1)) := by simpa using he
      exact .inr (by show len + (k + 1) ≤ len + 3; omega)
  · intro e he i h1 h2
    rcases List.mem_append.1 he with he | he
    · rcases hn i h2 with h3 | h3
      · exact Nat.le_trans (h.sh e he i h1 h3) (by omega)
      · have := h.bk.lt i ((h.bk.ent e he).2 i h1)
        omega
    · obtain rfl : e = (g', -((n : Int)), len + (k + 1)) := by simpa using he
      exact Nat.le_refl _
end Go.Proofs.YtmkkibaacclhnaaGreat

namespace Go.Proofs.YtmkkibaacclhnaaGreat
open Go.RowKit

theorem Tryz.info57 : (Tryz.prog.info? 57).map (fun i => (i.zero, i.size, i.bytes)) = some (some (.agg #[.slice none 0 0, .int .i64 0]), 2, 32) := by kernel_rfl
theorem OvAt.drew {b : Nat} {F : Nat → Prop} {w0 w : World} {n : Nat} {v V : Value} {es : List (Value × Int × Nat)} {X len : Nat} {cs : List Value} (h : OvAt b F w0 w n v V es X len cs) : OvAt b F w0 w.drew n v V es X len cs :=
  ⟨h.bk.keep (fun _ _ => rfl) (Nat.le_refl _), h.row, h.blk, h.fr.drew, h.nx, h.nf, h.sz⟩
/-- what a list that came out leaves -/
def TakePost (b : Nat) (F : Nat → Prop) (w0 : World) (n : Nat) (V : Value) (es : List (Value × Int × Nat)) (len : Nat) (w' : World) : Prop :=
  ∃ F' v' es', BkAt b F' w' n v' es' ∧ es'.length = es.length + 4 ∧ Fr (fun i => F i ∨ V.ownBlock = some i) w0 w' ∧ (∀ i, F' i → F i ∨ V.ownBlock = some i ∨ w0.heap.size ≤ i) ∧ ∀ e, e ∈ es' → e ∈ es ∨ e.2.2 ≤ len + 3
theorem TakePost.of {b : Nat} {F : Nat → Prop} {w0 w : World} {n : Nat} {V g : Value} {es es' : List (Value × Int × Nat)} {X len : Nat} {F' : Nat → Prop} {v' : Value} (h : BehAt b F w0 w n V es X len 3 g F' v' es') : TakePost b F w0 n V es len w :=
  ⟨F', v', es', h.bk, by rw [h.ln], h.fr, h.sub, h.ent⟩
theorem two_new (w : World) (a b : Value) (e : Nat) : ∀ j u, [a, b][j]? = some u → (w.alloc (.cells #[a, b] e)).cell? ((⟨w.heap.size, 0, none⟩ : Addr).add j) = some u := by
  intro j u hj
  have hn := heap_alloc_new w (.cells #[a, b] e)
  match j, hj with
  | 0, hj => simp at hj; subst hj; exact blk_cell hn rfl
  | 1, hj => simp at hj; subst hj; exact blk_cell hn rfl
set_option maxRecDepth 100000 in
set_option maxHeartbeats 16000000 in
theorem takeItems_any (b : Nat) (F : Nat → Prop) (w : World) (n : Nat) (v : Value) (es : List (Value × Int × Nat)) (its : List It) (V M : Value) (h : BkAt b F w n v es) (hV : w.ownsRow 0 59 4 V its.length (itsV its)) (hM : w.ownsRow 0 59 4 M its.length (itsV its))
    (hVF : ∀ i, V.ownBlock = some i → ¬ F i) (hil : its.length ≤ 4000000) (hn : n ≤ 2000000) (hes : es.length ≤ 8000000) :
    Calls Tryz.prog 17 #[.pointer (some ⟨b, 0, none⟩), V, M] w fun x w' => x = .returned (.bool true) ∧ TakePost b F w (n + 1) V es its.length w' := by
  obtain ⟨a, nn, ca, rfl⟩ := row_shape3 hV
  obtain ⟨c, nn', cc, rfl⟩ := row_shape3 hM
  obtain rfl := slice_len hV
  obtain rfl := slice_len hM
  have H := hid h
  have H1 := hid hV
  have H2 := hid hM
  have HVF := hid hVF
  clear h hV hM hVF
  go_enter Tryz.func17, Tryz.ntmps17
  go_wp2
  go_loopw [7, 8] (fun o s wr => o = .bool true ∧ ∃ k : Nat, k ≤ its.length ∧ s = .int .i64 (k : Int) ∧ Hid (Fr (fun _ => False) w wr)) (fun _ s _ => its.length - (intOf s).toNat)
  case atStart => exact ⟨by simp, 0, by omega, rfl, hid (Fr.refl _ _)⟩
  case round =>
    obtain ⟨rfl, k, hk, rfl, hF⟩ := hrel
    by_cases hlt : k < its.length
    · have r1 := rowSame H1.out (fun i hi => hF.out.block i (rowIn H1.out hi) id)
      have r2 := rowSame H2.out (fun i hi => hF.out.block i (rowIn H2.out hi) id)
      obtain ⟨ga, rfl⟩ := row_some r1 (by omega)
      obtain ⟨gb, rfl⟩ := row_some r2 (by omega)
      obtain ⟨x, hx⟩ : ∃ x, its[k]? = some x := ⟨its[k], List.getElem?_eq_getElem hlt⟩
      have c10 := rowCell r1 (k * 4 + 0) _ (itsV_get its k 0 x hx (by omega))
      have c11 := rowCell r1 (k * 4 + 1) _ (itsV_get its k 1 x hx (by omega))
      have c12 := rowCell r1 (k * 4 + 2) _ (itsV_get its k 2 x hx (by omega))
      have c13 := rowCell r1 (k * 4 + 3) _ (itsV_get its k 3 x hx (by omega))
      have c20 := rowCell r2 (k * 4 + 0) _ (itsV_get its k 0 x hx (by omega))
      have c21 := rowCell r2 (k * 4 + 1) _ (itsV_get its k 1 x hx (by omega))
      have c22 := rowCell r2 (k * 4 + 2) _ (itsV_get its k 2 x hx (by omega))
      have c23 := rowCell r2 (k * 4 + 3) _ (itsV_get its k 3 x hx (by omega))
      obtain ⟨xk, xn, xb, xs⟩ := x
      simp only [Nat.add_zero] at c10 c11 c12 c13 c20 c21 c22 c23
      have HD := hid (fun n => hF.out.drewN n)
      clear r1 r2 hx
      go_wp2
      go_quiet (fail)
      go_wp2
      go_roundw
      case rel => exact ⟨by simp, k + 1, by omega, by go_num, hid (HD.out _)⟩
      case measure => simp [intOf]; omega
    · obtain rfl : k = its.length := by omega
      have hB := H.out.keep (fun i hi => hF.out.block i (H.out.lt i hi) id) hF.out.size
      have r1 := rowSame H1.out (fun i hi => hF.out.block i (rowIn H1.out hi) id)
      have k0 := blk_cell hB.blk (show (bookCells n v)[0]? = some (.int .i64 (n : Int)) from rfl)
      have f0 := blk_free (j := 0) hB.blk
      have hBl := lt_of_block hB.blk
      have hz : IntKind.i64.wrap (-((n : Int) + 1)) = -((n : Int) + 1) := IntWalk.i64_in _ (by omega)
      have HB := hid hB
      have HO := hid (OvAt.start hB hF.out r1)
      obtain ⟨X, hX⟩ : ∃ X, wr.heap.size = X := ⟨_, rfl⟩
      rw [hX] at HO
      clear hB r1
      go_wp2
      go_loopw [10] (fun s wr2 => ∃ k : Nat, k ≤ its.length ∧ s = .int .i64 (k : Int) ∧ Hid (OvAt b F w wr2 (n + 1) v (.slice a its.length ca) es X its.length (repC (-((n : Int) + 1)) k ++ itsV (its.drop k)))) (fun s _ => its.length - (intOf s).toNat)
      case atStart => exact ⟨0, by omega, rfl, HO⟩
      case round =>
        clear k0 f0
        obtain ⟨k, hk2, rfl, hO⟩ := hrel
        by_cases hlt2 : k < its.length
        · have hdr : its.drop k = its[k] :: its.drop (k + 1) := List.drop_eq_getElem_cons hlt2
          rw [hdr] at hO
          obtain ⟨ga, rfl⟩ := row_some hO.out.row (by omega)
          have hgF : ¬ F ga := HVF.out ga rfl
          have hst := hid (hO.out.over hgF)
          have hth : World.there _ ga (k * 4) 4 := row_there hO.out.row hlt2
          have x0 := blk_cell hO.out.blk (show (#[.int .i64 (-(((n + 1 : Nat) : Int))), .int .i64 0, .int .u64 0, .string ⟨#[]⟩] : Array Value)[0]? = some (.int .i64 (-((n : Int) + 1))) from rfl)
          have x1 := blk_cell hO.out.blk (show (#[.int .i64 (-(((n + 1 : Nat) : Int))), .int .i64 0, .int .u64 0, .string ⟨#[]⟩] : Array Value)[1]? = some (.int .i64 0) from rfl)
          have x2 := blk_cell hO.out.blk (show (#[.int .i64 (-(((n + 1 : Nat) : Int))), .int .i64 0, .int .u64 0, .string ⟨#[]⟩] : Array Value)[2]? = some (.int .u64 0) from rfl)
          have x3 := blk_cell hO.out.blk (show (#[.int .i64 (-(((n + 1 : Nat) : Int))), .int .i64 0, .int .u64 0, .string ⟨#[]⟩] : Array Value)[3]? = some (.string ⟨#[]⟩) from rfl)
          have hsz59 : (Tryz.prog.info? 59).map (·.size) = some 4 := by kernel_rfl
          clear hO hdr
          go_wp2_with (first | (refine wpList_store_mid rfl 59 _ _ rfl ga (k * 4) #[.int .i64 (-((n : Int) + 1)), .int .i64 0, .int .u64 0, .string ⟨#[]⟩] ?s1 ?s2 ?t1 ?t2 ?t3 ?_) | fail)
          case s1 => rfl
          case s2 => rfl
          case t1 => exact hth
          case t2 => exact hsz59
          case t3 => exact Array.all_eq_true_iff_forall_mem.2 (fun v hv => by simp at hv; rcases hv with rfl | rfl | rfl | rfl <;> rfl)
          go_roundw
          case rel => exact ⟨k + 1, by omega, by go_num, hst⟩
          case measure => simp [intOf]; omega
        · obtain rfl : k = its.length := by omega
          have hbk := hO.out.bk
          have hrw : wr.ownsRow 0 59 4 (.slice a its.length ca) its.length (repC (-((n : Int) + 1)) its.length) := by
            have := hO.out.row
            rw [List.drop_length] at this
            simpa [itsV] using this
          obtain ⟨av, nv, cv, rfl⟩ := row_shape3 hbk.row
          obtain rfl := slice_len hbk.row
          obtain ⟨j0, gi, gz0, gz1, gz2⟩ := info_parts Tryz.info57
          have b0 := blk_cell hbk.blk (show (bookCells (n + 1) (.slice av es.length cv))[0]? = some (.int .i64 ((n : Int) + 1)) from rfl)
          have b1 := blk_cell hbk.blk (show (bookCells (n + 1) (.slice av es.length cv))[1]? = some (.slice av es.length cv) from rfl)
          have bf := blk_free (j := 1) hbk.blk
          have hbl2 := lt_of_block hbk.blk
          have a1 := fun ob => (World.cell?_of_block (Below.heap_alloc wr ob b hbl2)).trans b1
          have a0 := fun ob => (World.cell?_of_block (Below.heap_alloc wr ob b hbl2)).trans b0
          have OI := hid (show wr.drew.ownsRow 0 57 2 (.slice av es.length cv) es.length (entV es) from hbk.row)
          have HG := hid (fun ob w1 v' (h1 : w1.ownsRow 0 57 2 v' (es.length + 1) (entV es ++ [.slice a its.length ca, .int .i64 (-((n : Int) + 1))])) (h2 : (wr.drew.alloc ob).grownBy w1 (Value.slice av es.length cv).ownBlock) h3 => (hbk.keep (w' := wr.drew) (fun _ _ => rfl) (Nat.le_refl _)).growE (ob := ob) (.slice a its.length ca, -((n : Int) + 1), its.length) hrw h1 h2 h3)
          have HOV := hid (show OvAt b F w wr.drew (n + 1) (.slice av es.length cv) (.slice a its.length ca) es _ its.length (repC (-(((n + 1 : Nat) : Int))) its.length) from ⟨hO.out.drew.bk, hrw, hO.out.drew.blk, hO.out.drew.fr, hO.out.nx, hO.out.nf, hO.out.sz⟩)
          clear hbk hrw
          go_upto_region 12 with fail
          go_cut [10] (fun _ wc => ∃ F' v' es', Hid (BehAt b F w wc (n + 1) (.slice a its.length ca) es X its.length 0 (.slice a its.length ca) F' v' es'))
          case rest =>
            clear b0 b1 bf a0 a1
            obtain ⟨F1, v1, es1, hBe⟩ := hcut
            obtain ⟨i0, hi, hz0, hz1, hz2⟩ := info_parts Tryz.info59
            go_wp2
            go_loopw [11, 12] (fun gg s w3 => ∃ (q : Nat) (F1 : Nat → Prop) (v1 : Value) (es1 : List (Value × Int × Nat)), q ≤ 3 ∧ s = .int .i64 (q : Int) ∧ Hid (BehAt b F w w3 (n + 1) (.slice a its.length ca) es X its.length q gg F1 v1 es1)) (fun _ s _ => 3 - (intOf s).toNat)
            case atStart => exact ⟨0, F1, v1, es1, by omega, rfl, hBe⟩
            case round =>
              clear hBe
              obtain ⟨q, F2, v2, es2, hq, rfl, hBe⟩ := hrel
              by_cases hq3 : q < 3
              · have hbe := hBe.out
                obtain ⟨ag, ng, cg, rfl⟩ := row_shape3 hbe.row
                have hng : ng = its.length + q := slice_len hbe.row
                subst hng
                obtain ⟨av2, nv2, cv2, rfl⟩ := row_shape3 hbe.bk.row
                have hnv : nv2 = es2.length := slice_len hbe.bk.row
                subst hnv
                have hln : es2.length ≤ 8500000 := by have := hbe.ln; omega
                have x0 := blk_cell hbe.blk (show (#[.int .i64 (-(((n + 1 : Nat) : Int))), .int .i64 0, .int .u64 0, .string ⟨#[]⟩] : Array Value)[0]? = some (.int .i64 (-((n : Int) + 1))) from rfl)
                have x1 := blk_cell hbe.blk (show (#[.int .i64 (-(((n + 1 : Nat) : Int))), .int .i64 0, .int .u64 0, .string ⟨#[]⟩] : Array Value)[1]? = some (.int .i64 0) from rfl)
                have x2 := blk_cell hbe.blk (show (#[.int .i64 (-(((n + 1 : Nat) : Int))), .int .i64 0, .int .u64 0, .string ⟨#[]⟩] : Array Value)[2]? = some (.int .u64 0) from rfl)
                have x3 := blk_cell hbe.blk (show (#[.int .i64 (-(((n + 1 : Nat) : Int))), .int .i64 0, .int .u64 0, .string ⟨#[]⟩] : Array Value)[3]? = some (.string ⟨#[]⟩) from rfl)
                have HROW := hid (show wr.ownsRow 0 59 4 (.slice ag (its.length + q) cg) (its.length + q) (repC (-((n : Int) + 1)) (its.length + q)) from hbe.row)
                have hqi : (q : Int) < 3 := by omega
                have HQ3 := hid (And.intro hq3 (And.intro hln (And.intro hil hes)))
                have HZ := hid hz
                clear hbe hq hq3 hln hk hlt hk2 hlt2 hbl2 hBl hz
                go_wp2_with (first
                  | (at_builtin; refine wpList_append_k _ rfl _ _ 52 rfl 59 i0 (.agg #[.int .i64 0, .int .i64 0, .int .u64 0, .string ⟨#[]⟩]) 4 40 Tryz.underlying52 hi hz0 hz1 hz2 rfl (by decide) _ _ _ rfl (HROW.out.alloc _) ⟨wr.heap.size, 0, none⟩ 1 1 (numC (-((n : Int) + 1))) rfl rfl ?c1 ?c2 ?c3 ?c4 ?_)
                  | fail)
                case c1 => exact four_new _ _ _ _ _ _
                case c2 => intro u hu; simp [numC] at hu; rcases hu with rfl | rfl | rfl | rfl <;> rfl
                case c3 => have := HQ3.out; unfold maxLen; omega
                case c4 => have := HQ3.out; omega
                intro g' w1 hown hgrow hnew hold
                obtain ⟨ag1, ng1, cg1, rfl⟩ := row_shape3 hown
                rw [repC_snoc] at hown
                obtain ⟨L, hL⟩ : ∃ L, its.length + q + 1 = L := ⟨_, rfl⟩
                rw [hL] at hown
                have hng : ng1 = L := slice_len hown
                subst hng
                have HL := hid (show its.length + (q + 1) = ng1 from hL)
                clear hL
                have hbk1 := hBe.out.bk.item hBe.out.row (fun e he i h1 h2 => hBe.out.sh e he i h1 h2) hold hgrow
                have b0 := blk_cell hbk1.blk (show (bookCells (n + 1) (.slice av2 es2.length cv2))[0]? = some (.int .i64 ((n : Int) + 1)) from rfl)
                have b1 := blk_cell hbk1.blk (show (bookCells (n + 1) (.slice av2 es2.length cv2))[1]? = some (.slice av2 es2.length cv2) from rfl)
                have bf := blk_free (j := 1) hbk1.blk
                have hbl2 := lt_of_block hbk1.blk
                have a1 := fun ob => (World.cell?_of_block (Below.heap_alloc w1 ob b hbl2)).trans b1
                have a0 := fun ob => (World.cell?_of_block (Below.heap_alloc w1 ob b hbl2)).trans b0
                have OI2 := hid (show w1.drew.ownsRow 0 57 2 (.slice av2 es2.length cv2) es2.length (entV es2) from hbk1.row)
                have HG2 := hid (fun ob w2 v' (h1 : w2.ownsRow 0 57 2 v' (es2.length + 1) (entV es2 ++ [.slice ag1 ng1 cg1, .int .i64 (-((n : Int) + 1))])) (h2 : (w1.drew.alloc ob).grownBy w2 (Value.slice av2 es2.length cv2).ownBlock) h3 => (hbk1.keep (w' := w1.drew) (fun _ _ => rfl) (Nat.le_refl _)).growE (ob := ob) (.slice ag1 ng1 cg1, -((n : Int) + 1), ng1) hown h1 h2 h3)
                have HGR := hid hgrow
                have HNW := hid hnew
                clear hown hgrow hnew hold hbk1 x0 x1 x2 x3 HROW
                have hz := HZ.out
                go_upto_region 18 with fail
                go_region_law (refine step_append_d rfl _ _ 28 rfl 57 j0 (.agg #[.slice none 0 0, .int .i64 0]) 2 32 Tryz.underlying28 gi gz0 gz1 gz2 rfl (by decide) (.slice av2 es2.length cv2) _ _ rfl (OI2.out.alloc _) ⟨w1.drew.heap.size, 0, none⟩ 1 1 [.slice ag1 ng1 cg1, .int .i64 (-((n : Int) + 1))] rfl rfl (two_new _ _ _ _) (by intro u hu; simp at hu; rcases hu with rfl | rfl <;> rfl) (by have := HQ3.out; unfold maxLen; omega) (by have := HQ3.out; omega) ?_; intro v' w2 hown' hgrow hnew; obtain ⟨a', n', cap', rfl⟩ := row_shape3 hown'; obtain ⟨hh1, hR1, hR2⟩ := HG2.out _ _ _ hown' hgrow (by simpa using hnew); have q1 := blk_cell hh1 (show (bookCells (n + 1) (.slice av2 es2.length cv2))[1]? = some (.slice av2 es2.length cv2) from rfl); have p1 := blk_free (j := 1) hh1; have HR1 := hid hR1; have HR2 := hid hR2; clear hown' hgrow hnew hh1 hR1 hR2)
                all_goals
                  go_wp2
                  go_roundw
                  case rel =>
                    have hL := HL.out
                    subst hL
                    exact ⟨q + 1, _, _, _, by have := HQ3.out; omega, by go_num, hid (BehAt.next hBe.out HQ3.out.1 HGR.out (by simpa using HNW.out) HR1.out HR2.out)⟩
                  case measure => simp [intOf]; omega
              · obtain rfl : q = 3 := by omega
                go_wp2
                go_ret
                exact ⟨rfl, TakePost.of hBe.out⟩
          go_region_law (refine step_append_d rfl _ _ 28 rfl 57 j0 (.agg #[.slice none 0 0, .int .i64 0]) 2 32 Tryz.underlying28 gi gz0 gz1 gz2 rfl (by decide) (.slice av es.length cv) _ _ rfl (OI.out.alloc _) ⟨wr.drew.heap.size, 0, none⟩ 1 1 [.slice a its.length ca, .int .i64 (-((n : Int) + 1))] rfl rfl (two_new _ _ _ _) (by intro u hu; simp at hu; rcases hu with rfl | rfl <;> rfl) (by unfold maxLen; omega) (by omega) ?_; intro v' w1 hown' hgrow hnew; obtain ⟨a', n', cap', rfl⟩ := row_shape3 hown'; obtain ⟨hh1, hR1, hR2⟩ := HG.out _ _ _ hown' hgrow (by simpa using hnew); have q1 := blk_cell hh1 (show (bookCells (n + 1) (.slice av es.length cv))[1]? = some (.slice av es.length cv) from rfl); have p1 := blk_free (j := 1) hh1; have HR1 := hid hR1; have HR2 := hid hR2; clear hown' hgrow hnew hh1 hR1 hR2)
          all_goals
            go_wp2
            go_meet
            exact ⟨_, _, _, hid (BehAt.start HOV.out HVF.out HR1.out HR2.out)⟩
end Go.Proofs.YtmkkibaacclhnaaGreat
