/-
  A step of the walk of the numbers, the part named From. No theorem of the row.
-/
import Derived.Test.YtmkkibaacclhnaaChunk
namespace Go.Proofs.Ytmkkibaacclhnaa
open Go.RowKit Go.Shelf
attribute [local go_sem] Oper.semAt_some

theorem snoc_ind {P : List Nat → Prop} (h0 : P []) (h : ∀ a x, P a → P (a ++ [x])) (l : List Nat) : P l := by
  rw [← List.reverse_reverse l]
  induction l.reverse with
  | nil => exact h0
  | cons x r ih => rw [List.reverse_cons]; exact h _ _ ih
/-- the number that digits are, the highest first -/
def num (ds : List Nat) : Nat := ds.foldl (fun a d => a * 10 + d) 0
theorem num_snoc (ds : List Nat) (d : Nat) : num (ds ++ [d]) = num ds * 10 + d := by simp [num]
theorem num_append (a b : List Nat) : num (a ++ b) = num a * p10 b.length + num b := by
  refine snoc_ind (P := fun b => num (a ++ b) = num a * p10 b.length + num b) ?_ ?_ b
  · simp [num, p10]
  · intro b x ih
    rw [← List.append_assoc, num_snoc, num_snoc, ih, List.length_append, List.length_singleton, p10_succ, Nat.add_mul, Nat.mul_assoc, Nat.add_assoc]
def Digs (ds : List Nat) : Prop := ∀ d ∈ ds, d ≤ 9
theorem num_lt (ds : List Nat) (h : Digs ds) : num ds < p10 ds.length := by
  refine snoc_ind (P := fun ds => Digs ds → num ds < p10 ds.length) ?_ ?_ ds h
  · intro _; simp [num, p10]
  · intro b x ih h
    have h1 := ih (fun d hd => h d (List.mem_append_left _ hd))
    have h2 := h x (by simp)
    rw [num_snoc, List.length_append, List.length_singleton, p10_succ]; omega
def chunkD (ds : List Nat) (k : Nat) : List Nat := (ds.drop (9 * k)).take 9
def foldC (ds : List Nat) (pre : List Nat) : Nat := pre.foldl (fun a k => p10 (chunkD ds k).length * a + num (chunkD ds k)) 0
theorem foldC_snoc (ds pre : List Nat) (k : Nat) : foldC ds (pre ++ [k]) = p10 (chunkD ds k).length * foldC ds pre + num (chunkD ds k) := by simp [foldC]
theorem chunkD_len (ds : List Nat) (k : Nat) : (chunkD ds k).length = min 9 (ds.length - 9 * k) := by simp [chunkD]
theorem Digs.chunk {ds : List Nat} (h : Digs ds) (k : Nat) : Digs (chunkD ds k) := fun d hd => h d (List.mem_of_mem_drop (List.mem_of_mem_take hd))
theorem foldC_lt (ds pre : List Nat) (h : Digs ds) : foldC ds pre < p10 (9 * pre.length) := by
  refine snoc_ind (P := fun pre => foldC ds pre < p10 (9 * pre.length)) ?_ ?_ pre
  · simp [foldC, p10]
  · intro b x ih
    have h1 := num_lt _ (h.chunk x)
    have h2 := p10_le (chunkD ds x).length 9 (by rw [chunkD_len]; omega)
    rw [foldC_snoc, List.length_append, List.length_singleton, Nat.mul_add, p10_add, Nat.mul_comm (p10 (9 * b.length))]
    have h3 : p10 (chunkD ds x).length * (foldC ds b + 1) ≤ p10 (9 * 1) * p10 (9 * b.length) := Nat.mul_le_mul h2 (by omega)
    rw [Nat.mul_add] at h3
    omega
theorem foldC_range (ds : List Nat) (k : Nat) : foldC ds (List.range k) = num (ds.take (9 * k)) := by
  induction k with
  | zero => simp [foldC, num]
  | succ k ih =>
    rw [List.range_succ, foldC_snoc, ih, Nat.mul_add, Nat.mul_one, List.take_add, num_append, Nat.mul_comm]
    rfl
theorem two_le (m k : Nat) (h : k ≤ 32 * m) : 2 ^ k ≤ 4294967296 ^ m := by rw [pow32]; exact Nat.pow_le_pow_right (by omega) h
theorem Sm_two (n k : Nat) (hk : k ≤ 32000) (h : n < 2 ^ k) : Sm n := Nat.lt_of_lt_of_le h (two_le 1000 k hk)
theorem p10_two (k : Nat) : p10 k ≤ 2 ^ (4 * k) := by
  rw [Nat.pow_mul]
  exact Nat.pow_le_pow_left (by omega) k
theorem Sm_p10 (n k : Nat) (hk : k ≤ 3000) (h : n < p10 k) : Sm n := Sm_two n (4 * k) (by omega) (Nat.lt_of_lt_of_le h (p10_two k))

/-- bytes in memory -/
def IsBytes (w : World) (b : Nat) (ds : List Nat) : Prop := ∀ j, (h : j < ds.length) → w.cell? ⟨b, j, none⟩ = some (.int .u8 ((48 + ds[j] : Nat) : Int))

theorem KeepsOthers.ofFr {W W' : World} {S : Nat → Prop} (h : Fr S W W') (hS : ∀ i o, S i → W.heap[i]? = some o → o.isCells = true) : KeepsOthers W W' := by
  refine ⟨h.size, fun k o hk ho => ?_⟩
  have hb := h.block k (lt_of_block hk) (fun hs => by rw [hS k o hs hk] at ho; cases ho)
  rw [hb]; exact hk
theorem Nt.cells {w : World} {b g N : Nat} (h : Nt w b g N) : (∀ o, w.heap[b]? = some o → o.isCells = true) ∧ (∀ o, w.heap[g]? = some o → o.isCells = true) := by
  obtain ⟨ws, ⟨cap, T, h1, h2, h3⟩, _⟩ := h
  refine ⟨fun o ho => by rw [h1] at ho; cases ho; rfl, fun o ho => ?_⟩
  rcases h2.2 with ⟨h4, _⟩ | ⟨g', cap', cur, hv, _, hh, _⟩
  · simp at h4
  · simp at hv; obtain ⟨rfl, rfl⟩ := hv; rw [hh] at ho; cases ho; rfl
theorem Nt.grown {w w' : World} {b g N : Nat} {row : Option Nat} (h : Nt w b g N) (hg : w.grownBy w' row) (hr : ∀ r, row = some r → ∃ o : Obj, w.heap[r]? = some o ∧ o.isCells = false) : Nt w' b g N := by
  have hc := h.cells
  have hF : Fr (fun i => some i = row) w w' := ⟨hg.os, hg.tape, hg.output, hg.size, fun k hk hs => hg.block k hk hs⟩
  refine h.frame hF ?_ ?_
  · intro e; obtain ⟨o, h1, h2⟩ := hr b e.symm; rw [hc.1 o h1] at h2; cases h2
  · intro e; obtain ⟨o, h1, h2⟩ := hr g e.symm; rw [hc.2 o h1] at h2; cases h2

set_option maxRecDepth 100000 in
set_option maxHeartbeats 2000000 in
theorem fromDigits_in (n : Nat) (hn : 5 ≤ n) (b len cap : Nat) (ds : List Nat) (w : World) (hds : Digs ds) (hl : ds.length = len) (hlen : len ≤ 2000) (hcap : len ≤ cap) (hb : b < w.heap.size) (hB : IsBytes w b ds) :
    CallsIn Fence.wide n Try.prog 100 #[.slice (some ⟨b, 0, none⟩) len cap] w fun e w' => ∃ bm gm, e = .returned (.pointer (some ⟨bm, 0, none⟩)) ∧ Nt w' bm gm (num ds) ∧ Fr (fun _ => False) w w' ∧ w.heap.size ≤ bm ∧ w.heap.size ≤ gm := by
  have h1 : 1 ≤ n := by omega
  refine callsIn_of_wp_marks Try.func100 rfl trivial ?_ rfl
  simp only [Try.ntmps100, List.size_toArray, List.length_cons, List.length_nil, Nat.reduceAdd, Nat.reduceSub, Array.replicate_succ, Array.replicate_zero, List.push_toArray, List.append_toArray, List.nil_append, List.cons_append]
  gi_wp2_with (first | (refine ⟨trivial, ?_⟩; gi_at_call 80; refine (callsIn_wide.2 (newNatural_nt 0 _ (by omega))).mono ?_; rintro e w1 ⟨bm, gm, rfl, q1, q2, q3, q4⟩) | (refine ⟨trivial, ?_⟩; gi_at_call 120; refine (callsIn_wide.2 (chunk_any _ _ _ _)).mono ?_; rintro e w' ⟨rfl, rfl⟩))
  have hbl := q1.lt
  have hsz : w.heap.size ≤ w1.heap.size := q2.size
  have hNt0 : Nt (((w1.alloc (Obj.cells #[Value.pointer (some { block := bm, off := 0 })] 99)).alloc (Obj.cells #[Value.slice (some { block := b, off := 0 }) len cap] 52)).alloc (Obj.cells #[Value.int IntKind.i64 9] 3)) bm gm 0 :=
    q1.frame ((((Fr.refl (fun _ => False) w1).alloc _).alloc _).alloc _) id id
  have hF0 : Fr (fun i => w.heap.size ≤ i) w (((w1.alloc (Obj.cells #[Value.pointer (some { block := bm, off := 0 })] 99)).alloc (Obj.cells #[Value.slice (some { block := b, off := 0 }) len cap] 52)).alloc (Obj.cells #[Value.int IntKind.i64 9] 3)) :=
    (((q2.alloc _).alloc _).alloc _).mono (fun _ h => h.elim)
  have hbox : (((w1.alloc (Obj.cells #[Value.pointer (some { block := bm, off := 0 })] 99)).alloc (Obj.cells #[Value.slice (some { block := b, off := 0 }) len cap] 52)).alloc (Obj.cells #[Value.int IntKind.i64 9] 3)).heap[w1.heap.size]? = some (.cells #[.pointer (some ⟨bm, 0, none⟩)] 99 (0, 0)) := by
    rw [Below.heap_alloc _ _ _ (by simp; omega), Below.heap_alloc _ _ _ (by simp)]; exact heap_alloc_new w1 _
  have hBs : (((w1.alloc (Obj.cells #[Value.pointer (some { block := bm, off := 0 })] 99)).alloc (Obj.cells #[Value.slice (some { block := b, off := 0 }) len cap] 52)).alloc (Obj.cells #[Value.int IntKind.i64 9] 3)).heap[w1.heap.size + 1]? = some (.cells #[.slice (some ⟨b, 0, none⟩) len cap] 52 (0, 0)) := by
    rw [Below.heap_alloc _ _ _ (by simp)]
    have := heap_alloc_new (w1.alloc (Obj.cells #[Value.pointer (some { block := bm, off := 0 })] 99)) (Obj.cells #[Value.slice (some { block := b, off := 0 }) len cap] 52)
    rwa [World.size_alloc] at this
  have hBn : (((w1.alloc (Obj.cells #[Value.pointer (some { block := bm, off := 0 })] 99)).alloc (Obj.cells #[Value.slice (some { block := b, off := 0 }) len cap] 52)).alloc (Obj.cells #[Value.int IntKind.i64 9] 3)).heap[w1.heap.size + 1 + 1]? = some (.cells #[.int .i64 9] 3 (0, 0)) := by
    have := heap_alloc_new ((w1.alloc (Obj.cells #[Value.pointer (some { block := bm, off := 0 })] 99)).alloc (Obj.cells #[Value.slice (some { block := b, off := 0 }) len cap] 52)) (Obj.cells #[Value.int IntKind.i64 9] 3)
    rwa [World.size_alloc, World.size_alloc] at this
  have hW0s : (((w1.alloc (Obj.cells #[Value.pointer (some { block := bm, off := 0 })] 99)).alloc (Obj.cells #[Value.slice (some { block := b, off := 0 }) len cap] 52)).alloc (Obj.cells #[Value.int IntKind.i64 9] 3)).heap.size = w1.heap.size + 3 := by simp
  generalize ((w1.alloc (Obj.cells #[Value.pointer (some { block := bm, off := 0 })] 99)).alloc (Obj.cells #[Value.slice (some { block := b, off := 0 }) len cap] 52)).alloc (Obj.cells #[Value.int IntKind.i64 9] 3) = W0 at *
  refine wpIn_rangeFunc_ownF (F := Fence.wide) rfl h1 (gf := 131) (lb := #[.pointer (some ⟨w1.heap.size + 1, 0, none⟩), .pointer (some ⟨w1.heap.size + 1 + 1, 0, none⟩)]) rfl trivial (enters_of Try.func131 (by kernel_rfl) rfl)
    (encs := fun x : { j : Nat // 9 * j < len } => #[chunkV b len x.1]) (Kp := KpC w.heap.size (w1.heap.size + 1) (w1.heap.size + 1 + 1)) (S := fun xs => xs.map (·.1) = List.range ((len + 8) / 9)) (Sp := fun _ => True) (N := (len + 8) / 9) (w0 := W0)
    (fun l J Jx W hW hJ _ hY h0 => chunk1_in (n - 1) (by omega) l _ _ w.heap.size b len cap (by omega) hcap J Jx (fun s A B hs hg => hJ s A B none hs hg (fun r e => by cases e)) hY W (by have := hW.size; omega) (by have := hW.size; omega)
      ((hW.cell (p := ⟨w1.heap.size + 1, 0, none⟩) (by show _ < _; simp; omega)).trans (cell_of_one hBs)) ((hW.cell (p := ⟨w1.heap.size + 1 + 1, 0, none⟩) (by show _ < _; simp; omega)).trans (cell_of_one hBn)) h0)
    Fr.trans ?kb (Below.refl _ _) (fun _ => rfl)
    (fun pre W => ∃ gm', w.heap.size ≤ gm' ∧ (gm' < w1.heap.size ∨ w1.heap.size + 3 ≤ gm') ∧ Nt W bm gm' (foldC ds (pre.map (·.1))) ∧ W.heap[w1.heap.size]? = some (.cells #[.pointer (some ⟨bm, 0, none⟩)] 99 (0, 0)) ∧ Fr (fun i => w.heap.size ≤ i) w W ∧ w1.heap.size + 3 ≤ W.heap.size)
    (fun _ _ _ => False) ?own (fun _ _ _ _ _ hs _ _ => hs) ⟨gm, q4, .inl hbl.2.1, hNt0, hbox, hF0, by omega⟩
    (fun x => { tmps := #[Value.slice (some { block := b, off := 0 }) len cap, undef, Value.pointer none,
          Value.pointer (some { block := w1.heap.size, off := 0 }), chunkV b len x.1, undef, undef, undef, undef,
          Value.pointer (some { block := bm, off := 0 }), Value.slice (some { block := b, off := 0 }) len cap,
          Value.func (Fn.func 131) #[]
            #[Value.pointer (some { block := w1.heap.size + 1, off := 0 }),
              Value.pointer (some { block := w1.heap.size + 1 + 1, off := 0 })],
          chunkV b len x.1, undef, undef, undef, undef, undef, undef, undef, undef, undef, undef, undef, undef, undef, undef,
          undef, undef, undef, undef, undef, undef], defers := [] }) ?assign ?body ?done ?stop
  case kb =>
    intro W l o o' hl ho h1 h2
    exact (Fr.refl _ W).grown (grownBy_putObj' W l o') (fun k e => by cases e; exact .inl (by omega))
  case own =>
    rintro s A B row ⟨gm', e1, e2, e3, e4, e5, e6⟩ hg hr
    refine ⟨gm', e1, e2, e3.grown hg (fun r e => (hr r e).2), ?_, e5.grown hg (fun k e => .inl (by have := (hr k e).1; omega)), by have := hg.size; omega⟩
    rw [hg.block _ (lt_of_block e4) (fun e => by have := (hr _ e.symm).1; omega)]; exact e4
  case assign =>
    intro l x W K hK
    gi_wp2
    exact hK
  case body =>
    rintro l pre ⟨k, hk⟩ W ⟨gm', e1, e2, e3, e4, e5, e6⟩ hpre
    have hbc := cell_of_one e4
    have hm : chunkV b len k = .slice (some ⟨b, 9 * k, none⟩) (chunkD ds k).length (chunkD ds k).length := by rw [chunkD_len, hl]; rfl
    have hml : (chunkD ds k).length ≤ 9 := by rw [chunkD_len]; omega
    have hcell : ∀ i, (hi : i < (chunkD ds k).length) → W.cell? ⟨b, 9 * k + i, none⟩ = some (.int .u8 ((48 + (chunkD ds k)[i] : Nat) : Int)) := by
      intro i hi
      have hi2 : 9 * k + i < ds.length := by rw [chunkD_len] at hi; omega
      rw [e5.cell (p := ⟨b, 9 * k + i, none⟩) hb (by simpa using hb), hB _ hi2]
      congr 4
      simp [chunkD]
    have hdc := hds.chunk k
    have hsm : Sm (foldC ds (pre.map (·.1))) := Sm_p10 _ (9 * (pre.map (·.1)).length) (by simp; omega) (foldC_lt ds _ hds)
    have E3 : Hid _ := e3
    have E5 : Hid _ := e5
    have Hsm : Hid _ := hsm
    have hbl3 := e3.lt
    clear e3 e5 hsm hBs hBn hF0 hNt0 hbox q1 q2
    dsimp only
    rw [hm]
    gi_wp2
    gi_loop [5, 6, 8, 15] (fun u v _ ix => ∃ i : Nat, i ≤ (chunkD ds k).length ∧ u = .int .u32 (p10 i : Nat) ∧ v = .int .u32 (num ((chunkD ds k).take i) : Nat) ∧ ix = .int .i64 i) (fun _ _ _ ix => (chunkD ds k).length - (intOf ix).toNat)
    case atStart => exact ⟨0, by omega, rfl, rfl, rfl⟩
    case round =>
      obtain ⟨i, hi, rfl, rfl, rfl⟩ := hrel
      have hnl := num_lt _ (fun d hd => hdc d (List.mem_of_mem_take (i := i) hd))
      rw [List.length_take_of_le hi] at hnl
      by_cases hlt : i < (chunkD ds k).length
      · have hp := p10_le i 8 (by omega)
        have h8 : p10 8 = 100000000 := rfl
        rw [h8] at hp
        have hci := hcell i hlt
        have hd9 := hdc _ (List.getElem_mem hlt)
        have hs1 : Hid (p10 (i + 1) = p10 i * 10) := p10_succ i
        have hs2 : Hid (num ((chunkD ds k).take (i + 1)) = num ((chunkD ds k).take i) * 10 + (chunkD ds k)[i]) := by rw [Hid, List.take_succ_eq_append_getElem hlt, num_snoc]
        gi_wp2
        go_round
        case rel => exact ⟨i + 1, hlt, by rw [hs1.out]; go_num, by rw [hs2.out]; go_num, by go_num⟩
        case measure => simp [intOf]; omega
      · have hie : i = (chunkD ds k).length := by omega
        have hp := p10_le i 9 (by omega)
        have h9 : p10 9 = 1000000000 := rfl
        rw [h9] at hp
        have hpp := p10_pos i
        have HI : Hid _ := hie
        clear hie
        gi_wp2_with fail
        refine ⟨trivial, fun _ => by omega, ?_⟩
        refine (CallsIn.inRound l (callsIn_wide.2 (timesPlus_nt bm gm' _ (p10 i) (num ((chunkD ds k).take i)) _ Hsm.out (by omega) hpp (by omega) E3.out))).mono ?_
        rintro e w' ⟨rfl, g2, r1, r2, r3⟩
        gi_wp2
        have hc3 := Nt.cells E3.out
        refine ⟨KeepsOthers.ofFr r2 (fun j o hj ho => by rcases hj with rfl | rfl; exact hc3.1 o ho; exact hc3.2 o ho), r2.mono (fun j hj => by omega), g2, ?_, ?_, ?_, ?_, ?_, ?_⟩
        · have := E5.out.size; omega
        · omega
        · rw [List.map_append, List.map_singleton, foldC_snoc]
          rw [HI.out, List.take_length] at r1
          exact r1
        · rw [r2.block _ (lt_of_block e4) (by omega)]; exact e4
        · exact E5.out.trans' r2 (fun j hj => .inl (by omega))
        · have := r2.size; omega
  case done =>
    rintro D ys W hD hS ⟨gm', e1, e2, e3, e4, e5, e6⟩ hK
    have hbc := cell_of_one e4
    gi_wp2
    refine ⟨by simp, .inl ⟨_, _, rfl, run_takeDeferred hK, ?_⟩⟩
    refine ⟨_, results_tmp rfl _ _ _, bm, gm', rfl, ?_, ?_, q3, e1⟩
    · have hnum : foldC ds (ys.map (·.1)) = num ds := by rw [hS, foldC_range, List.take_of_length_le (by omega)]
      rw [← hnum]
      exact e3.grown (grownBy_putObj' W D _) (fun r e => by cases e; exact ⟨_, hK, rfl⟩)
    · exact ⟨e5.os, e5.tape, e5.output, by have := e5.size; simpa using this, fun k hk _ => by
        have h3 := e5.block k hk (by omega)
        rw [← h3]
        exact (grownBy_putObj' W D _).block k (by have := e5.size; omega) (by intro e; cases e; omega)⟩
  case stop =>
    rintro D c pre W _ _ h _
    exact h.elim

/-- 'fromDigits': the number that digits are. -/
theorem fromDigits_nt (b len cap : Nat) (ds : List Nat) (w : World) (hds : Digs ds) (hl : ds.length = len) (hlen : len ≤ 2000) (hcap : len ≤ cap) (hb : b < w.heap.size) (hB : IsBytes w b ds) :
    Calls Try.prog 100 #[.slice (some ⟨b, 0, none⟩) len cap] w fun e w' => ∃ bm gm, e = .returned (.pointer (some ⟨bm, 0, none⟩)) ∧ Nt w' bm gm (num ds) ∧ Fr (fun _ => False) w w' ∧ w.heap.size ≤ bm ∧ w.heap.size ≤ gm :=
  callsIn_wide.1 (fromDigits_in 5 (by omega) b len cap ds w hds hl hlen hcap hb hB)
end Go.Proofs.Ytmkkibaacclhnaa
