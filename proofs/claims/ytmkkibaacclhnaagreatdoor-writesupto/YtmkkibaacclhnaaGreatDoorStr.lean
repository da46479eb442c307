/-
  A step of the walk, the part named Str. No theorem of the row.
-/
import Derived.Test.YtmkkibaacclhnaaGreatDoorNear
import Derived.Lib.Strings
namespace Go.Proofs.YtmkkibaacclhnaaGreatDoor
open Go.RowKit

theorem hid {p : Prop} (h : p) : Hid p := h
theorem cell_alloc_at (w : World) (cs : Array Value) (T j : Nat) : (w.alloc (.cells cs T)).cell? ⟨w.heap.size, j, none⟩ = cs[j]? := by
  have := heap_alloc_new w (.cells cs T)
  simp only [World.cell?, this]
  rfl
theorem p10_p2 (k : Nat) : p10 k ≤ p2 (4 * k) := p10_two k
theorem p10_309 : p10 309 ≤ p2 1030 := by decide +kernel
set_option maxRecDepth 100000 in
set_option maxHeartbeats 1000000 in
theorem ratio_sx (b len cap : Nat) (D : List Nat) (P : Int) (w : World) (hD : Digs D) (hl : D.length = len) (hlen : len ≤ 800) (hcap : len ≤ cap) (hb : b < w.heap.size) (hB : IsBytes w b D) (hP1 : -400 ≤ P) (hP2 : P ≤ 400) :
    Calls Tryz.prog 108 #[.agg #[.slice (some ⟨b, 0, none⟩) len cap, .int .i64 P]] w fun e w' => ∃ bo bu, e = .returned (.tuple #[.pointer (some ⟨bo, 0, none⟩), .pointer (some ⟨bu, 0, none⟩)]) ∧
      Sx (fun _ => False) (fun _ => False) w w' [(bo, num D * p10 (P - len).toNat), (bu, p10 (len - P).toNat)] := by
  have hnum : Hid (num D < p10 len) := by have := num_lt D hD; rwa [hl] at this
  go_enter Tryz.func108, Tryz.ntmps108
  go_wp2_with fail
  refine (fromDigits_nt b len cap D _ hD hl (by omega) hcap (by simp; omega) ?_).mono ?_
  · intro j hj
    have := hB j hj
    rw [← this]
    exact World.cell?_of_block (Below.heap_alloc w _ b hb)
  rintro e w1 ⟨bo, go, rfl, q1, q2, q3, q4⟩
  have hx1 : Sx (fun _ => False) (fun i => False ∨ i = w.heap.size) w w1 [(bo, num D)] := ((Sx.start (A := fun _ => False) w (fun i h => h.elim)).alloc _).more q1 q2 q3 q4
  have HX1 := hid hx1
  have hd1 : w1.cell? ⟨w.heap.size, 0, none⟩ = some (.slice (some ⟨b, 0, none⟩) len cap) := (q2.cell (p := ⟨w.heap.size, 0, none⟩) (by simp) id).trans (cell_alloc_at _ _ _ _)
  have hd2 : w1.cell? ⟨w.heap.size, 1, none⟩ = some (.int .i64 P) := (q2.cell (p := ⟨w.heap.size, 1, none⟩) (by simp) id).trans (cell_alloc_at _ _ _ _)
  have hs1 : w.heap.size < w1.heap.size := by have := q2.size; simp at this; omega
  clear q1 q2 q3 q4 hx1
  go_wp2_with fail
  refine (newNatural_sx 1 (by omega) HX1.out).mono ?_
  rintro e w2 ⟨bu, rfl, hx2, hbu, hF2⟩
  have HX2 := hid hx2
  have hd3 := (hF2.cell (p := ⟨w.heap.size, 0, none⟩) hs1 id).trans hd1
  have hd4 := (hF2.cell (p := ⟨w.heap.size, 1, none⟩) hs1 id).trans hd2
  clear hx2 hF2 hd1 hd2 HX1 hB
  by_cases hpow : 0 ≤ P - len
  · have hS : Sm (num D * p10 (P - len).toNat) := Sm_p10 _ 1300 (by omega) (by
      have h1 : num D * p10 (P - len).toNat < p10 len * p10 (P - len).toNat := Nat.mul_lt_mul_of_pos_right hnum.out (p10_pos _)
      rw [← p10_add] at h1
      exact Nat.lt_of_lt_of_le h1 (p10_le _ _ (by omega)))
    have e1 : Hid (P - len = ((P - len).toNat : Int)) := by show _ = _; omega
    have e2 : Hid ((len - P).toNat = 0) := by show _ = _; omega
    go_wp2_with fail
    rw [e1.out]
    refine (timesPowerOfTen_sx bo (num D) (P - len).toNat hS (by omega) (Sx.swap HX2.out)).mono ?_
    rintro e w3 ⟨rfl, hx3⟩
    have HX3 := hid hx3
    clear hx3
    go_wp2
    go_ret2
    refine ⟨bo, bu, rfl, ?_⟩
    rw [e2.out]
    exact Sx.weaken HX3.out (fun i h => h.elim)
  · have hS : Sm (1 * p10 (len - P).toNat) := by rw [Nat.one_mul]; exact Sm_p10 _ 1300 (by omega) (by
      have hpp := p10_pos (len - P).toNat
      exact Nat.lt_of_lt_of_le (Nat.lt_of_lt_of_le (by omega : p10 (len - P).toNat < p10 (len - P).toNat * 10) (Nat.le_of_eq (p10_succ _).symm)) (p10_le _ _ (by omega)))
    have e1 : Hid (-(P - len) = ((len - P).toNat : Int)) := by show _ = _; omega
    have e2 : Hid ((P - len).toNat = 0) := by show _ = _; omega
    go_wp2_with fail
    rw [e1.out]
    refine (timesPowerOfTen_sx bu 1 (len - P).toNat hS (by omega) HX2.out).mono ?_
    rintro e w3 ⟨rfl, hx3⟩
    have HX3 := hid hx3
    clear hx3
    go_wp2
    go_ret2
    refine ⟨bo, bu, rfl, ?_⟩
    rw [e2.out]
    have := Sx.weaken (Sx.swap HX3.out) (A' := fun _ => False) (fun i h => h.elim)
    simpa [p10] using this
/-- digits as bytes -/
def bs (D : List Nat) : List Value := D.map (fun d : Nat => Value.int .u8 ((48 + d : Nat) : Int))
/-- What a decimal is read as: 0 if it is too small, noNumber or more if it is too great. -/
def NearOf (D : List Nat) (P : Int) (r : Nat) : Prop :=
  (D = [] ∨ P < -323 → r = 0) ∧ (D ≠ [] → ¬ P < -323 → 309 < P → r = 9218868437227405312) ∧
  (D ≠ [] → ¬ P < -323 → ¬ 309 < P → Rnd (num D * p10 (P - D.length).toNat * p2 1074) (p10 (D.length - P).toNat) r)
theorem num_pos (D : List Nat) (d : Nat) (r : List Nat) (h : D = d :: r) (hd : d ≠ 0) : 0 < num D := by
  subst h
  have : num (d :: r) = num ([d] ++ r) := rfl
  rw [this, num_append]
  have h1 : num [d] = d := by simp [num]
  rw [h1]
  have := p10_pos r.length
  have : 0 < d * p10 r.length := Nat.mul_pos (by omega) this
  omega
theorem ratio_lt (D : List Nat) (P : Int) (hD : Digs D) (hP : P ≤ 309) : num D * p10 (P - D.length).toNat < p10 (D.length - P).toNat * p2 1030 := by
  have h := num_lt D hD
  have h2 : num D * p10 (P - D.length).toNat < p10 (D.length + (P - D.length).toNat) := by rw [p10_add]; exact Nat.mul_lt_mul_of_pos_right h (p10_pos _)
  have h3 : p10 (D.length + (P - D.length).toNat) ≤ p10 ((D.length - P).toNat + 309) := p10_le _ _ (by omega)
  rw [p10_add (D.length - P).toNat 309] at h3
  have h4 := Nat.mul_le_mul_left (p10 (D.length - P).toNat) p10_309
  omega
set_option maxRecDepth 100000 in
set_option maxHeartbeats 1000000 in
theorem nearest_any (dv : Value) (D : List Nat) (P : Int) (w : World) (hD : Digs D) (hlen : D.length ≤ 800) (hne : D.head? ≠ some 0) (hP1 : -9000000000000000 ≤ P) (hP2' : D ≠ [] → P ≤ 309)
    (ho : w.ownsRow 0 5 1 dv D.length (bs D)) :
    Calls Tryz.prog 62 #[.agg #[dv, .int .i64 P]] w fun e w' => ∃ r : Nat, e = .returned (.int .u64 r) ∧ NearOf D P r ∧ Fr (fun _ => False) w w' := by
  rcases List.eq_nil_or_concat D with rfl | ⟨i, x, hDe⟩
  · obtain ⟨n, c, hdv⟩ : ∃ (a : Option Addr) (c : Nat), dv = .slice a 0 c := by
      rcases ho.2 with ⟨h, _⟩ | ⟨g, c, cur, h, _⟩
      · exact ⟨none, 0, h⟩
      · exact ⟨_, c, h⟩
    subst hdv
    clear ho
    go_enter Tryz.func62, Tryz.ntmps62
    go_wp2
    go_ret
    exact ⟨0, rfl, ⟨fun _ => rfl, fun h => absurd rfl h, fun h => absurd rfl h⟩, (Fr.refl _ _).alloc _⟩
  · have hpos : 0 < D.length := by rw [hDe]; simp
    have hDn : D ≠ [] := by rintro rfl; simp at hpos
    have hP2 := hP2' hDn
    clear hP2'
    obtain ⟨g, cap, rfl⟩ := row_pos ho hpos
    have hcap := ownsRow_cap ho
    have hlz : ((D.length : Int) == 0) = false := by simp; omega
    by_cases h1 : P < -323
    · clear ho hDe hne
      have HD := hid hDn
      clear hDn
      go_enter Tryz.func62, Tryz.ntmps62
      go_wp2
      go_ret
      exact ⟨0, rfl, ⟨fun _ => rfl, fun _ h => absurd h1 h, fun _ h => absurd h1 h⟩, (Fr.refl _ _).alloc _⟩
    · have hg : g < w.heap.size := (ho.lt g rfl).2
      have hB : IsBytes (w.alloc (.cells #[.slice (some ⟨g, 0, none⟩) D.length cap, .int .i64 P] 89)) g D := by
        intro j hj
        rw [World.cell?_of_block (w := w) (Below.heap_alloc w _ g hg), ho.cellAt j (by omega), bs, List.getElem?_map, List.getElem?_eq_getElem hj]; rfl
      have hnum : 0 < num D := by
        cases D with
        | nil => exact absurd rfl hDn
        | cons d r => exact num_pos _ d r rfl (by intro e; apply hne; simp [e])
      have hlt := ratio_lt D P hD (by omega)
      have hN1 : 0 < num D * p10 (P - D.length).toNat := Nat.mul_pos hnum (p10_pos _)
      have hN2 : num D * p10 (P - D.length).toNat < p2 8000 := by
        have a : num D * p10 (P - D.length).toNat < p10 (D.length + (P - D.length).toNat) := by rw [p10_add]; exact Nat.mul_lt_mul_of_pos_right (num_lt D hD) (p10_pos _)
        exact Nat.lt_of_lt_of_le a (Nat.le_trans (p10_p2 _) (p2_le (by omega)))
      have hN3 : p10 (D.length - P).toNat < p2 8000 := by
        have hpp := p10_pos (D.length - P).toNat
        have a : p10 (D.length - P).toNat < p10 ((D.length - P).toNat + 1) := by rw [p10_succ]; omega
        exact Nat.lt_of_lt_of_le a (Nat.le_trans (p10_p2 _) (p2_le (by omega)))
      have HB := hid hB
      have HD := hid hDn
      have H1 := hid hN1
      have H2 := hid hN2
      have H3 := hid hN3
      have H4 := hid hlt
      clear hB ho hne hDe hDn hnum hlt hN1 hN2 hN3
      go_enter Tryz.func62, Tryz.ntmps62
      go_wp2_with fail
      refine (ratio_sx g D.length cap D P _ hD rfl (by omega) hcap (by simp; omega) HB.out (by omega) (by omega)).mono ?_
      rintro e w1 ⟨bo, bu, rfl, hx⟩
      have HX := hid hx
      clear hx
      go_wp2_with fail
      refine (nearestBits_sx bo _ bu _ _ H1.out (p10_pos _) H2.out H3.out H4.out HX.out).mono ?_
      rintro e w2 ⟨r, rfl, hr, N', M', hx2⟩
      have HR := hid hr
      have HX2 := hid hx2
      clear hr hx2
      go_wp2
      go_ret
      exact ⟨r, rfl, ⟨fun h => by rcases h with h | h; exact absurd h HD.out; exact absurd h (by omega), fun _ _ h => absurd h (by omega), fun _ _ _ => HR.out⟩, ((Fr.refl (fun _ => False) w).alloc _).trans (Sx.fr HX2.out)⟩
end Go.Proofs.YtmkkibaacclhnaaGreatDoor

namespace Go.Proofs.YtmkkibaacclhnaaGreatDoor
open Go.RowKit

/-- one more digit behind a decimal -/
def addD (x : List Nat × Int) (d : Nat) : List Nat × Int :=
  if x.1 = [] ∧ d = 0 then (x.1, x.2 - 1) else if x.1.length < 768 then (x.1 ++ [d], x.2) else if x.1.length = 768 ∧ d ≠ 0 then (x.1 ++ [1], x.2) else x
def addDs (x : List Nat × Int) (ds : List Nat) : List Nat × Int := ds.foldl addD x
theorem addDs_snoc (x : List Nat × Int) (ds : List Nat) (d : Nat) : addDs x (ds ++ [d]) = addD (addDs x ds) d := by simp [addDs]
theorem addDs_append (x : List Nat × Int) (a b : List Nat) : addDs x (a ++ b) = addDs (addDs x a) b := by simp [addDs]
/-- the digits that bytes are -/
def dig (s : ByteArray) : List Nat := s.data.toList.map (fun c => c.toNat - 48)
def AllDig (s : ByteArray) : Prop := ∀ c ∈ s.data.toList, 48 ≤ c.toNat ∧ c.toNat ≤ 57
theorem AllDig.at {s : ByteArray} (h : AllDig s) (k : Nat) (hk : k < s.size) : 48 ≤ s[k].toNat ∧ s[k].toNat ≤ 57 := h _ (by
  have : s[k] = s.data.toList[k]'(by simpa using hk) := rfl
  rw [this]; exact List.getElem_mem _)
theorem AllDig.digs {s : ByteArray} (h : AllDig s) : Digs (dig s) := by
  intro d hd
  simp only [dig, List.mem_map] at hd
  obtain ⟨c, hc, rfl⟩ := hd
  have := h c hc
  omega
theorem Tryz.info5 : (Tryz.prog.info? 5).map (fun i => (i.zero, i.size, i.bytes)) = some (some (.int .u8 0), 1, 1) := by kernel_rfl
theorem two_set1 {w : World} {B : Nat} {a b u : Value} {t : TypeId} (h : w.heap[B]? = some (.cells #[a, b] t (0, 0))) : (w.setCell ⟨B, 1, none⟩ u).heap[B]? = some (.cells #[a, u] t (0, 0)) := by
  have := heap_setCell_same w B 1 #[a, b] t u h
  simpa using this
theorem two_set0 {w : World} {B : Nat} {a b u : Value} {t : TypeId} (h : w.heap[B]? = some (.cells #[a, b] t (0, 0))) : (w.setCell ⟨B, 0, none⟩ u).heap[B]? = some (.cells #[u, b] t (0, 0)) := by
  have := heap_setCell_same w B 0 #[a, b] t u h
  simpa using this
theorem two_cell0 {w : World} {B : Nat} {a b : Value} {t : TypeId} (h : w.heap[B]? = some (.cells #[a, b] t (0, 0))) : w.cell? ⟨B, 0, none⟩ = some a := by simp [World.cell?, h]
theorem two_cell1 {w : World} {B : Nat} {a b : Value} {t : TypeId} (h : w.heap[B]? = some (.cells #[a, b] t (0, 0))) : w.cell? ⟨B, 1, none⟩ = some b := by simp [World.cell?, h]
theorem two_free {w : World} {B j : Nat} {a b : Value} {t : TypeId} (h : w.heap[B]? = some (.cells #[a, b] t (0, 0))) : w.frozen? ⟨B, j, none⟩ = false := by simp [World.frozen?, h]
/-- a row of bytes is not where the decimal is -/
theorem row_other {w : World} {base : Nat} {dv : Value} {n : Nat} {xs : List Value} {B T : Nat} {a : Array Value} (h : w.ownsRow base 5 1 dv n xs) (hB : w.heap[B]? = some (.cells a T (0, 0))) (hT : T ≠ 5) : dv.ownBlock ≠ some B := by
  intro e
  rcases h.2 with ⟨rfl, _⟩ | ⟨g, cap, cur, rfl, _, hg, _⟩
  · simp [Value.ownBlock] at e
  · simp [Value.ownBlock] at e
    subst e
    rw [hg] at hB
    simp at hB
    exact hT hB.2.symm
theorem row_shape {w : World} {base : Nat} {dv : Value} {n : Nat} {xs : List Value} (h : w.ownsRow base 5 1 dv n xs) : ∃ a cap, dv = .slice a n cap := by
  rcases h.2 with ⟨rfl, rfl⟩ | ⟨g, cap, cur, rfl, _⟩
  · exact ⟨none, 0, rfl⟩
  · exact ⟨_, cap, rfl⟩
theorem addD_len (x : List Nat × Int) (d : Nat) (h : x.1.length ≤ 769) : (addD x d).1.length ≤ 769 := by
  unfold addD; split
  · exact h
  · split
    · simp; omega
    · split
      · simp; omega
      · exact h
theorem addD_P (x : List Nat × Int) (d : Nat) : x.2 - 1 ≤ (addD x d).2 ∧ (addD x d).2 ≤ x.2 := by
  unfold addD; split
  · simp only; omega
  · split
    · simp only; omega
    · split
      · simp only; omega
      · omega
theorem row_snoc {w : World} {base : Nat} {v : Value} {D : List Nat} {z : Int} {d : Nat} (h : w.ownsRow base 5 1 v (D.length + 1) (bs D ++ [.int .u8 z])) (hz : z = ((48 + d : Nat) : Int)) : w.ownsRow base 5 1 v (D ++ [d]).length (bs (D ++ [d])) := by
  subst hz
  have e : bs (D ++ [d]) = bs D ++ [.int .u8 ((48 + d : Nat) : Int)] := by simp [bs]
  rw [e, List.length_append]
  exact h
def ofL (l : List UInt8) : ByteArray := ⟨l.toArray⟩
theorem ofL_size (l : List UInt8) : (ofL l).size = l.length := by simp [ofL, ByteArray.size]
theorem ofL_extract (l : List UInt8) (a b : Nat) : (ofL l).extract a b = ofL ((l.take b).drop a) := by
  apply ByteArray.ext
  simp [ofL, List.drop_take]
theorem ofL_toList (l : List UInt8) : (ofL l).toList = l := by rw [Lib.toList_data]; simp [ofL]
theorem ofL_get (l : List UInt8) (k : Nat) (h : k < (ofL l).size) : (ofL l)[k] = l[k]'(by rw [ofL_size] at h; exact h) := by
  show (ofL l).data[k] = _
  simp [ofL]
def isD (c : UInt8) : Bool := decide (48 ≤ c.toNat ∧ c.toNat ≤ 57)
theorem num_le_step (ds : List Nat) (d L : Nat) : min (min (num ds) L * 10 + d) L = min (num (ds ++ [d])) L := by
  rw [num_snoc]
  omega
/-- the exponent, with its sign -/
def powI (_ _ : ByteArray) (en : Bool) (ex : ByteArray) : Int := if en then -(num (dig ex) : Int) else (num (dig ex) : Int)
theorem addD_digs (x : List Nat × Int) (d : Nat) (hd : d ≤ 9) (h : Digs x.1) (hh : x.1.head? ≠ some 0) : Digs (addD x d).1 ∧ (addD x d).1.head? ≠ some 0 := by
  unfold addD; split
  · exact ⟨h, hh⟩
  · rename_i h1
    split
    · refine ⟨?_, ?_⟩
      · intro y hy; simp only [List.mem_append, List.mem_singleton] at hy; rcases hy with hy | hy
        · exact h y hy
        · omega
      · obtain ⟨D, P⟩ := x
        cases D with
        | nil => simp at h1 ⊢; exact h1
        | cons y r => simpa using hh
    · split
      · rename_i h2
        refine ⟨?_, ?_⟩
        · intro y hy; simp only [List.mem_append, List.mem_singleton] at hy; rcases hy with hy | hy
          · exact h y hy
          · omega
        · obtain ⟨D, P⟩ := x
          cases D with
          | nil => simp at h2
          | cons y r => simpa using hh
      · exact ⟨h, hh⟩
/-- what Parse answers of a number without a sign -/
def parseV (neg : Bool) (r : Nat) : Nat × Nat := if 9218868437227405312 ≤ r then (0, 6) else (if neg then r + 9223372036854775808 else r, 0)
theorem or_sign (r : Nat) (h : r < 9223372036854775808) : bits BinOp.or IntKind.u64 (r : Int) 9223372036854775808 = ((r + 9223372036854775808 : Nat) : Int) := by
  rw [show (9223372036854775808 : Int) = ((9223372036854775808 : Nat) : Int) from rfl, u64_or_nat r _ (by omega) (by omega), Nat.or_comm, nat_join 63 _ r (by decide) h, Nat.add_comm]
end Go.Proofs.YtmkkibaacclhnaaGreatDoor
