/-
  A step of the walk of the numbers, the part named Str. No theorem of the row.
-/
import Derived.Test.YtmkkibaacclhnaaDec
import Derived.Lib.Strings
namespace Go.Proofs.Ytmkkibaacclhnaa
open Go.RowKit

/-- one more digit behind a decimal -/
def addD (x : List Nat × Int) (d : Nat) : List Nat × Int :=
  if x.1 = [] ∧ d = 0 then (x.1, x.2 - 1) else if x.1.length < 768 then (x.1 ++ [d], x.2) else if x.1.length = 768 ∧ d ≠ 0 then (x.1 ++ [1], x.2) else x
def addDs (x : List Nat × Int) (ds : List Nat) : List Nat × Int := ds.foldl addD x
theorem addDs_snoc (x : List Nat × Int) (ds : List Nat) (d : Nat) : addDs x (ds ++ [d]) = addD (addDs x ds) d := by simp [addDs]
theorem addDs_append (x : List Nat × Int) (a b : List Nat) : addDs x (a ++ b) = addDs (addDs x a) b := by simp [addDs]

/-- the digits that bytes are -/
def dig (s : ByteArray) : List Nat := s.data.toList.map (fun c => c.toNat - 48)
theorem dig_length (s : ByteArray) : (dig s).length = s.size := by simp [dig]
def AllDig (s : ByteArray) : Prop := ∀ c ∈ s.data.toList, 48 ≤ c.toNat ∧ c.toNat ≤ 57
theorem dig_take (s : ByteArray) (k : Nat) (h : k < s.size) : (dig s).take (k + 1) = (dig s).take k ++ [s[k].toNat - 48] := by
  rw [List.take_succ_eq_append_getElem (by rw [dig_length]; exact h)]
  simp only [dig, List.getElem_map]
  rfl
theorem AllDig.at {s : ByteArray} (h : AllDig s) (k : Nat) (hk : k < s.size) : 48 ≤ s[k].toNat ∧ s[k].toNat ≤ 57 := h _ (by
  have : s[k] = s.data.toList[k]'(by simpa using hk) := rfl
  rw [this]; exact List.getElem_mem _)
theorem AllDig.digs {s : ByteArray} (h : AllDig s) : Digs (dig s) := by
  intro d hd
  simp only [dig, List.mem_map] at hd
  obtain ⟨c, hc, rfl⟩ := hd
  have := h c hc
  omega

theorem Try.info5 : (Try.prog.info? 5).map (fun i => (i.zero, i.size, i.bytes)) = some (some (.int .u8 0), 1, 1) := by kernel_rfl

theorem two_set1 {w : World} {B : Nat} {a b u : Value} {t : TypeId} (h : w.heap[B]? = some (.cells #[a, b] t (0, 0))) : (w.setCell ⟨B, 1, none⟩ u).heap[B]? = some (.cells #[a, u] t (0, 0)) := by
  have := heap_setCell_same w B 1 #[a, b] t u h
  simpa using this
theorem two_set0 {w : World} {B : Nat} {a b u : Value} {t : TypeId} (h : w.heap[B]? = some (.cells #[a, b] t (0, 0))) : (w.setCell ⟨B, 0, none⟩ u).heap[B]? = some (.cells #[u, b] t (0, 0)) := by
  have := heap_setCell_same w B 0 #[a, b] t u h
  simpa using this
theorem two_cell0 {w : World} {B : Nat} {a b : Value} {t : TypeId} (h : w.heap[B]? = some (.cells #[a, b] t (0, 0))) : w.cell? ⟨B, 0, none⟩ = some a := by simp [World.cell?, h]
theorem two_cell1 {w : World} {B : Nat} {a b : Value} {t : TypeId} (h : w.heap[B]? = some (.cells #[a, b] t (0, 0))) : w.cell? ⟨B, 1, none⟩ = some b := by simp [World.cell?, h]
theorem two_free {w : World} {B j : Nat} {a b : Value} {t : TypeId} (h : w.heap[B]? = some (.cells #[a, b] t (0, 0))) : w.frozen? ⟨B, j, none⟩ = false := by simp [World.frozen?, h]

/-- a row of bytes is not where the decimal is -/
theorem row_other {w : World} {base : Nat} {dv : Value} {n : Nat} {xs : List Value} {B T : Nat} {a : Array Value} (h : w.ownsRow base 5 1 dv n xs) (hB : w.heap[B]? = some (.cells a T (0, 0))) (hT : T ≠ 5) : dv.ownBlock ≠ some B := by
  intro e
  rcases h.2 with ⟨rfl, _⟩ | ⟨g, cap, cur, rfl, _, hg, _⟩
  · simp [Value.ownBlock] at e
  · simp [Value.ownBlock] at e
    subst e
    rw [hg] at hB
    simp at hB
    exact hT hB.2.symm

theorem row_shape {w : World} {base : Nat} {dv : Value} {n : Nat} {xs : List Value} (h : w.ownsRow base 5 1 dv n xs) : ∃ a cap, dv = .slice a n cap := by
  rcases h.2 with ⟨rfl, rfl⟩ | ⟨g, cap, cur, rfl, _⟩
  · exact ⟨none, 0, rfl⟩
  · exact ⟨_, cap, rfl⟩

theorem addD_len (x : List Nat × Int) (d : Nat) (h : x.1.length ≤ 769) : (addD x d).1.length ≤ 769 := by
  unfold addD; split
  · exact h
  · split
    · simp; omega
    · split
      · simp; omega
      · exact h
theorem addDs_len (x : List Nat × Int) (ds : List Nat) (h : x.1.length ≤ 769) : (addDs x ds).1.length ≤ 769 := by
  refine snoc_ind (P := fun ds => (addDs x ds).1.length ≤ 769) h ?_ ds
  intro a d ih; rw [addDs_snoc]; exact addD_len _ _ ih
theorem addD_P (x : List Nat × Int) (d : Nat) : x.2 - 1 ≤ (addD x d).2 ∧ (addD x d).2 ≤ x.2 := by
  unfold addD; split
  · simp only; omega
  · split
    · simp only; omega
    · split
      · simp only; omega
      · omega
theorem addDs_P (x : List Nat × Int) (ds : List Nat) : x.2 - ds.length ≤ (addDs x ds).2 ∧ (addDs x ds).2 ≤ x.2 := by
  refine snoc_ind (P := fun ds => x.2 - ds.length ≤ (addDs x ds).2 ∧ (addDs x ds).2 ≤ x.2) (by simp [addDs]) ?_ ds
  intro a d ih; rw [addDs_snoc]; have := addD_P (addDs x a) d; simp only [List.length_append, List.length_singleton]; omega

theorem row_snoc {w : World} {base : Nat} {v : Value} {D : List Nat} {z : Int} {d : Nat} (h : w.ownsRow base 5 1 v (D.length + 1) (bs D ++ [.int .u8 z])) (hz : z = ((48 + d : Nat) : Int)) : w.ownsRow base 5 1 v (D ++ [d]).length (bs (D ++ [d])) := by
  subst hz
  have e : bs (D ++ [d]) = bs D ++ [.int .u8 ((48 + d : Nat) : Int)] := by simp [bs]
  rw [e, List.length_append]
  exact h

def ofL (l : List UInt8) : ByteArray := ⟨l.toArray⟩
theorem ofL_size (l : List UInt8) : (ofL l).size = l.length := by simp [ofL, ByteArray.size]
theorem ofL_data (s : ByteArray) : ofL s.data.toList = s := by cases s; simp [ofL]
theorem ofL_extract (l : List UInt8) (a b : Nat) : (ofL l).extract a b = ofL ((l.take b).drop a) := by
  apply ByteArray.ext
  simp [ofL, List.drop_take]
theorem ofL_toList (l : List UInt8) : (ofL l).toList = l := by rw [Lib.toList_data]; simp [ofL]
theorem ofL_get (l : List UInt8) (k : Nat) (h : k < (ofL l).size) : (ofL l)[k] = l[k]'(by rw [ofL_size] at h; exact h) := by
  show (ofL l).data[k] = _
  simp [ofL]

def isD (c : UInt8) : Bool := decide (48 ≤ c.toNat ∧ c.toNat ≤ 57)

theorem num_le_step (ds : List Nat) (d L : Nat) : min (min (num ds) L * 10 + d) L = min (num (ds ++ [d])) L := by
  rw [num_snoc]
  omega

/-- the exponent, with its sign -/
def powI (_ _ : ByteArray) (en : Bool) (ex : ByteArray) : Int := if en then -(num (dig ex) : Int) else (num (dig ex) : Int)
/-- the decimal that the pieces say -/
def decOf (wh fr : ByteArray) (en : Bool) (ex : ByteArray) : List Nat × Int := addDs (addDs ([], (wh.size : Int) + powI wh fr en ex) (dig wh)) (dig fr)

theorem addD_digs (x : List Nat × Int) (d : Nat) (hd : d ≤ 9) (h : Digs x.1) (hh : x.1.head? ≠ some 0) : Digs (addD x d).1 ∧ (addD x d).1.head? ≠ some 0 := by
  unfold addD; split
  · exact ⟨h, hh⟩
  · rename_i h1
    split
    · refine ⟨?_, ?_⟩
      · intro y hy; simp only [List.mem_append, List.mem_singleton] at hy; rcases hy with hy | hy
        · exact h y hy
        · omega
      · obtain ⟨D, P⟩ := x
        cases D with
        | nil => simp at h1 ⊢; exact h1
        | cons y r => simpa using hh
    · split
      · rename_i h2
        refine ⟨?_, ?_⟩
        · intro y hy; simp only [List.mem_append, List.mem_singleton] at hy; rcases hy with hy | hy
          · exact h y hy
          · omega
        · obtain ⟨D, P⟩ := x
          cases D with
          | nil => simp at h2
          | cons y r => simpa using hh
      · exact ⟨h, hh⟩
theorem addDs_digs (x : List Nat × Int) (ds : List Nat) (hd : Digs ds) (h : Digs x.1) (hh : x.1.head? ≠ some 0) : Digs (addDs x ds).1 ∧ (addDs x ds).1.head? ≠ some 0 := by
  refine snoc_ind (P := fun ds => Digs ds → Digs (addDs x ds).1 ∧ (addDs x ds).1.head? ≠ some 0) (fun _ => ⟨h, hh⟩) ?_ ds hd
  intro a d ih hd
  have := ih (fun y hy => hd y (List.mem_append_left _ hy))
  rw [addDs_snoc]
  exact addD_digs _ _ (hd d (by simp)) this.1 this.2

/-- what Parse answers of a number without a sign -/
def parseV (neg : Bool) (r : Nat) : Nat × Nat := if 9218868437227405312 ≤ r then (0, 6) else (if neg then r + 9223372036854775808 else r, 0)

theorem or_sign (r : Nat) (h : r < 9223372036854775808) : bits BinOp.or IntKind.u64 (r : Int) 9223372036854775808 = ((r + 9223372036854775808 : Nat) : Int) := by
  rw [show (9223372036854775808 : Int) = ((9223372036854775808 : Nat) : Int) from rfl, u64_or_nat r _ (by omega) (by omega), Nat.or_comm, nat_join 63 _ r (by decide) h, Nat.add_comm]

end Go.Proofs.Ytmkkibaacclhnaa
