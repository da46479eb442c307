/-
  A step of the walk, the part named Vi. No theorem of the row.
-/
import Derived.Test.YtmkkibaacclhnaaGreatDoorWq
import Derived.Test.YtmkkibaacclhnaaGreatDoorWk
import Derived.Test.YtmkkibaacclhnaaGreatDoorVh
namespace Go.Proofs.YtmkkibaacclhnaaGreatDoor
open Go.RowKit

abbrev KT := List UInt8 × List UInt8
/-- a value that is no array and no object -/
noncomputable def leafT (x : Im) : List UInt8 :=
  if x.k = 0 then [110, 117, 108, 108] else if x.k = 1 then [102, 97, 108, 115, 101] else if x.k = 2 then [116, 114, 117, 101] else if x.k = 3 then printT x.b else quoteL x.s
/-- the parts of an array or object, each with its key -/
noncomputable def partsW (sz : List Im → Nat) (wr : List Im → List UInt8) (indent : Int) (obj : Bool) : Nat → List Im → List KT
  | 0, _ => []
  | c + 1, l =>
    if obj = true then
      match l with
      | [] => []
      | k :: r => (k.s, headL indent k.s ++ wr r) :: partsW sz wr indent obj c (r.drop (sz r))
    else ([], wr l) :: partsW sz wr indent obj c (l.drop (sz l))
/-- behind the last one whose key is not greater -/
def posGo (ks : List (List UInt8)) (key : List UInt8) : Nat → Nat
  | 0 => 0
  | k + 1 => if ltB key (ks[k]?.getD []) = true then posGo ks key k else k + 1
theorem posGo_le (ks : List (List UInt8)) (key : List UInt8) (k : Nat) : posGo ks key k ≤ k := by
  induction k with
  | zero => exact Nat.le_refl _
  | succ k ih => simp only [posGo]; split <;> omega
/-- one more part, at its place -/
def stepP (so : Bool) (L : List KT) (p : KT) : List KT :=
  L.take (if so = true then posGo (L.map (·.1)) p.1 L.length else L.length) ++ [p] ++ L.drop (if so = true then posGo (L.map (·.1)) p.1 L.length else L.length)
def ordL (so : Bool) (L : List KT) : List KT := L.foldl (stepP so) []
def joinGo (indent : Int) (inn : Nat) : Bool → List (List UInt8) → List UInt8
  | _, [] => []
  | f, p :: ps => (if f = true then [] else [44]) ++ lineL indent inn ++ p ++ joinGo indent inn false ps
def openB (obj : Bool) : UInt8 := if obj = true then 123 else 91
def endB (obj : Bool) : UInt8 := if obj = true then 125 else 93
def joinL (indent : Int) (inn : Nat) (obj : Bool) (ps : List (List UInt8)) : List UInt8 :=
  if ps.length = 0 then [openB obj, endB obj] else openB obj :: (joinGo indent (inn + 1) true ps ++ lineL indent inn ++ [endB obj])
/-- a value as it is written, so deep at most -/
noncomputable def wrD (indent : Int) (so : Bool) : Nat → List Im → List UInt8
  | _, [] => []
  | 0, x :: _ => leafT x
  | d + 1, x :: r => if x.k < 5 then leafT x else
      joinL indent (999 - d) (decide (x.k = 6)) ((ordL (so && decide (x.k = 6)) (partsW (sizeD d) (wrD indent so d) indent (decide (x.k = 6)) x.n.toNat r)).map (·.2))

/-! ## how long -/
def wgt (l : List Im) : Nat := (l.map (fun x => 6 * x.s.length + 33000)).sum
theorem wgt_cons (x : Im) (l : List Im) : wgt (x :: l) = 6 * x.s.length + 33000 + wgt l := by simp [wgt]
theorem wgt_append (a b : List Im) : wgt (a ++ b) = wgt a + wgt b := by simp [wgt]
theorem wgt_drop_le (l : List Im) (n : Nat) : wgt (l.drop n) ≤ wgt l := by
  have h := wgt_append (l.take n) (l.drop n)
  rw [List.take_append_drop] at h
  omega
theorem wgt_take_le (l : List Im) (n : Nat) : wgt (l.take n) ≤ wgt l := by
  have h := wgt_append (l.take n) (l.drop n)
  rw [List.take_append_drop] at h
  omega
theorem wgt_take_add (l : List Im) (a b : Nat) : wgt (l.take (a + b)) = wgt (l.take a) + wgt ((l.drop a).take b) := by
  rw [← wgt_append, List.take_add]
def tot (L : List KT) : Nat := (L.map (fun p => p.2.length + 16002)).sum
theorem tot_append (a b : List KT) : tot (a ++ b) = tot a + tot b := by simp [tot]
theorem tot_cons (p : KT) (b : List KT) : tot (p :: b) = p.2.length + 16002 + tot b := by simp [tot]
theorem tot_step (so : Bool) (L : List KT) (p : KT) : tot (stepP so L p) = tot L + (p.2.length + 16002) := by
  unfold stepP
  generalize (if so = true then posGo (L.map (·.1)) p.1 L.length else L.length) = k
  have h := tot_append (L.take k) (L.drop k)
  rw [List.take_append_drop] at h
  rw [tot_append, tot_append, tot_cons]
  have : tot [] = 0 := rfl
  omega
theorem tot_fold (so : Bool) (L M : List KT) : tot (L.foldl (stepP so) M) = tot M + tot L := by
  induction L generalizing M with
  | nil => simp [tot]
  | cons p L ih => rw [List.foldl_cons, ih, tot_step, tot_cons]; omega
theorem line_len (indent : Int) (inn : Nat) (h1 : indent ≤ 16) (h2 : inn ≤ 1000) : (lineL indent inn).length ≤ 16001 := by
  unfold lineL
  split
  · simp
  · rw [List.length_cons, List.length_replicate]
    have : indent.toNat * inn ≤ 16 * 1000 := Nat.mul_le_mul (by omega) h2
    omega
theorem joinGo_len (indent : Int) (inn : Nat) (f : Bool) (L : List KT) (h1 : indent ≤ 16) (h2 : inn ≤ 1000) : (joinGo indent inn f (L.map (·.2))).length ≤ tot L := by
  induction L generalizing f with
  | nil => simp [joinGo]
  | cons p L ih =>
    have h := ih false
    have hl := line_len indent inn h1 h2
    rw [List.map_cons, tot_cons]
    simp only [joinGo, List.length_append]
    have hf : (if f = true then ([] : List UInt8) else [44]).length ≤ 1 := by split <;> simp
    omega
theorem joinL_len (indent : Int) (inn : Nat) (obj : Bool) (L : List KT) (h1 : indent ≤ 16) (h2 : inn ≤ 999) : (joinL indent inn obj (L.map (·.2))).length ≤ tot L + 16003 := by
  unfold joinL
  split
  · simp
  · have ha := joinGo_len indent (inn + 1) true L h1 (by omega)
    have hl := line_len indent inn h1 (by omega)
    simp only [List.length_cons, List.length_append, List.length_nil]
    omega
theorem headL_len (indent : Int) (s : List UInt8) : (headL indent s).length ≤ 6 * s.length + 4 := by
  have := quote_len s
  unfold headL quoteL
  simp only [List.length_append, List.length_cons, List.length_nil]
  have : (if indent = -1 then ([] : List UInt8) else [32]).length ≤ 1 := by split <;> simp
  omega
def Bok (l : List Im) : Prop := ∀ x, x ∈ l → x.b < 18446744073709551616
theorem Bok.drop {l : List Im} (h : Bok l) (n : Nat) : Bok (l.drop n) := fun x hx => h x (List.mem_of_mem_drop hx)
theorem partsW_len {sz : List Im → Nat} {wr : List Im → List UInt8} {indent : Int} (obj : Bool) (hw : ∀ l, Bok l → sz l ≠ 0 → (wr l).length + 16500 ≤ wgt (l.take (sz l))) (c : Nat) (l : List Im) (m : Nat) (hb : Bok l) (hm : partsG sz obj c l = some m) : tot (partsW sz wr indent obj c l) ≤ wgt (l.take m) := by
  induction c generalizing l m with
  | zero => simp [partsW, tot]
  | succ c ih =>
    cases obj with
    | true =>
      cases l with
      | nil => simp [partsG] at hm
      | cons k r =>
        simp only [partsG, if_true] at hm
        split at hm
        · split at hm
          · cases hm
          · rename_i h0
            obtain ⟨m', h1, rfl⟩ := Option.map_eq_some_iff.1 hm
            have hbr : Bok r := fun x hx => hb x (List.mem_cons_of_mem _ hx)
            have h2 := ih _ _ (hbr.drop _) h1
            have h3 := hw r hbr h0
            have h4 := headL_len indent k.s
            simp only [partsW, if_true]
            rw [tot_cons, show 1 + sz r + m' = (sz r + m') + 1 by omega, List.take_succ_cons, wgt_cons, wgt_take_add]
            simp only [List.length_append]
            omega
        · cases hm
    | false =>
      simp only [partsG, Bool.false_eq_true, if_false] at hm
      split at hm
      · cases hm
      · rename_i h0
        obtain ⟨m', h1, rfl⟩ := Option.map_eq_some_iff.1 hm
        have h2 := ih _ _ (hb.drop _) h1
        have h3 := hw l hb h0
        simp only [partsW, Bool.false_eq_true, if_false]
        rw [tot_cons, wgt_take_add]
        show (wr l).length + 16002 + _ ≤ _
        omega
theorem goodI_num {x : Im} (h : goodI x = true) (hk : x.k = 3) : x.b % 9223372036854775808 < 9218868437227405312 := by
  unfold goodI at h
  rw [if_neg (by omega), if_pos hk] at h
  simp at h
  omega
theorem leafT_len (w : World) (x : Im) (hg : goodI x = true) (hb : x.b < 18446744073709551616) : (leafT x).length ≤ 6 * x.s.length + 101 := by
  unfold leafT
  split
  · simp
  split
  · simp
  split
  · simp
  split
  · rename_i hk
    have := printT_len w x.b hb (goodI_num hg hk)
    omega
  · have := quote_len x.s
    unfold quoteL
    simp only [List.length_cons, List.length_append, List.length_nil]
    omega
theorem wrD_len (w : World) (indent : Int) (so : Bool) (h1 : indent ≤ 16) (d : Nat) (l : List Im) (hb : Bok l) (hs : sizeD d l ≠ 0) : (wrD indent so d l).length + 16500 ≤ wgt (l.take (sizeD d l)) := by
  induction d generalizing l with
  | zero =>
    cases l with
    | nil => simp [sizeD] at hs
    | cons x r =>
      simp only [sizeD] at hs ⊢
      split at hs
      · rename_i hg
        rw [if_pos hg, List.take_succ_cons, wgt_cons]
        have := leafT_len w x hg.1 (hb x (by simp))
        simp only [wrD]
        omega
      · exact absurd rfl hs
  | succ d ih =>
    cases l with
    | nil => simp [sizeD] at hs
    | cons x r =>
      simp only [sizeD] at hs ⊢
      by_cases hg : goodI x = true
      · rw [if_pos hg] at hs ⊢
        by_cases hk : x.k < 5
        · rw [if_pos hk, List.take_succ_cons, wgt_cons]
          have := leafT_len w x hg (hb x (by simp))
          simp only [wrD]
          rw [if_pos hk]
          omega
        · rw [if_neg hk] at hs ⊢
          simp only [wrD]
          rw [if_neg hk]
          generalize decide (x.k = 6) = obj at *
          cases hp : partsG (sizeD d) obj x.n.toNat r with
          | none => rw [hp] at hs; exact absurd rfl hs
          | some m =>
            have h2 := partsW_len (wr := wrD indent so d) (indent := indent) obj (fun l hb h0 => ih l hb h0) x.n.toNat r m (fun y hy => hb y (List.mem_cons_of_mem _ hy)) hp
            have h3 := joinL_len indent (999 - d) obj (ordL (so && obj) (partsW (sizeD d) (wrD indent so d) indent obj x.n.toNat r)) h1 (by omega)
            unfold ordL at h3 ⊢
            rw [tot_fold] at h3
            simp only [outN]
            rw [List.take_succ_cons, wgt_cons]
            have : tot [] = 0 := rfl
            omega
      · rw [if_neg hg] at hs
        exact absurd rfl hs
/-! ## how it is walked -/
theorem bytesLess_ltB (x y : List UInt8) : Op.bytesLess x y = ltB x y := by
  induction x generalizing y with
  | nil => cases y <;> simp [Op.bytesLess, ltB]
  | cons a x ih =>
    cases y with
    | nil => simp [Op.bytesLess, ltB]
    | cons b y =>
      simp only [Op.bytesLess, ltB, ih]
      by_cases h : a < b
      · simp [h]
      · by_cases h2 : b < a
        · have : a ≠ b := by rintro rfl; exact h h2
          simp [h, h2, this]
        · have : a = b := UInt8.le_antisymm (UInt8.not_lt.1 h2) (UInt8.not_lt.1 h)
          simp [this]
theorem gt_ltB (x y : List UInt8) : (!(Op.bytesLess (ofL x).toList (ofL y).toList || (ofL x).toList == (ofL y).toList)) = ltB y x := by
  rw [ofL_toList, ofL_toList, bytesLess_ltB]
  rcases ltB_total x y with h | h | h
  · cases h2 : ltB y x with
    | false => simp [h]
    | true => have := ltB_trans h h2; rw [ltB_irrefl] at this; cases this
  · subst h
    simp [ltB_irrefl]
  · have h1 : ltB x y = false := by
      cases h2 : ltB x y with
      | false => rfl
      | true => have := ltB_trans h h2; rw [ltB_irrefl] at this; cases this
    have h3 : x ≠ y := by rintro rfl; rw [ltB_irrefl] at h; cases h
    rw [h, h1]
    simp [h3]
/-- a list of texts, nil if there is none -/
def SP (w : World) (V : Value) (l : List (List UInt8)) : Prop := SR w V l ∧ (l = [] → V = .slice none 0 0)
theorem SP.nil (w : World) : SP w (.slice none 0 0) [] := ⟨SR.nil w, fun _ => rfl⟩
theorem SP.fr {w w' : World} {V : Value} {l : List (List UInt8)} (h : SP w V l) (hf : Fr (fun _ => False) w w') : SP w' V l := ⟨rowFr h.1 hf (fun _ _ => id), h.2⟩
theorem put_any (s : List UInt8) (w : World) (pa : Option Addr) (n cap k : Nat) (l : List (List UInt8)) (h : SP w (.slice pa n cap) l) (hk : k ≤ l.length) (hn : l.length ≤ 10000000) :
    Calls Tryz.prog 79 #[.slice pa n cap, .int .i64 (k : Int), .string (ofL s)] w fun e w' => ∃ a c, e = .returned (.slice a (l.length + 1) c) ∧ SP w' (.slice a (l.length + 1) c) (l.take k ++ [s] ++ l.drop k) ∧ Fr (fun _ => False) w w' := by
  have key : ∀ (w' : World) (a : Option Addr) (n' c : Nat), SR w' (.slice a n' c) (l.take k ++ [s] ++ l.drop k) → n' = l.length + 1 ∧ SP w' (.slice a n' c) (l.take k ++ [s] ++ l.drop k) := by
    intro w' a n' c h1
    have h2 := slice_len h1
    refine ⟨?_, h1, fun hh => by simp at hh⟩
    rw [h2]
    simp only [List.length_append, List.length_singleton, List.length_take, List.length_drop]
    omega
  cases l with
  | nil =>
    have h2 := h.2 rfl
    simp at h2
    obtain ⟨rfl, rfl, rfl⟩ := h2
    obtain rfl : k = 0 := by simpa using hk
    refine (put_nil s w).mono ?_
    rintro e w' ⟨a, n', c, rfl, h1, h2, h3⟩
    obtain ⟨rfl, h4⟩ := key w' a n' c (by simpa using h1)
    exact ⟨a, c, rfl, h4, h2⟩
  | cons p l =>
    have hl := slice_len h.1
    obtain ⟨gi, rfl⟩ := row_some h.1 (by simp)
    have hnc : n ≤ cap := by
      rcases h.1.2 with ⟨h2, _⟩ | ⟨g', cap', cur, hv, h3, hg, h4, _⟩
      · cases h2
      · simp at hv
        have := hv.2.2
        omega
    have := put_some s w gi n cap k (p :: l) h.1 (by omega) (by rw [hl]; simp) hnc (by omega)
    refine this.mono ?_
    rintro e w' ⟨a, n', c, rfl, h1, h2, h3⟩
    obtain ⟨rfl, h4⟩ := key w' a n' c h1
    exact ⟨a, c, rfl, h4, h2⟩
end Go.Proofs.YtmkkibaacclhnaaGreatDoor

namespace Go.Proofs.YtmkkibaacclhnaaGreatDoor
open Go.RowKit

theorem partsG_mono {sz sz' : List Im → Nat} (h : ∀ l, sz l ≠ 0 → sz' l = sz l) (obj : Bool) (c : Nat) (l : List Im) (m : Nat) (hm : partsG sz obj c l = some m) : partsG sz' obj c l = some m := by
  induction c generalizing l m with
  | zero => exact hm
  | succ c ih =>
    unfold partsG at hm ⊢
    cases obj with
    | true =>
      rw [if_pos rfl] at hm ⊢
      cases l with
      | nil => exact hm
      | cons k r =>
        simp only at hm ⊢
        by_cases hk : k.k = 4 ∧ goodI k = true
        · rw [if_pos hk] at hm ⊢
          by_cases h0 : sz r = 0
          · rw [if_pos h0] at hm; cases hm
          · rw [if_neg h0] at hm
            rw [h r h0, if_neg h0]
            cases hp : partsG sz true c (r.drop (sz r)) with
            | none => rw [hp] at hm; cases hm
            | some q =>
              rw [hp] at hm
              rw [ih _ _ hp]
              exact hm
        · rw [if_neg hk] at hm; cases hm
    | false =>
      rw [if_neg (by simp)] at hm ⊢
      by_cases h0 : sz l = 0
      · rw [if_pos h0] at hm; cases hm
      · rw [if_neg h0] at hm
        rw [h l h0, if_neg h0]
        cases hp : partsG sz false c (l.drop (sz l)) with
        | none => rw [hp] at hm; cases hm
        | some q =>
          rw [hp] at hm
          rw [ih _ _ hp]
          exact hm
theorem sizeD_up (d : Nat) (l : List Im) (h : sizeD d l ≠ 0) : sizeD (d + 1) l = sizeD d l := by
  induction d generalizing l with
  | zero =>
    cases l with
    | nil => exact absurd rfl h
    | cons x r =>
      simp only [sizeD] at h ⊢
      by_cases hg : goodI x = true ∧ x.k < 5
      · rw [if_pos hg, if_pos hg.1, if_pos hg.2]
      · rw [if_neg hg] at h; exact absurd rfl h
  | succ d ih =>
    cases l with
    | nil => exact absurd rfl h
    | cons x r =>
      rw [sizeD] at h ⊢
      rw [sizeD]
      by_cases hg : goodI x = true
      · rw [if_pos hg] at h ⊢
        rw [if_pos hg]
        by_cases hk : x.k < 5
        · rw [if_pos hk, if_pos hk]
        · rw [if_neg hk] at h ⊢
          rw [if_neg hk]
          cases hp : partsG (sizeD d) (decide (x.k = 6)) x.n.toNat r with
          | none => rw [hp] at h; exact absurd rfl h
          | some m => rw [partsG_mono ih _ _ _ _ hp]
      · rw [if_neg hg] at h; exact absurd rfl h
theorem sizeD_ups (d e : Nat) (l : List Im) (h : sizeD d l ≠ 0) (he : d ≤ e) : sizeD e l = sizeD d l := by
  obtain ⟨k, rfl⟩ := Nat.le.dest he
  induction k with
  | zero => rfl
  | succ k ih =>
    have := ih (by omega)
    rw [← this] at h ⊢
    exact sizeD_up (d + k) l h
/-- behind: from the one place to the other, each item's value ends where the document says -/
def BhOk (beh : List Nat) (its : List Im) (a b : Nat) : Prop := ∀ q, a ≤ q → q < b → beh[q]? = some (q + sizeD 1000 (its.drop q))
theorem BhOk.nil (beh : List Nat) (its : List Im) (a : Nat) : BhOk beh its a a := fun q h1 h2 => absurd h2 (by omega)
theorem BhOk.join {beh beh' : List Nat} {its : List Im} {a b c : Nat} (h : BhOk beh its a b) (k : BhOk beh' its b c) (hs : ∀ q, q < b → beh'[q]? = beh[q]?) : BhOk beh' its a c := by
  intro q h1 h2
  by_cases hq : q < b
  · rw [hs q hq]; exact h q h1 hq
  · exact k q (by omega) h2
theorem BhOk.set {beh : List Nat} {its : List Im} {a d : Nat} (h : BhOk beh its (a + 1) (a + sizeD d (its.drop a))) (hz : sizeD d (its.drop a) ≠ 0) (hd : d ≤ 1000) (hl : a < beh.length) : BhOk (beh.set a (a + sizeD d (its.drop a))) its a (a + sizeD d (its.drop a)) := by
  intro q h1 h2
  by_cases hq : q = a
  · subst hq
    rw [List.getElem?_set_self (by omega), sizeD_ups d 1000 _ hz hd]
  · rw [List.getElem?_set_ne (by omega)]
    exact h q (by omega) h2
/-- the outline in memory: items, behind, next -/
structure OL (w : World) (o g ig cap : Nat) (its : List Im) (beh : List Nat) (nx : Nat) : Prop where
  blk : w.heap[o]? = some (.cells #[.slice (some ⟨ig, 0, none⟩) its.length cap, .slice (some ⟨g, 0, none⟩) its.length its.length, .int .i64 (nx : Int)] 61 (0, 0))
  row : w.ownsRow 0 3 1 (.slice (some ⟨g, 0, none⟩) its.length its.length) its.length (beh.map encN)
  items : ItAt w (.slice (some ⟨ig, 0, none⟩) its.length cap) its
  og : o ≠ g
  io : ig ≠ o
  ig : ig ≠ g
  tabs : Tabs w
  o2 : 2 ≤ o
  g2 : 2 ≤ g
  nxle : nx ≤ its.length
theorem OL.len {w : World} {o g ig cap : Nat} {its : List Im} {beh : List Nat} {nx : Nat} (h : OL w o g ig cap its beh nx) : beh.length = its.length := by
  have := h.row.1
  simpa using this
theorem OL.fr {w w' : World} {o g ig cap : Nat} {its : List Im} {beh : List Nat} {nx : Nat} (h : OL w o g ig cap its beh nx) (hf : Fr (fun _ => False) w w') : OL w' o g ig cap its beh nx :=
  ⟨hf.heap h.blk id, rowFr h.row hf (fun _ _ => id), h.items.fr hf (fun _ _ => id), h.og, h.io, h.ig, h.tabs.fr hf id id, h.o2, h.g2, h.nxle⟩
/-- the cells of one item -/
theorem OL.cells {w : World} {o g ig cap : Nat} {its : List Im} {beh : List Nat} {nx : Nat} (h : OL w o g ig cap its beh nx) {p : Nat} {x : Im} (hx : its[p]? = some x) :
    w.cell? ⟨ig, p * 4, none⟩ = some (.int .i64 x.k) ∧ w.cell? ⟨ig, p * 4 + 1, none⟩ = some (.int .i64 x.n) ∧ w.cell? ⟨ig, p * 4 + 2, none⟩ = some (.int .u64 (x.b : Int)) ∧ w.cell? ⟨ig, p * 4 + 3, none⟩ = some (.string (ofL x.s)) :=
  ⟨rowCell h.items (p * 4) _ (imsV_get its p 0 x hx (by omega)), rowCell h.items (p * 4 + 1) _ (imsV_get its p 1 x hx (by omega)), rowCell h.items (p * 4 + 2) _ (imsV_get its p 2 x hx (by omega)), rowCell h.items (p * 4 + 3) _ (imsV_get its p 3 x hx (by omega))⟩
/-- the next place is set -/
theorem OL.step {w : World} {o g ig cap : Nat} {its : List Im} {beh : List Nat} {nx : Nat} (h : OL w o g ig cap its beh nx) (m : Nat) (hm : m ≤ its.length) : OL (w.setCell ⟨o, 2, none⟩ (.int .i64 (m : Int))) o g ig cap its beh m := by
  have hF : Fr (fun i => i = o) w (w.setCell ⟨o, 2, none⟩ (.int .i64 (m : Int))) := (Fr.refl (fun i => i = o) w).setCell (p := ⟨o, 2, none⟩) (.inl rfl) _
  exact ⟨heap_setCell_same w o 2 _ 61 _ h.blk, rowFr h.row hF (by rintro i hi rfl; exact h.og (by simpa [Value.ownBlock] using hi.symm)), h.items.fr hF (by rintro i hi rfl; exact h.io (by simpa [Value.ownBlock] using hi)), h.og, h.io, h.ig, h.tabs.fr hF (by have := h.o2; omega) (by have := h.o2; omega), h.o2, h.g2, hm⟩
/-- where a value ends is set down -/
theorem OL.note {w : World} {o g ig cap : Nat} {its : List Im} {beh : List Nat} {nx : Nat} (h : OL w o g ig cap its beh nx) (p m : Nat) : OL (w.setCell ⟨g, p, none⟩ (.int .i64 (m : Int))) o g ig cap its (beh.set p m) nx := by
  have hF : Fr (fun i => i = g) w (w.setCell ⟨g, p, none⟩ (.int .i64 (m : Int))) := (Fr.refl (fun i => i = g) w).setCell (p := ⟨g, p, none⟩) (.inl rfl) _
  refine ⟨hF.heap h.blk h.og, ?_, h.items.fr hF (by rintro i hi rfl; exact h.ig (by simpa [Value.ownBlock] using hi)), h.og, h.io, h.ig, h.tabs.fr hF (by have := h.g2; omega) (by have := h.g2; omega), h.o2, h.g2, h.nxle⟩
  have := rowSet h.row p (encN m)
  rw [← List.map_set] at this
  exact this
/-- what a step of the outline leaves -/
structure OPost (w w' : World) (o g ig cap : Nat) (its : List Im) (beh : List Nat) (nx : Nat) (beh' : List Nat) (nx' : Nat) : Prop where
  fr : Fr (fun i => i = o ∨ i = g) w w'
  ol : OL w' o g ig cap its beh' nx'
  low : ∀ q, q < nx → beh'[q]? = beh[q]?
  le : nx ≤ nx'
theorem OPost.trans {w w' w2 : World} {o g ig cap : Nat} {its : List Im} {beh beh' beh2 : List Nat} {nx nx' nx2 : Nat} (h : OPost w w' o g ig cap its beh nx beh' nx') (k : OPost w' w2 o g ig cap its beh' nx' beh2 nx2) : OPost w w2 o g ig cap its beh nx beh2 nx2 :=
  ⟨h.fr.trans k.fr, k.ol, fun q hq => (k.low q (Nat.lt_of_lt_of_le hq h.le)).trans (h.low q hq), Nat.le_trans h.le k.le⟩
/-- a value was gone through, or there is none -/
def VDone (w : World) (o g ig cap : Nat) (its : List Im) (beh : List Nat) (nx : Nat) (r : Option Nat) (e : Ending) (w' : World) : Prop :=
  match r with
  | none => e = .returned (.bool false) ∧ ∃ beh' nx', OPost w w' o g ig cap its beh nx beh' nx'
  | some m => e = .returned (.bool true) ∧ ∃ beh', OPost w w' o g ig cap its beh nx beh' (nx + m) ∧ BhOk beh' its nx (nx + m)
def szO (n : Nat) : Option Nat := if n = 0 then none else some n
/-- what value 41 keeps to, so deep -/
def ValOk (d : Nat) : Prop := ∀ (w : World) (o g ig cap : Nat) (its : List Im) (beh : List Nat) (nx : Nat), OL w o g ig cap its beh nx → its.length ≤ 10000000 → (∀ x, x ∈ its → x.s.length ≤ 100000000) → Bok its → d ≤ 1000 →
  Calls Tryz.prog 41 #[.pointer (some ⟨o, 0, none⟩), .int .i64 (d : Int)] w (VDone w o g ig cap its beh nx (szO (sizeD d (its.drop nx))))
end Go.Proofs.YtmkkibaacclhnaaGreatDoor
