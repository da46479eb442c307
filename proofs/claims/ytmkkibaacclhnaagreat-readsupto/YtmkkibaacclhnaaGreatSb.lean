/-
  A step of the walk, the part named Sb. No theorem of the row.
-/
import Derived.Test.YtmkkibaacclhnaaGreatRe
import Derived.Test.YtmkkibaacclhnaaGreatQc
import Derived.BigQuiet
namespace Go.Proofs.YtmkkibaacclhnaaGreat
open Go.RowKit

def scCells (l : List UInt8) (pos inn d : Nat) (vi : Value) (e : Nat) (en la : Bool) : Array Value :=
  #[.string (ofL l), .int .i64 (pos : Int), .int .i64 (inn : Int), .int .i64 (d : Int), vi, .int .i64 (e : Int), .bool en, .bool la]
/-- a text that is gone through: so much of it is left -/
structure SC (B : Nat) (w0 w : World) (l p : List UInt8) (inn d : Nat) (vi : Value) (its : List It) (e : Nat) (en la : Bool) : Prop where
  blk : w.heap[B]? = some (.cells (scCells l (l.length - p.length) inn d vi e en la) 110 (0, 0))
  oi : w.ownsRow 0 59 4 vi its.length (itsV its)
  suf : p <:+ l
  fr : Fr (fun _ => False) w0 w
  hB : w0.heap.size ≤ B
  hv : ∀ i, vi.ownBlock = some i → w0.heap.size ≤ i
theorem SC.cell {B : Nat} {w0 w : World} {l p p' : List UInt8} {inn inn' d : Nat} {vi : Value} {its : List It} {e e' : Nat} {en en' la la' : Bool} (h : SC B w0 w l p inn d vi its e en la) (j : Nat) (u : Value) (hp : p' <:+ l)
    (hc : (scCells l (l.length - p.length) inn d vi e en la).setIfInBounds j u = scCells l (l.length - p'.length) inn' d vi e' en' la') : SC B w0 (w.setCell ⟨B, j, none⟩ u) l p' inn' d vi its e' en' la' := by
  obtain ⟨a, b, c, f, g, k⟩ := h
  refine ⟨?_, rowSetOther b (rowT b a (by decide)) u, hp, f.setCell (p := ⟨B, j, none⟩) (.inr g) u, g, k⟩
  rw [← hc]
  exact heap_setCell_same w B j _ 110 u a
theorem SC.drew {B : Nat} {w0 w : World} {l p : List UInt8} {inn d : Nat} {vi : Value} {its : List It} {e : Nat} {en la : Bool} (h : SC B w0 w l p inn d vi its e en la) : SC B w0 w.drew l p inn d vi its e en la :=
  ⟨h.blk, h.oi, h.suf, h.fr.drew, h.hB, h.hv⟩
theorem SC.drewN {B : Nat} {w0 w : World} {l p : List UInt8} {inn d : Nat} {vi : Value} {its : List It} {e : Nat} {en la : Bool} (h : SC B w0 w l p inn d vi its e en la) (n : Nat) : SC B w0 (w.drewN n) l p inn d vi its e en la :=
  ⟨h.blk, h.oi, h.suf, h.fr.drewN n, h.hB, h.hv⟩
theorem SC.at_ {B : Nat} {w0 w : World} {l p : List UInt8} {inn d : Nat} {vi : Value} {its : List It} {e : Nat} {en la : Bool} (h : SC B w0 w l p inn d vi its e en la) : p.length ≤ l.length := h.suf.length_le
/-- the byte at the place -/
theorem suf_get {l q : List UInt8} {c : UInt8} (h : (c :: q) <:+ l) : ∃ hk : l.length - (c :: q).length < l.length, l[l.length - (c :: q).length] = c := by
  obtain ⟨t, rfl⟩ := h
  have hk : (t ++ c :: q).length - (c :: q).length = t.length := by simp
  refine ⟨by simp, ?_⟩
  simp only [hk]
  simp
theorem suf_tail {l q : List UInt8} {c : UInt8} (h : (c :: q) <:+ l) : q <:+ l := (List.suffix_cons c q).trans h
theorem suf_pos {l q : List UInt8} {c : UInt8} (h : (c :: q) <:+ l) : l.length - q.length = l.length - (c :: q).length + 1 := by
  have := h.length_le
  simp only [List.length_cons] at this ⊢
  omega
set_option maxRecDepth 100000 in
set_option maxHeartbeats 4000000 in
theorem more_no (B : Nat) (w0 w : World) (l : List UInt8) (inn d : Nat) (vi : Value) (its : List It) (e : Nat) (en la : Bool) (h : SC B w0 w l [] inn d vi its e en la) :
    Calls Tryz.prog 75 #[.pointer (some ⟨B, 0, none⟩)] w fun x w' => x = .returned (.bool false) ∧ SC B w0 w' l [] inn d vi its e true la := by
  have hR := hid (h.drew.cell 6 (.bool true) (p' := []) (inn' := inn) (e' := e) (en' := true) (la' := la) h.suf rfl)
  have k0 := blk_cell h.blk (show (scCells l (l.length - 0) inn d vi e en la)[0]? = some (.string (ofL l)) from rfl)
  have k1 := blk_cell h.blk (show (scCells l (l.length - 0) inn d vi e en la)[1]? = some (.int .i64 ((l.length - 0 : Nat) : Int)) from rfl)
  have k6 := blk_cell h.blk (show (scCells l (l.length - 0) inn d vi e en la)[6]? = some (.bool en) from rfl)
  have f6 := blk_free (j := 6) h.blk
  rw [Nat.sub_zero] at k1
  have hsz := ofL_size l
  clear h
  go_enter Tryz.func75, Tryz.ntmps75
  go_wp2
  go_region
  all_goals
    go_wp2
    go_ret
    exact ⟨rfl, hR.out⟩
set_option maxRecDepth 100000 in
set_option maxHeartbeats 4000000 in
theorem more_yes (B : Nat) (w0 w : World) (l : List UInt8) (c : UInt8) (q : List UInt8) (inn d : Nat) (vi : Value) (its : List It) (e : Nat) (en la : Bool) (h : SC B w0 w l (c :: q) inn d vi its e en la) :
    Calls Tryz.prog 75 #[.pointer (some ⟨B, 0, none⟩)] w fun x w' => x = .returned (.bool true) ∧ w' = w.drew := by
  have k0 := blk_cell h.blk (show (scCells l (l.length - (c :: q).length) inn d vi e en la)[0]? = some (.string (ofL l)) from rfl)
  have k1 := blk_cell h.blk (show (scCells l (l.length - (c :: q).length) inn d vi e en la)[1]? = some (.int .i64 ((l.length - (c :: q).length : Nat) : Int)) from rfl)
  obtain ⟨hk, _⟩ := suf_get h.suf
  generalize l.length - (c :: q).length = k at *
  have hsz := ofL_size l
  clear h
  go_enter Tryz.func75, Tryz.ntmps75
  go_wp2
  go_region
  all_goals
    go_wp2
    go_ret
    exact ⟨rfl, rfl⟩
set_option maxRecDepth 100000 in
set_option maxHeartbeats 4000000 in
theorem fails_any (B : Nat) (w0 w : World) (l p : List UInt8) (inn d : Nat) (vi : Value) (its : List It) (e n : Nat) (en la : Bool) (h : SC B w0 w l p inn d vi its e en la) :
    Calls Tryz.prog 70 #[.pointer (some ⟨B, 0, none⟩), .int .i64 (n : Int)] w fun x w' => x = .returned (.bool false) ∧ SC B w0 w' l p inn d vi its n en la := by
  have hR := hid (h.cell 5 (.int .i64 (n : Int)) (p' := p) (inn' := inn) (e' := n) (en' := en) (la' := la) h.suf rfl)
  have k5 := blk_cell h.blk (show (scCells l (l.length - p.length) inn d vi e en la)[5]? = some (.int .i64 (e : Int)) from rfl)
  have f5 := blk_free (j := 5) h.blk
  clear h
  go_enter Tryz.func70, Tryz.ntmps70
  go_wp2
  go_ret
  exact ⟨rfl, hR.out⟩
def atOf (w : World) (B : Nat) : Nat := (intOf ((w.cell? ⟨B, 1, none⟩).getD undef)).toNat
theorem SC.atOf {B : Nat} {w0 w : World} {l p : List UInt8} {inn d : Nat} {vi : Value} {its : List It} {e : Nat} {en la : Bool} (h : SC B w0 w l p inn d vi its e en la) : atOf w B = l.length - p.length := by
  unfold YtmkkibaacclhnaaGreat.atOf
  rw [blk_cell h.blk (show (scCells l (l.length - p.length) inn d vi e en la)[1]? = some (.int .i64 ((l.length - p.length : Nat) : Int)) from rfl)]
  simp [intOf]
theorem blank_is {c : UInt8} (h : blank c = true) : c = 32 ∨ c = 9 ∨ c = 10 ∨ c = 13 := by
  rcases of_decide_eq_true h with h | h | h | h
  · exact .inl h
  · exact .inr (.inr (.inl h))
  · exact .inr (.inr (.inr h))
  · exact .inr (.inl h)
theorem blank_not {c : UInt8} (h : blank c = false) : c ≠ 32 ∧ c ≠ 9 ∧ c ≠ 10 ∧ c ≠ 13 := by
  have := of_decide_eq_false h
  exact ⟨fun e => this (.inl e), fun e => this (.inr (.inr (.inr e))), fun e => this (.inr (.inl e)), fun e => this (.inr (.inr (.inl e)))⟩
/-- a step on -/
theorem SC.step {B : Nat} {w0 w : World} {l q : List UInt8} {c : UInt8} {inn d : Nat} {vi : Value} {its : List It} {e : Nat} {en la : Bool} (h : SC B w0 w l (c :: q) inn d vi its e en la) :
    SC B w0 (w.setCell ⟨B, 1, none⟩ (.int .i64 ((l.length - (c :: q).length : Nat) + 1 : Int))) l q inn d vi its e en la := by
  refine h.cell 1 _ (suf_tail h.suf) ?_
  rw [suf_pos h.suf]
  rfl
set_option maxRecDepth 100000 in
set_option maxHeartbeats 16000000 in
theorem blanks_any (B : Nat) (w0 w : World) (l p : List UInt8) (inn d : Nat) (vi : Value) (its : List It) (e : Nat) (en la : Bool) (hl : l.length ≤ 100000000) (h : SC B w0 w l p inn d vi its e en la) :
    Calls Tryz.prog 46 #[.pointer (some ⟨B, 0, none⟩)] w fun x w' => x = .returned (.bool (!(skipB p).isEmpty)) ∧ SC B w0 w' l (skipB p) inn d vi its e (en || (skipB p).isEmpty) la := by
  have H := hid h
  clear h
  go_enter Tryz.func46, Tryz.ntmps46
  go_wp2
  go_loopw [] (fun wr => ∃ p', Hid (SC B w0 wr l p' inn d vi its e en la) ∧ Hid (skipB p' = skipB p)) (fun wr => l.length - atOf wr B)
  case atStart => exact ⟨p, H, hid rfl⟩
  case round =>
    obtain ⟨p', hI, hS⟩ := hrel
    have hsz := ofL_size l
    cases p' with
    | nil =>
      have k0 := blk_cell hI.out.blk (show (scCells l (l.length - 0) inn d vi e en la)[0]? = some (.string (ofL l)) from rfl)
      have k1 := blk_cell hI.out.blk (show (scCells l (l.length - 0) inn d vi e en la)[1]? = some (.int .i64 ((l.length - 0 : Nat) : Int)) from rfl)
      rw [Nat.sub_zero] at k1
      have hs : skipB p = [] := hS.out.symm
      have hM := hid (fun n => more_no B w0 _ l inn d vi its e en la (hI.out.drewN n))
      have HS := hid hs
      clear hs
      go_wp2
      go_quiet (fail)
      go_wp2_with fail
      refine Calls.mono (hM.out _) ?_
      rintro x w2 ⟨rfl, hC⟩
      have HC := hid hC
      clear hC
      go_wp2
      go_ret
      rw [HS.out]
      exact ⟨rfl, by simpa using HC.out⟩
    | cons c q =>
      obtain ⟨hk, hg⟩ := suf_get hI.out.suf
      have k0 := blk_cell hI.out.blk (show (scCells l (l.length - (c :: q).length) inn d vi e en la)[0]? = some (.string (ofL l)) from rfl)
      have k1 := blk_cell hI.out.blk (show (scCells l (l.length - (c :: q).length) inn d vi e en la)[1]? = some (.int .i64 ((l.length - (c :: q).length : Nat) : Int)) from rfl)
      have f1 := blk_free (j := 1) hI.out.blk
      have hgc : (ofL l)[l.length - (c :: q).length]'(by rw [hsz]; exact hk) = c := (ofL_get l _ _).trans hg
      have hst := hid (fun n => (hI.out.drewN n).step)
      have hM := hid (fun n => more_yes B w0 _ l c q inn d vi its e en la (hI.out.drewN n))
      have hD := hid (fun n => (hI.out.drewN n).drew)
      have hA := hid hI.out.atOf
      have hkq := suf_pos hI.out.suf
      generalize l.length - (c :: q).length = k at *
      clear hg
      by_cases hb : blank c = true
      · have hs : skipB (c :: q) = skipB q := by rw [skipB, if_pos hb]
        rw [hs] at hS
        clear hs
        rcases blank_is hb with rfl | rfl | rfl | rfl
        · go_wp2
          go_quiet (fail)
          go_wp2
          exact ⟨⟨q, hid (hst.out _), hS⟩, by rw [(hst.out _).atOf, hA.out]; omega⟩
        · go_wp2
          go_quiet (fail)
          go_wp2
          exact ⟨⟨q, hid (hst.out _), hS⟩, by rw [(hst.out _).atOf, hA.out]; omega⟩
        · go_wp2
          go_quiet (fail)
          go_wp2
          exact ⟨⟨q, hid (hst.out _), hS⟩, by rw [(hst.out _).atOf, hA.out]; omega⟩
        · go_wp2
          go_quiet (fail)
          go_wp2
          exact ⟨⟨q, hid (hst.out _), hS⟩, by rw [(hst.out _).atOf, hA.out]; omega⟩
      · have hb : blank c = false := Bool.eq_false_iff.2 hb
        have hs : skipB (c :: q) = c :: q := by rw [skipB, hb]; rfl
        rw [hs] at hS
        obtain ⟨n1, n2, n3, n4⟩ := blank_not hb
        have i1 : ((c.toNat : Int) == 32) = false := beq_eq_false_iff_ne.2 (by have := toNat_neP n1; simp at this; omega)
        have i2 : ((c.toNat : Int) == 9) = false := beq_eq_false_iff_ne.2 (by have := toNat_neP n2; simp at this; omega)
        have i3 : ((c.toNat : Int) == 10) = false := beq_eq_false_iff_ne.2 (by have := toNat_neP n3; simp at this; omega)
        have i4 : ((c.toNat : Int) == 13) = false := beq_eq_false_iff_ne.2 (by have := toNat_neP n4; simp at this; omega)
        clear hs n1 n2 n3 n4 hb
        go_wp2
        go_quiet (fail)
        go_wp2_with fail
        refine Calls.mono (hM.out _) ?_
        rintro x w2 ⟨rfl, rfl⟩
        go_wp2
        go_ret
        rw [← hS.out]
        exact ⟨rfl, by simpa using hD.out _⟩
end Go.Proofs.YtmkkibaacclhnaaGreat

namespace Go.Proofs.YtmkkibaacclhnaaGreat
open Go.RowKit

def hexD : List UInt8 := [48, 49, 50, 51, 52, 53, 54, 55, 56, 57, 97, 98, 99, 100, 101, 102, 65, 66, 67, 68, 69, 70]
theorem hexD_get : ∀ k : Nat, (h : k < 22) → hexV (hexD[k]'h) = some (if k < 16 then k else k - 6) := by decide
theorem hexD_a : ∀ j : Nat, (h : j < 10) → hexD[j]'(by show j < 22; omega) = UInt8.ofNat (48 + j) := by decide
theorem hexD_b : ∀ j : Nat, (h : j < 6) → hexD[10 + j]'(by show 10 + j < 22; omega) = UInt8.ofNat (97 + j) := by decide
theorem hexD_c : ∀ j : Nat, (h : j < 6) → hexD[16 + j]'(by show 16 + j < 22; omega) = UInt8.ofNat (65 + j) := by decide
theorem hexD_none (c : UInt8) (h : ∀ j : Nat, (hj : j < 22) → hexD[j]'hj ≠ c) : hexV c = none := by
  have hc : UInt8.ofNat c.toNat = c := by simp
  unfold hexV
  by_cases h1 : 48 ≤ c.toNat ∧ c.toNat ≤ 57
  · exfalso
    refine h (c.toNat - 48) (by omega) ((hexD_a (c.toNat - 48) (by omega)).trans ?_)
    rw [show 48 + (c.toNat - 48) = c.toNat by omega, hc]
  rw [if_neg h1]
  by_cases h2 : 97 ≤ c.toNat ∧ c.toNat ≤ 102
  · exfalso
    refine h (10 + (c.toNat - 97)) (by omega) ((hexD_b (c.toNat - 97) (by omega)).trans ?_)
    rw [show 97 + (c.toNat - 97) = c.toNat by omega, hc]
  rw [if_neg h2]
  by_cases h3 : 65 ≤ c.toNat ∧ c.toNat ≤ 70
  · exfalso
    refine h (16 + (c.toNat - 65)) (by omega) ((hexD_c (c.toNat - 65) (by omega)).trans ?_)
    rw [show 65 + (c.toNat - 65) = c.toNat by omega, hc]
  rw [if_neg h3]
def hexI : Option Nat → Int
  | some h => h
  | none => -1
set_option maxRecDepth 100000 in
set_option maxHeartbeats 4000000 in
theorem rhex_any (c : UInt8) (w : World) : Calls Tryz.prog 124 #[.int .u8 (c.toNat : Int)] w fun x w' => x = .returned (.int .i64 (hexI (hexV c))) ∧ w' = w := by
  have hsz : (ofL hexD).size = 22 := rfl
  go_enter Tryz.func124, Tryz.ntmps124
  go_wp2
  go_loopw [4] (fun i wr => ∃ k : Nat, k ≤ 22 ∧ i = .int .i64 k ∧ Hid (∀ j : Nat, j < k → (hj : j < 22) → hexD[j]'hj ≠ c) ∧ wr = w) (fun i _ => 22 - (intOf i).toNat)
  case atStart => exact ⟨0, by omega, rfl, hid (fun j hj => by omega), rfl⟩
  case round =>
    obtain ⟨k, hk, rfl, hN, rfl⟩ := hrel
    by_cases hlt : k < 22
    · have hg : (ByteArray.mk #[48, 49, 50, 51, 52, 53, 54, 55, 56, 57, 97, 98, 99, 100, 101, 102, 65, 66, 67, 68, 69, 70])[k]'hlt = hexD[k]'hlt := rfl
      have hV := hid (hexD_get k hlt)
      generalize hx : hexD[k]'hlt = y at *
      by_cases hy : y = c
      · subst hy
        by_cases h16 : k < 16
        · rw [if_pos h16] at hV
          go_wp2
          go_ret
          rw [hV.out]
          exact ⟨rfl, rfl⟩
        · rw [if_neg h16] at hV
          go_wp2
          go_ret
          rw [hV.out]
          refine ⟨?_, rfl⟩
          show Ending.returned (.int .i64 ((k : Int) - 6)) = .returned (.int .i64 ((k - 6 : Nat) : Int))
          congr 2
          omega
      · have hyc : ((y.toNat : Int) == (c.toNat : Int)) = false := beq_eq_false_iff_ne.2 (by have := toNat_neP hy; omega)
        have HX := hid hx
        have HY := hid hy
        clear hx hy
        go_wp2
        go_roundw
        case rel => exact ⟨k + 1, by omega, by go_num, hid (fun j hj hj2 => by
          by_cases e : j = k
          · subst e; rw [HX.out]; exact HY.out
          · exact hN.out j (by omega) hj2), trivial⟩
        case measure => simp [intOf]; omega
    · obtain rfl : k = 22 := by omega
      go_wp2
      go_ret
      rw [hexD_none c (fun j hj => hN.out j hj hj)]
      exact ⟨rfl, rfl⟩
theorem conv_new (w : World) (bs : List UInt8) (cs : Array Value) (n : Nat) (hn : bs.length = n) (hm : n ≤ 1000) (hcs : cs.toList = us bs) :
    (convert 66 9 (.slice (some ⟨w.heap.size, 0, none⟩) n n)).run Tryz.prog (w.alloc (.cells cs 5)) = .ok (.string (ofL bs)) (w.alloc (.cells cs 5)) := by
  subst hn
  refine row_string ?_
  rw [← hcs]
  exact World.ownsRow_lit w cs bs.length (Nat.zero_le _) (by unfold maxLen; omega) (by have := congrArg List.length hcs; simp [us] at this; omega)
set_option maxRecDepth 100000 in
set_option maxHeartbeats 4000000 in
theorem rutf8_any (n : Nat) (w : World) (hn : n < 1114112) : Calls Tryz.prog 116 #[.int .i64 (n : Int)] w fun x w' => x = .returned (.string (ofL (encR n))) ∧ Fr (fun _ => False) w w' := by
  have HF := hid (show ∀ ob, Fr (fun _ => False) w (w.alloc ob) from fun ob => (Fr.refl _ _).alloc ob)
  unfold encR
  by_cases h1 : n < 128
  · rw [if_pos h1]
    obtain ⟨bs, hbs⟩ : ∃ bs, [UInt8.ofNat n] = bs := ⟨_, rfl⟩
    have e1 : n < 256 := by omega
    have hcv := conv_new w bs #[.int .u8 ((n : Int))] 1 (by rw [← hbs]; rfl) (by omega) (by rw [← hbs]; simp [us, Nat.mod_eq_of_lt e1])
    rw [hbs]
    clear hbs e1
    have g1 : (0 : Int) ≤ (n : Int) := by omega
    have g2 : (n : Int) < 128 := by omega
    generalize (n : Int) = R at *
    clear h1 hn
    go_enter Tryz.func116, Tryz.ntmps116
    go_wp2
    go_ret
    exact ⟨rfl, HF.out _⟩
  rw [if_neg h1]
  by_cases h2 : n < 2048
  · rw [if_pos h2]
    obtain ⟨bs, hbs⟩ : ∃ bs, [UInt8.ofNat (192 + n / 64), UInt8.ofNat (128 + n % 64)] = bs := ⟨_, rfl⟩
    have e1 : 192 + n / 64 < 256 := by omega
    have e2 : 128 + n % 64 < 256 := by omega
    have hcv := conv_new w bs #[.int .u8 (192 + (n : Int) / 64), .int .u8 (128 + (n : Int) % 64)] 2 (by rw [← hbs]; rfl) (by omega) (by rw [← hbs]; simp [us, Nat.mod_eq_of_lt e1, Nat.mod_eq_of_lt e2])
    rw [hbs]
    clear hbs e1 e2
    have g1 : (128 : Int) ≤ (n : Int) := by omega
    have g2 : (n : Int) < 2048 := by omega
    generalize (n : Int) = R at *
    clear h1 h2 hn
    go_enter Tryz.func116, Tryz.ntmps116
    go_wp2
    go_ret
    exact ⟨rfl, HF.out _⟩
  rw [if_neg h2]
  by_cases h3 : n < 65536
  · rw [if_pos h3]
    obtain ⟨bs, hbs⟩ : ∃ bs, [UInt8.ofNat (224 + n / 4096), UInt8.ofNat (128 + n / 64 % 64), UInt8.ofNat (128 + n % 64)] = bs := ⟨_, rfl⟩
    have e1 : 224 + n / 4096 < 256 := by omega
    have e2 : 128 + n / 64 % 64 < 256 := by omega
    have e3 : 128 + n % 64 < 256 := by omega
    have hcv := conv_new w bs #[.int .u8 (224 + (n : Int) / 4096), .int .u8 (128 + (n : Int) / 64 % 64), .int .u8 (128 + (n : Int) % 64)] 3 (by rw [← hbs]; rfl) (by omega) (by rw [← hbs]; simp [us, Nat.mod_eq_of_lt e1, Nat.mod_eq_of_lt e2, Nat.mod_eq_of_lt e3])
    rw [hbs]
    clear hbs e1 e2 e3
    have g1 : (2048 : Int) ≤ (n : Int) := by omega
    have g2 : (n : Int) < 65536 := by omega
    generalize (n : Int) = R at *
    clear h1 h2 h3 hn
    go_enter Tryz.func116, Tryz.ntmps116
    go_wp2
    go_ret
    exact ⟨rfl, HF.out _⟩
  · rw [if_neg h3]
    obtain ⟨bs, hbs⟩ : ∃ bs, [UInt8.ofNat (240 + n / 262144), UInt8.ofNat (128 + n / 4096 % 64), UInt8.ofNat (128 + n / 64 % 64), UInt8.ofNat (128 + n % 64)] = bs := ⟨_, rfl⟩
    have e1 : 240 + n / 262144 < 256 := by omega
    have e2 : 128 + n / 4096 % 64 < 256 := by omega
    have e3 : 128 + n / 64 % 64 < 256 := by omega
    have e4 : 128 + n % 64 < 256 := by omega
    have hcv := conv_new w bs #[.int .u8 (240 + (n : Int) / 262144), .int .u8 (128 + (n : Int) / 4096 % 64), .int .u8 (128 + (n : Int) / 64 % 64), .int .u8 (128 + (n : Int) % 64)] 4 (by rw [← hbs]; rfl) (by omega) (by rw [← hbs]; simp [us, Nat.mod_eq_of_lt e1, Nat.mod_eq_of_lt e2, Nat.mod_eq_of_lt e3, Nat.mod_eq_of_lt e4])
    rw [hbs]
    clear hbs e1 e2 e3 e4
    have g1 : (65536 : Int) ≤ (n : Int) := by omega
    have g2 : (n : Int) < 1114112 := by omega
    generalize (n : Int) = R at *
    clear h1 h2 h3 hn
    go_enter Tryz.func116, Tryz.ntmps116
    go_wp2
    go_ret
    exact ⟨rfl, HF.out _⟩
end Go.Proofs.YtmkkibaacclhnaaGreat
