/-
  A step of the walk, the part named Xcd. No theorem of the row.
-/
import Derived.Test.YtmkkibaacclhnaaGreatSg
import Derived.Test.YtmkkibaacclhnaaGreatRc
import Derived.Test.YtmkkibaacclhnaaGreatKep
import Derived.Laws.IdiomStrings
namespace Go.Proofs.YtmkkibaacclhnaaGreat
open Go.RowKit

/-- an item more -/
theorem SC.growI {B : Nat} {w0 W w1 : World} {l p : List UInt8} {inn d : Nat} {vi vi' : Value} {its : List It} {e : Nat} {en la : Bool} {ob : Obj} (x : It) (h : SC B w0 W l p inn d vi its e en la) (hown : w1.ownsRow 0 59 4 vi' (its.length + 1) (itsV its ++ itCells x)) (hg : (W.alloc ob).grownBy w1 vi.ownBlock)
    (hn : ∀ g, vi'.ownBlock = some g → vi.ownBlock = some g ∨ W.heap.size + 1 ≤ g) :
    w1.heap[B]? = some (.cells (scCells l (l.length - p.length) inn d vi e en la) 110 (0, 0)) ∧ SC B w0 (w1.setCell ⟨B, 4, none⟩ vi') l p inn d vi' (its ++ [x]) e en la := by
  obtain ⟨a, b, c, f, g, k⟩ := h
  have hBl := lt_of_block a
  have hro := rowT b a (show 110 ≠ 59 by decide)
  have hh : w1.heap[B]? = some (.cells (scCells l (l.length - p.length) inn d vi e en la) 110 (0, 0)) := by
    rw [hg.block B (by simp; omega) (fun e => hro e.symm), Below.heap_alloc _ _ _ hBl]; exact a
  have hgs := f.size
  refine ⟨hh, heap_setCell_same w1 B 4 _ 110 vi' hh, ?_, c, ((f.alloc ob).grown hg (fun i hi => .inr (k i hi))).setCell (p := ⟨B, 4, none⟩) (.inr g) _, g, ?_⟩
  · have := rowSetOther hown (a := ⟨B, 4, none⟩) (rowT hown hh (by decide)) vi'
    rw [itsV_append, List.length_append]
    exact this
  · intro i hi
    rcases hn i hi with h1 | h1
    · exact k i h1
    · omega
def wordR (k : Nat) : RO Unit → RV
  | .ok _ q => .ok 0 [⟨k, 0, 0, []⟩] q
  | .wrong n q => .wrong n q
  | .ended => .ended false
theorem wordV_R (k : Nat) (w r : List UInt8) : wordV k w r = wordR k (wordGo w r) := by
  unfold wordV
  cases wordGo w r <;> rfl
/-- what a rule leaves that makes items -/
def IPost (B : Nat) (w0 : World) (l : List UInt8) (inn d : Nat) (its : List It) (U : RV) (x : Ending) (w' : World) : Prop :=
  match U with
  | .ok _ new q => x = .returned (.bool true) ∧ ∃ vi, SC B w0 w' l q inn d vi (its ++ new) 0 false false
  | .wrong n q => x = .returned (.bool false) ∧ ∃ vi more, SC B w0 w' l q inn d vi (its ++ more) n false false
  | .ended late => x = .returned (.bool false) ∧ ∃ vi more, SC B w0 w' l [] inn d vi (its ++ more) 0 true late
set_option maxRecDepth 100000 in
set_option maxHeartbeats 40000000 in
theorem word_any (B : Nat) (w0 w : World) (l p wd : List UInt8) (kd inn d : Nat) (vi : Value) (its : List It) (hl : l.length ≤ 100000000) (hwl : wd.length ≤ 10) (hil : its.length ≤ 100000000) (h : SC B w0 w l p inn d vi its 0 false false) :
    Calls Tryz.prog 74 #[.pointer (some ⟨B, 0, none⟩), .string (ofL wd), .int .i64 (kd : Int)] w (IPost B w0 l inn d its (wordV kd wd p)) := by
  have H := hid h
  obtain ⟨i0, hi, hz0, hz1, hz2⟩ := info_parts Tryz.info59
  have oi := h.oi
  obtain ⟨a, n, cap, rfl⟩ := row_shape3 oi
  obtain rfl := slice_len oi
  have k4 := blk_cell h.blk (show (scCells l (l.length - p.length) inn d (.slice a its.length cap) 0 false false)[4]? = some (.slice a its.length cap) from rfl)
  have f4 := blk_free (j := 4) h.blk
  have hsz := ofL_size l
  have hsw := ofL_size wd
  clear h
  obtain ⟨U, hU⟩ : ∃ U, wordGo wd p = U := ⟨_, rfl⟩
  have HW := hid (show wordV kd wd p = wordR kd U by rw [← hU]; exact wordV_R kd wd p)
  have HU := hid hU
  obtain ⟨V, hV⟩ : ∃ V, wordV kd wd p = V := ⟨_, rfl⟩
  rw [hV]
  rw [hV] at HW
  clear hU hV
  go_enter Tryz.func74, Tryz.ntmps74
  go_wp2_with (first
    | (at_builtin; refine wpList_append_d _ rfl _ _ 52 rfl 59 i0 (.agg #[.int .i64 0, .int .i64 0, .int .u64 0, .string ⟨#[]⟩]) 4 40 Tryz.underlying52 hi hz0 hz1 hz2 rfl (by decide) _ _ _ rfl (oi.alloc _) ⟨w.heap.size, 0, none⟩ 1 1 (itCells ⟨kd, 0, 0, []⟩) rfl rfl ?c1 ?c2 ?c3 ?c4 ?_)
    | fail)
  case c1 => exact four_new _ _ _ _ _ _
  case c2 => intro u hu; simp [itCells] at hu; rcases hu with rfl | rfl | rfl | rfl <;> rfl
  case c3 => unfold maxLen; omega
  case c4 => omega
  intro v' w1 hown' hgrow hnew
  obtain ⟨a', n', cap', rfl⟩ := row_shape3 hown'
  obtain ⟨hh1, hR⟩ := H.out.growI ⟨kd, 0, 0, []⟩ hown' hgrow hnew
  have q4 := blk_cell hh1 (show (scCells l (l.length - p.length) inn d (.slice a its.length cap) 0 false false)[4]? = some (.slice a its.length cap) from rfl)
  have p4 := blk_free (j := 4) hh1
  have HR := hid hR
  clear hown' hgrow hnew hh1 hR oi k4 f4
  go_wp2
  go_loopw [7] (fun i wr => ∃ (k : Nat) (p' : List UInt8), k ≤ wd.length ∧ i = .int .i64 k ∧ Hid (SC B w0 wr l p' inn d (.slice a' n' cap') (its ++ [⟨kd, 0, 0, []⟩]) 0 false false) ∧ Hid (wordGo (wd.drop k) p' = U)) (fun i _ => wd.length - (intOf i).toNat)
  case atStart => exact ⟨0, p, by omega, rfl, HR, HU⟩
  case round =>
    clear q4 p4
    obtain ⟨k, p', hk, rfl, hI, hG⟩ := hrel
    by_cases hlt : k < wd.length
    · have hdr : wd.drop k = wd[k] :: wd.drop (k + 1) := List.drop_eq_getElem_cons hlt
      have hgw : (ofL wd)[k]'(by rw [hsw]; exact hlt) = wd[k] := ofL_get wd k _
      rw [hdr] at hG
      generalize wd[k] = y at *
      clear hdr
      cases p' with
      | nil =>
        rw [wordGo] at hG
        have HM := hid (more_no B w0 _ l inn d _ _ 0 false false hI.out)
        go_wp2_with fail
        refine Calls.mono HM.out ?_
        rintro x w2 ⟨rfl, hC⟩
        have HC := hid hC
        clear hC
        go_wp2
        go_ret
        rw [HW.out, ← hG.out]
        exact ⟨rfl, _, _, HC.out⟩
      | cons c q =>
        rw [wordGo] at hG
        have HM := hid (more_yes B w0 _ l c q inn d _ _ 0 false false hI.out)
        go_wp2_with fail
        refine Calls.mono HM.out ?_
        rintro x2 w2 ⟨rfl, hw2⟩
        have hI2 : SC B w0 w2 l (c :: q) inn d (.slice a' n' cap') (its ++ [⟨kd, 0, 0, []⟩]) 0 false false := hw2 ▸ hI.out.drew
        clear hw2
        obtain ⟨hkk, hg⟩ := suf_get hI2.suf
        have k0 := blk_cell hI2.blk (show (scCells l (l.length - (c :: q).length) inn d (.slice a' n' cap') 0 false false)[0]? = some (.string (ofL l)) from rfl)
        have k1 := blk_cell hI2.blk (show (scCells l (l.length - (c :: q).length) inn d (.slice a' n' cap') 0 false false)[1]? = some (.int .i64 ((l.length - (c :: q).length : Nat) : Int)) from rfl)
        have f1 := blk_free (j := 1) hI2.blk
        have hgc : (ofL l)[l.length - (c :: q).length]'(by rw [hsz]; exact hkk) = c := (ofL_get l _ _).trans hg
        have hst := hid (fun n => (hI2.drewN n).step)
        have hFl := hid (fun n => fails_any B w0 (w2.drewN n) l (c :: q) inn d _ _ 0 3 false false (hI2.drewN n))
        generalize l.length - (c :: q).length = ps at *
        clear hg hI2
        by_cases hc : c = y
        · subst hc
          rw [if_neg (by simp)] at hG
          have hb : ((c.toNat : Int) != (c.toNat : Int)) = false := by simp
          go_wp2
          go_quiet (fail)
          go_wp2
          go_roundw
          case rel => exact ⟨k + 1, q, by omega, by go_num, hid (hst.out _), hG⟩
          case measure => simp [intOf]; omega
        · rw [if_pos hc] at hG
          have hb : ((c.toNat : Int) != (y.toNat : Int)) = true := bne_iff_ne.2 (by have := toNat_neP hc; omega)
          clear hc
          go_wp2
          go_quiet (fail)
          go_wp2_with fail
          refine Calls.mono (hFl.out _) ?_
          rintro x w3 ⟨rfl, hC⟩
          have HC := hid hC
          clear hC
          go_wp2
          go_ret
          rw [HW.out, ← hG.out]
          exact ⟨rfl, _, _, HC.out⟩
    · obtain rfl : k = wd.length := by omega
      rw [List.drop_length, wordGo] at hG
      go_wp2
      go_ret
      rw [HW.out, ← hG.out]
      exact ⟨rfl, _, hI.out⟩
/-- behind a value or a pair: what the byte says -/
def behOut (e : UInt8) (p : List UInt8) : RO Bool := match skipB p with
  | [] => .ended
  | c :: q => if c = e then .ok true q else if c = 44 then .ok false q else .wrong 3 (c :: q)
def bGood (b : Bool) : Value := .tuple #[.bool b, .bool true]
def bBad : Value := .tuple #[.bool false, .bool false]
set_option maxRecDepth 100000 in
set_option maxHeartbeats 40000000 in
theorem rbehind_any (B : Nat) (w0 w : World) (l p : List UInt8) (en : UInt8) (inn d : Nat) (vi : Value) (its : List It) (hl : l.length ≤ 100000000) (h : SC B w0 w l p inn d vi its 0 false false) :
    Calls Tryz.prog 98 #[.pointer (some ⟨B, 0, none⟩), .int .u8 (en.toNat : Int)] w (TPost B w0 l inn d vi its bGood bBad (behOut en p)) := by
  have HB := hid (blanks_any B w0 w l p inn d vi its 0 false false hl h)
  have hsz := ofL_size l
  clear h
  unfold behOut
  cases hx : skipB p with
  | nil =>
    rw [hx] at HB
    clear hx
    go_enter Tryz.func98, Tryz.ntmps98
    go_wp2_with fail
    refine Calls.mono HB.out ?_
    rintro x w2 ⟨rfl, hC⟩
    have HC := hid hC
    clear hC
    go_wp2
    go_ret2
    exact ⟨rfl, HC.out⟩
  | cons c q =>
    rw [hx] at HB
    clear hx
    obtain ⟨U, hU⟩ : ∃ U, (if c = en then RO.ok true q else if c = 44 then .ok false q else .wrong 3 (c :: q)) = U := ⟨_, rfl⟩
    show Calls _ _ _ _ (TPost B w0 l inn d vi its bGood bBad (if c = en then RO.ok true q else if c = 44 then .ok false q else .wrong 3 (c :: q)))
    rw [hU]
    have HU := hid hU
    clear hU
    go_enter Tryz.func98, Tryz.ntmps98
    go_wp2_with fail
    refine Calls.mono HB.out ?_
    rintro x w2 ⟨rfl, hC⟩
    have hI2 : SC B w0 w2 l (c :: q) inn d vi its 0 false false := hC
    clear hC
    obtain ⟨hkk, hg⟩ := suf_get hI2.suf
    have k0 := blk_cell hI2.blk (show (scCells l (l.length - (c :: q).length) inn d vi 0 false false)[0]? = some (.string (ofL l)) from rfl)
    have k1 := blk_cell hI2.blk (show (scCells l (l.length - (c :: q).length) inn d vi 0 false false)[1]? = some (.int .i64 ((l.length - (c :: q).length : Nat) : Int)) from rfl)
    have f1 := blk_free (j := 1) hI2.blk
    have hgc : (ofL l)[l.length - (c :: q).length]'(by rw [hsz]; exact hkk) = c := (ofL_get l _ _).trans hg
    have hst := hid (fun n => (hI2.drewN n).step)
    have hFl := hid (fun n => fails_any B w0 (w2.drewN n) l (c :: q) inn d vi its 0 3 false false (hI2.drewN n))
    generalize l.length - (c :: q).length = ps at *
    clear hg hI2 HB
    by_cases hc : c = en
    · subst hc
      have HE := hid (show U = .ok true q by rw [← HU.out, if_pos rfl])
      have hb : ((c.toNat : Int) != (c.toNat : Int)) = false := by simp
      have hb2 : ((c.toNat : Int) == (c.toNat : Int)) = true := by simp
      go_wp2
      go_quiet (fail)
      go_wp2
      go_ret2
      rw [HE.out]
      exact ⟨rfl, hst.out _⟩
    · have hb : ((c.toNat : Int) != (en.toNat : Int)) = true := bne_iff_ne.2 (by have := toNat_neP hc; omega)
      have hb2 : ((c.toNat : Int) == (en.toNat : Int)) = false := beq_eq_false_iff_ne.2 (by have := toNat_neP hc; omega)
      by_cases h44 : c = 44
      · have HE := hid (show U = .ok false q by rw [← HU.out, if_neg hc, if_pos h44])
        have hb3 : ((c.toNat : Int) != 44) = false := by rw [h44]; rfl
        clear h44 hc
        go_wp2
        go_quiet (fail)
        go_wp2
        go_ret2
        rw [HE.out]
        exact ⟨rfl, hst.out _⟩
      · have HE := hid (show U = .wrong 3 (c :: q) by rw [← HU.out, if_neg hc, if_neg h44])
        have hb3 : ((c.toNat : Int) != 44) = true := bne_iff_ne.2 (by have := toNat_neP h44; simp at this; omega)
        clear h44 hc
        go_wp2
        go_quiet (fail)
        go_wp2_with fail
        refine Calls.mono (hFl.out _) ?_
        rintro x w3 ⟨rfl, hC⟩
        have HC := hid hC
        clear hC
        go_wp2
        go_ret2
        rw [HE.out]
        exact ⟨rfl, HC.out⟩
end Go.Proofs.YtmkkibaacclhnaaGreat

namespace Go.Proofs.YtmkkibaacclhnaaGreat
open Go.RowKit

theorem calls_ex {P : Program} {f : FuncId} {args : Array Value} {w : World} {R : Ending → World → Prop} (h : Calls P f args w R) : ∃ e w', R e w' := by
  obtain ⟨e, w', _, hR, _⟩ := h []
  exact ⟨e, w', hR⟩
theorem near_ex {l : List UInt8} {t : Tk} (w : World) (hl : l.length ≤ 1000000000000000) (hr : run t0 l = some t) (hE : Ends t.st) : ∃ r, NearV t.D t.at r := by
  obtain ⟨e, w', ⟨hp, _⟩⟩ := calls_ex (parse_run l w hl)
  obtain ⟨r, h, _⟩ := hp.1 t hr hE
  exact ⟨r, h⟩
theorem cut_none {l : List UInt8} (h : cutL l = none) {t : Tk} (hr : run t0 l = some t) : ¬ Ends t.st := fun hE => by
  obtain ⟨neg, wh, fr, en, ex, hP⟩ := run_Pc hr hE
  rw [hP.cut] at h
  cases h
theorem near_link {l : List UInt8} {neg : Bool} {wh fr : List UInt8} {en : Bool} {ex : List UInt8} (w : World) (hl : l.length ≤ 1000000000000000) (hc : cutL l = some (neg, wh, fr, en, ex)) :
    ∃ t r, run t0 l = some t ∧ Ends t.st ∧ t.neg = neg ∧ NearV t.D t.at r ∧ IsNear (num (dv (wh ++ fr))) (powX fr en ex) r := by
  have h := cut_Pc hc
  obtain ⟨k, hk, hrun⟩ := h.run
  obtain ⟨r, hr⟩ := near_ex w hl hrun hk
  refine ⟨_, r, hrun, hk, rfl, hr, ?_⟩
  have hN : NearV (addDs ([], (wh.length : Int) + powX [] en ex) (dv wh ++ dv fr)).1 (addDs ([], (wh.length : Int) + powX [] en ex) (dv wh ++ dv fr)).2 r := by
    have es := addDs_shift ([], (wh.length : Int)) (powX [] en ex) (dv wh ++ dv fr)
    simp only at es
    rw [es]
    simp only at hr ⊢
    unfold Tk.at at hr
    simp only at hr
    refine hr.far ?_
    unfold powX
    generalize (addDs ([], (wh.length : Int)) (dv wh ++ dv fr)).2 = P
    generalize num (dv ex) = q
    cases en
    · simp only [Bool.false_eq_true, if_false, List.length_nil]; omega
    · simp only [if_true, List.length_nil]; omega
  have hD : Digs (dv wh ++ dv fr) := by rw [← dv_append]; exact (h.w.1.append h.f).digs
  have := near_all hD hN
  rw [← dv_append, dv_length, List.length_append] at this
  rw [show (wh.length : Int) + powX [] en ex - ((wh.length + fr.length : Nat) : Int) = powX fr en ex by unfold powX; simp only [List.length_nil]; omega] at this
  exact this
/-- what a token says, by what is nearest -/
theorem tokV_near {t : Tk} {r k : Nat} (hE : Ends t.st) (hok : TkOk t k) (h : NearV t.D t.at r) : tokV t = parseV t.neg r := by
  unfold tokV
  rw [if_pos hE, nearF_eq hok.digs hok.head h]
theorem tokV_no {t : Tk} (hE : ¬ Ends t.st) : tokV t = (0, 3) := by
  unfold tokV
  rw [if_neg hE]
theorem run_okk {l : List UInt8} {t : Tk} (h : run t0 l = some t) : TkOk t l.length ∧ PwZero t := by
  have key : ∀ (l : List UInt8) (t t' : Tk) (k : Nat), TkOk t k → PwZero t → run t l = some t' → TkOk t' (k + l.length) ∧ PwZero t' := by
    intro l
    induction l with
    | nil =>
      intro t t' k h1 h2 h3
      simp only [run, Option.some.injEq] at h3
      subst h3
      exact ⟨h1, h2⟩
    | cons c l ih =>
      intro t t' k h1 h2 h3
      rw [run] at h3
      cases hn : nxt t c with
      | none => rw [hn] at h3; cases h3
      | some t1 =>
        rw [hn] at h3
        obtain ⟨a, b⟩ := nxt_ok h1 h2 hn
        have := ih t1 t' (k + 1) a b h3
        rw [List.length_cons, show k + (l.length + 1) = k + 1 + l.length by omega]
        exact this
  have := key l t0 t 0 t0_ok t0_pw h
  rw [Nat.zero_add] at this
  exact this
/-- out of range, told at once -/
theorem oor_near {D : List Nat} {P : Int} {r : Nat} (h : NearV D P r) : oor D P = decide (9218868437227405312 ≤ r) := by
  cases ho : oor D P with
  | true => rw [h.1 ho]; rfl
  | false =>
    have := (h.2 ho).2
    rw [decide_eq_false (by omega)]
theorem parseV_err (neg : Bool) (r : Nat) : ((parseV neg r).2 = 6 ↔ 9218868437227405312 ≤ r) ∧ ((parseV neg r).2 = 0 ↔ ¬ 9218868437227405312 ≤ r) := by
  unfold parseV
  by_cases h : 9218868437227405312 ≤ r
  · rw [if_pos h]; simp [h]
  · rw [if_neg h]; simp [h]
/-- may a token begin so? -/
theorem could_ends {s : List UInt8} {t : Tk} (h : run t0 s = some t) : Ends t.st ∨ ∃ t', run t0 (s ++ [48]) = some t' ∧ Ends t'.st := by
  have hst := (run_okk h).1.st
  by_cases hE : Ends t.st
  · exact .inl hE
  · right
    have hs : t.st = 0 ∨ t.st = 1 ∨ t.st = 4 ∨ t.st = 6 ∨ t.st = 7 := by
      unfold Ends at hE
      omega
    have hb : beh t.st 48 = 2 ∨ beh t.st 48 = 5 ∨ beh t.st 48 = 8 := by
      rcases hs with h | h | h | h | h <;> rw [h] <;> decide
    refine ⟨nxtTo t 48 (beh t.st 48), ?_, ?_⟩
    · rw [run_snoc 48 h]
      unfold nxt
      rw [if_neg (by omega)]
    · rw [nxtTo_st]
      unfold Ends
      omega
theorem could_none {s : List UInt8} (h : run t0 s = none) (b : List UInt8) : run t0 (s ++ b) = none := by
  rw [run_append, h]
  rfl
theorem cut_run {l : List UInt8} (w : World) (hl : l.length ≤ 1000000000000000) (h : cutL l ≠ none) : ∃ t, run t0 l = some t ∧ Ends t.st := by
  cases hc : cutL l with
  | none => exact absurd hc h
  | some x =>
    obtain ⟨neg, wh, fr, en, ex⟩ := x
    obtain ⟨t, r, h1, h2, _⟩ := near_link w hl hc
    exact ⟨t, h1, h2⟩
/-- is a text a token that is out of range? -/
noncomputable def greatV (s : List UInt8) : Bool := match run t0 s with
  | none => false
  | some t => decide ((tokV t).2 = 6)
theorem great_lost {s : List UInt8} {t : Tk} (w : World) (hl : s.length ≤ 1000000000000000) (h : run t0 s = some t) (hE : Ends t.st) : greatV s = oor t.D t.at := by
  obtain ⟨r, hr⟩ := near_ex w hl h hE
  have hv := tokV_near hE (run_okk h).1 hr
  unfold greatV
  rw [h, oor_near hr]
  simp only
  rw [hv]
  by_cases h6 : 9218868437227405312 ≤ r
  · rw [decide_eq_true h6, decide_eq_true ((parseV_err _ _).1.2 h6)]
  · rw [decide_eq_false h6, decide_eq_false (fun e => h6 ((parseV_err _ _).1.1 e))]
theorem great_not {s : List UInt8} (h : ∀ t, run t0 s = some t → ¬ Ends t.st) : greatV s = false := by
  unfold greatV
  cases hr : run t0 s with
  | none => rfl
  | some t =>
    simp only
    rw [tokV_no (h t hr)]
    decide
/-- is one of the digits ahead of an exponent not 0? -/
def someV : List UInt8 → Bool
  | [] => false
  | c :: r => if c = 101 ∨ c = 69 then false else if 49 ≤ c.toNat ∧ c.toNat ≤ 57 then true else someV r
theorem beh_hi {st : Nat} {c : UInt8} (h : 6 ≤ st) (hb : beh st c ≠ 0) : beh st c = 7 ∨ beh st c = 8 := by
  unfold beh at hb ⊢
  repeat' split
  all_goals simp_all
  all_goals omega
theorem nxtTo_hiD (t : Tk) (c : UInt8) (k : Nat) (h : k = 7 ∨ k = 8) : (nxtTo t c k).D = t.D := by
  unfold nxtTo
  rcases h with rfl | rfl <;> simp
theorem run_hiD {s : List UInt8} {t t' : Tk} (h : 6 ≤ t.st) (hr : run t s = some t') : t'.D = t.D := by
  induction s generalizing t with
  | nil =>
    simp only [run, Option.some.injEq] at hr
    rw [hr]
  | cons c s ih =>
    rw [run] at hr
    unfold nxt at hr
    by_cases hb : beh t.st c = 0
    · rw [if_pos hb] at hr
      cases hr
    · rw [if_neg hb] at hr
      have hk := beh_hi h hb
      rw [ih (by rw [nxtTo_st]; omega) hr, nxtTo_hiD _ _ _ hk]
theorem some_D {s : List UInt8} {t t' : Tk} (h0 : t.D = []) (hst : t.st ≤ 5) (hr : run t s = some t') (hD : t'.D ≠ []) : someV s = true := by
  induction s generalizing t with
  | nil =>
    simp only [run, Option.some.injEq] at hr
    rw [← hr] at hD
    exact absurd h0 hD
  | cons c s ih =>
    rw [run] at hr
    unfold nxt at hr
    by_cases hb : beh t.st c = 0
    · rw [if_pos hb] at hr
      cases hr
    rw [if_neg hb] at hr
    rw [someV]
    by_cases he : c = 101 ∨ c = 69
    · exfalso
      have hk : beh t.st c = 6 := by
        unfold beh at hb ⊢
        rcases he with rfl | rfl
        · repeat' split
          all_goals simp_all [isD]
        · repeat' split
          all_goals simp_all [isD]
      have h6 := run_hiD (by rw [nxtTo_st]; omega) hr
      rw [hk] at h6
      apply hD
      rw [h6]
      unfold nxtTo
      simp [h0]
    rw [if_neg he]
    by_cases hd : 49 ≤ c.toNat ∧ c.toNat ≤ 57
    · rw [if_pos hd]
    rw [if_neg hd]
    have hk5 : beh t.st c ≤ 5 := by
      unfold beh
      have e1 : ¬ (c = 101 ∨ c = 69) := he
      repeat' split
      all_goals first
        | omega
        | (exfalso; rename_i h; exact e1 h.2)
        | (exfalso; omega)
    refine ih ?_ (by rw [nxtTo_st]; exact hk5) hr
    -- no digit but 0
    have hz : ∀ P : Int, (beh t.st c = 2 ∨ beh t.st c = 3 ∨ beh t.st c = 5) → (addD ([], P) (c.toNat - 48)).1 = [] := by
      intro P hk
      have hDg := beh_digit (s := t.st) (c := c) (by omega)
      have := (isD_iff c).1 hDg
      have hc : c.toNat - 48 = 0 := by omega
      rw [hc]
      simp [addD]
    generalize hkk : beh t.st c = k at *
    unfold nxtTo
    rw [h0]
    by_cases k1 : k = 1
    · rw [if_pos k1]
    rw [if_neg k1]
    by_cases k23 : k = 2 ∨ k = 3
    · rw [if_pos k23]
      exact hz _ (by omega)
    rw [if_neg k23]
    by_cases k5 : k = 5
    · rw [if_pos k5]
      exact hz _ (by omega)
    rw [if_neg k5, if_neg (by omega), if_neg (by omega)]
end Go.Proofs.YtmkkibaacclhnaaGreat

namespace Go.Proofs.YtmkkibaacclhnaaGreat
open Go.RowKit

/-- without the noughts at the end -/
def strip (l : List UInt8) : List UInt8 := (l.reverse.dropWhile (fun c => decide (c = 48))).reverse
theorem strip_zero (m : List UInt8) : strip (m ++ [48]) = strip m := by simp [strip]
theorem strip_no (m : List UInt8) (c : UInt8) (h : c ≠ 48) : strip (m ++ [c]) = m ++ [c] := by simp [strip, h]
end Go.Proofs.YtmkkibaacclhnaaGreat

namespace Go.Proofs.YtmkkibaacclhnaaGreat
open Go.RowKit

set_option maxRecDepth 100000 in
set_option maxHeartbeats 2000000 in
theorem isDigit_any (c : UInt8) (w : World) : Calls Tryz.prog 129 #[.int .u8 (c.toNat : Int)] w fun e w' => e = .returned (.bool (isD c)) ∧ w' = w := by
  cases hd : isD c
  · have hr := mt (isD_iff c).2 (by rw [hd]; simp)
    by_cases ha : 48 ≤ c.toNat
    · have hb : 57 < c.toNat := by omega
      clear hr hd
      generalize c.toNat = x at *
      go_enter Tryz.func129, Tryz.ntmps129
      go_wp2
      go_ret
      exact ⟨by simp; omega, rfl⟩
    · clear hr hd
      generalize c.toNat = x at *
      go_enter Tryz.func129, Tryz.ntmps129
      go_wp2
      go_ret
      exact ⟨rfl, rfl⟩
  · obtain ⟨ha, hb⟩ := (isD_iff c).1 hd
    clear hd
    generalize c.toNat = x at *
    go_enter Tryz.func129, Tryz.ntmps129
    go_wp2
    go_ret
    exact ⟨by simp; omega, rfl⟩
/-- where the digits end that stand at a place -/
def dend (l : List UInt8) (k : Nat) : Nat := k + ((l.drop k).takeWhile isD).length
theorem dend_no (l : List UInt8) (k : Nat) (h : l.length ≤ k ∨ ∃ h : k < l.length, isD l[k] = false) : dend l k = k := by
  unfold dend
  rcases h with h | ⟨h, h2⟩
  · rw [List.drop_of_length_le h]; rfl
  · rw [List.drop_eq_getElem_cons h, List.takeWhile_cons, h2]; rfl
theorem dend_yes (l : List UInt8) (k : Nat) (h : k < l.length) (h2 : isD l[k] = true) : dend l k = dend l (k + 1) := by
  unfold dend
  rw [List.drop_eq_getElem_cons h, List.takeWhile_cons, h2, if_pos rfl, List.length_cons]
  omega
set_option maxRecDepth 100000 in
set_option maxHeartbeats 2000000 in
theorem rdigits_any (l : List UInt8) (k : Nat) (w : World) (hl : l.length ≤ 100000000) (hk : k ≤ l.length) :
    Calls Tryz.prog 119 #[.string (ofL l), .int .i64 (k : Int)] w fun e w' => e = .returned (.int .i64 (dend l k : Nat)) ∧ w' = w := by
  have hsz := ofL_size l
  go_enter Tryz.func119, Tryz.ntmps119
  go_wp2
  go_loop [1] (fun i => ∃ j : Nat, j ≤ l.length ∧ i = .int .i64 j ∧ Hid (dend l k = dend l j)) (fun i => l.length - (intOf i).toNat)
  case atStart => exact ⟨k, hk, rfl, hid rfl⟩
  case round =>
    obtain ⟨j, hj, rfl, hE⟩ := hrel
    by_cases hlt : j < l.length
    · have hg : (ofL l)[j]'(by rw [hsz]; exact hlt) = l[j] := ofL_get l j _
      cases hd : isD l[j]
      · have HE := hid (hE.out.trans (dend_no l j (.inr ⟨hlt, hd⟩)))
        clear hE
        generalize l[j] = c at *
        have hd' : isD c = false := hd
        go_wp2_with (go_at_call 129; refine (isDigit_any c _).mono ?_; rintro e w' ⟨rfl, rfl⟩; rw [hd'])
        go_ret
        exact ⟨by rw [HE.out]; rfl, rfl⟩
      · have HE := hid (hE.out.trans (dend_yes l j hlt hd))
        clear hE
        generalize l[j] = c at *
        have hd' : isD c = true := hd
        go_wp2_with (go_at_call 129; refine (isDigit_any c _).mono ?_; rintro e w' ⟨rfl, rfl⟩; rw [hd'])
        go_round
        case rel => exact ⟨j + 1, by omega, by go_num, HE⟩
        case measure => simp [intOf]; omega
    · have HE := hid (hE.out.trans (dend_no l j (.inl (by omega))))
      clear hE
      go_wp2
      go_ret
      exact ⟨by rw [HE.out]; rfl, rfl⟩
end Go.Proofs.YtmkkibaacclhnaaGreat

namespace Go.Proofs.YtmkkibaacclhnaaGreat
open Go.RowKit

/-- bytes in memory that may be written -/
def BytesAt (w : World) (g : Nat) (l : List UInt8) : Prop := ∀ j, (h : j < l.length) → w.cell? ⟨g, j, none⟩ = some (.int .u8 ((l[j].toNat : Nat) : Int)) ∧ w.frozen? ⟨g, j, none⟩ = false
theorem BytesAt.set {w : World} {g : Nat} {l l' : List UInt8} (h : BytesAt w g l) (i : Nat) (c : UInt8) (hl : l' = l.set i c) : BytesAt (w.setCell ⟨g, i, none⟩ (.int .u8 ((c.toNat : Nat) : Int))) g l' := by
  subst hl
  intro j hj
  have hj' : j < l.length := by simpa using hj
  obtain ⟨h1, h2⟩ := h j hj'
  refine ⟨?_, by rw [World.frozen?_setCell]; exact h2⟩
  by_cases e : i = j
  · subst e
    rw [World.cell?_setCell_same (h := h1)]
    simp
  · rw [World.cell?_setCell_other (h := fun hh => e (congrArg Addr.off hh)), h1]
    simp [e]
end Go.Proofs.YtmkkibaacclhnaaGreat
