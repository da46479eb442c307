/-
  A step of the walk, the part named Vm. No theorem of the row.
-/
import Derived.Test.YtmkkibaacclhnaaGreatDoorVi
namespace Go.Proofs.YtmkkibaacclhnaaGreatDoor
open Go.RowKit

theorem OL.three {w : World} {o g ig cap : Nat} {its : List Im} {beh : List Nat} {nx : Nat} (h : OL w o g ig cap its beh nx) :
    w.cell? ⟨o, 0, none⟩ = some (.slice (some ⟨ig, 0, none⟩) its.length cap) ∧ w.cell? ⟨o, 1, none⟩ = some (.slice (some ⟨g, 0, none⟩) its.length its.length) ∧ w.cell? ⟨o, 2, none⟩ = some (.int .i64 (nx : Int)) ∧ (∀ j, w.frozen? ⟨o, j, none⟩ = false) :=
  ⟨blk_cell h.blk rfl, blk_cell h.blk rfl, blk_cell h.blk rfl, fun _ => blk_free h.blk⟩
theorem OPost.refl {w : World} {o g ig cap : Nat} {its : List Im} {beh : List Nat} {nx : Nat} (h : OL w o g ig cap its beh nx) : OPost w w o g ig cap its beh nx beh nx := ⟨Fr.refl _ _, h, fun _ _ => rfl, Nat.le_refl _⟩
theorem OPost.same {w w' : World} {o g ig cap : Nat} {its : List Im} {beh : List Nat} {nx : Nat} (h : OL w o g ig cap its beh nx) (hf : Fr (fun _ => False) w w') : OPost w w' o g ig cap its beh nx beh nx := ⟨hf.mono (fun _ => False.elim), h.fr hf, fun _ _ => rfl, Nat.le_refl _⟩
theorem OPost.stepped {w w' : World} {o g ig cap : Nat} {its : List Im} {beh : List Nat} {nx : Nat} (h : OL w o g ig cap its beh nx) (hf : Fr (fun _ => False) w w') (hn : nx < its.length) : OPost w (w'.setCell ⟨o, 2, none⟩ (.int .i64 ((nx : Int) + 1))) o g ig cap its beh nx beh (nx + 1) := by
  have h2 := (h.fr hf).step (nx + 1) (by omega)
  rw [show (((nx + 1 : Nat)) : Int) = (nx : Int) + 1 by omega] at h2
  exact ⟨(hf.mono (fun _ => False.elim)).setCell (p := ⟨o, 2, none⟩) (.inl (.inl rfl)) _, h2, fun _ _ => rfl, by omega⟩
theorem OPost.noted {w w' : World} {o g ig cap : Nat} {its : List Im} {beh beh' : List Nat} {nx nx' : Nat} (h : OPost w w' o g ig cap its beh nx beh' nx') (p m : Nat) (hp : nx ≤ p) : OPost w (w'.setCell ⟨g, p, none⟩ (.int .i64 (m : Int))) o g ig cap its beh nx (beh'.set p m) nx' :=
  ⟨h.fr.setCell (p := ⟨g, p, none⟩) (.inl (.inr rfl)) _, h.ol.note p m, fun q hq => by rw [List.getElem?_set_ne (by omega)]; exact h.low q hq, h.le⟩
set_option maxRecDepth 100000 in
set_option maxHeartbeats 16000000 in
theorem val_end (d : Nat) (w : World) (o g ig cap : Nat) (its : List Im) (beh : List Nat) (h : OL w o g ig cap its beh its.length) :
    Calls Tryz.prog 41 #[.pointer (some ⟨o, 0, none⟩), .int .i64 (d : Int)] w (VDone w o g ig cap its beh its.length none) := by
  obtain ⟨c0, c1, c2, cf⟩ := h.three
  have HP := hid (OPost.refl h)
  clear h
  generalize its.length = n at *
  go_enter Tryz.func41, Tryz.ntmps41
  go_wp2
  go_ret
  exact ⟨rfl, _, _, HP.out⟩
set_option maxRecDepth 100000 in
set_option maxHeartbeats 16000000 in
theorem val_bad (d : Nat) (w : World) (o g ig cap : Nat) (its : List Im) (beh : List Nat) (nx : Nat) (x : Im) (h : OL w o g ig cap its beh nx) (hx : its[nx]? = some x) (_hl : its.length ≤ 10000000) (hs : x.s.length ≤ 100000000) (hb : x.b < 18446744073709551616) (hg : goodI x = false) :
    Calls Tryz.prog 41 #[.pointer (some ⟨o, 0, none⟩), .int .i64 (d : Int)] w (VDone w o g ig cap its beh nx none) := by
  obtain ⟨c0, c1, c2, cf⟩ := h.three
  obtain ⟨x0, x1, x2, x3⟩ := h.cells hx
  have HI := hid (fun (wx : World) (hT : Tabs wx) => isItem_any x wx hs hb hT)
  rw [hg] at HI
  have HT := hid h.tabs
  have HS := hid (fun wx hf => OPost.same (w' := wx) h hf)
  have hnx : nx < its.length := (List.getElem?_eq_some_iff.1 hx).1
  have hne : ((nx : Int) == (its.length : Int)) = false := beq_eq_false_iff_ne.2 (by omega)
  obtain ⟨k, n, b, s⟩ := x
  simp only at x0 x1 x2 x3 HI
  clear h hx hs hb hg
  generalize its.length = L at *
  go_enter Tryz.func41, Tryz.ntmps41
  go_wp2_with (first | (go_at_call 69; refine Calls.mono (HI.out _ HT.out) ?_; rintro e w2 ⟨rfl, hf⟩; have HF := hid hf; clear hf) | fail)
  go_ret
  exact ⟨rfl, _, _, HS.out _ HF.out⟩
theorem OPost.drew {w w' : World} {o g ig cap : Nat} {its : List Im} {beh beh' : List Nat} {nx nx' : Nat} (h : OPost w w' o g ig cap its beh nx beh' nx') : OPost w w'.drew o g ig cap its beh nx beh' nx' :=
  ⟨h.fr.drew, h.ol.fr (Fr.refl (fun _ => False) w').drew, h.low, h.le⟩
theorem goodI_k {x : Im} (h : goodI x = true) : 0 ≤ x.k ∧ x.k ≤ 6 := by
  unfold goodI at h
  by_cases h0 : x.k = 0 ∨ x.k = 1 ∨ x.k = 2
  · omega
  · rw [if_neg h0] at h
    by_cases h1 : x.k = 3
    · omega
    · rw [if_neg h1] at h
      by_cases h2 : x.k = 4
      · omega
      · rw [if_neg h2] at h
        by_cases h3 : x.k = 5 ∨ x.k = 6
        · omega
        · rw [if_neg h3] at h; cases h
theorem OL.beh {w : World} {o g ig cap : Nat} {its : List Im} {beh : List Nat} {nx p : Nat} (h : OL w o g ig cap its beh nx) (hp : p < its.length) : ∃ m : Nat, w.cell? ⟨g, p, none⟩ = some (.int .i64 (m : Int)) := by
  have hl := h.len
  exact ⟨beh[p]'(by omega), rowCell h.row p _ (by rw [List.getElem?_map, List.getElem?_eq_getElem (by omega)]; rfl)⟩
/-- all that the walk reads of the outline and of one item -/
theorem OL.all {w : World} {o g ig cap : Nat} {its : List Im} {beh : List Nat} {nx p : Nat} {x : Im} (h : OL w o g ig cap its beh nx) (hx : its[p]? = some x) :
    (w.cell? ⟨o, 0, none⟩ = some (.slice (some ⟨ig, 0, none⟩) its.length cap) ∧ w.cell? ⟨o, 1, none⟩ = some (.slice (some ⟨g, 0, none⟩) its.length its.length) ∧ w.cell? ⟨o, 2, none⟩ = some (.int .i64 (nx : Int)) ∧ (∀ j, w.frozen? ⟨o, j, none⟩ = false)) ∧
    (w.cell? ⟨ig, p * 4, none⟩ = some (.int .i64 x.k) ∧ w.cell? ⟨ig, p * 4 + 1, none⟩ = some (.int .i64 x.n) ∧ w.cell? ⟨ig, p * 4 + 2, none⟩ = some (.int .u64 (x.b : Int)) ∧ w.cell? ⟨ig, p * 4 + 3, none⟩ = some (.string (ofL x.s))) ∧ (∀ j, w.frozen? ⟨g, j, none⟩ = false) ∧ (∃ m : Nat, w.cell? ⟨g, p, none⟩ = some (.int .i64 (m : Int))) :=
  ⟨h.three, h.cells hx, fun j => rowFree h.row j, h.beh (List.getElem?_eq_some_iff.1 hx).1⟩
set_option maxRecDepth 100000 in
set_option maxHeartbeats 16000000 in
theorem val_leaf (d : Nat) (w : World) (o g ig cap : Nat) (its : List Im) (beh : List Nat) (nx : Nat) (x : Im) (h : OL w o g ig cap its beh nx) (hx : its[nx]? = some x) (hl : its.length ≤ 10000000) (hs : x.s.length ≤ 100000000) (hb : x.b < 18446744073709551616) (hg : goodI x = true) (hk : x.k < 5)
    (hsz : sizeD 0 (its.drop nx) = 1) :
    Calls Tryz.prog 41 #[.pointer (some ⟨o, 0, none⟩), .int .i64 (d : Int)] w (VDone w o g ig cap its beh nx (some 1)) := by
  obtain ⟨⟨c0, c1, c2, cf⟩, ⟨x0, x1, x2, x3⟩, -⟩ := h.all hx
  have HI := hid (fun (wx : World) (hT : Tabs wx) => isItem_any x wx hs hb hT)
  rw [hg] at HI
  have HT := hid h.tabs
  have hnx : nx < its.length := (List.getElem?_eq_some_iff.1 hx).1
  have HA := hid (fun wx hf => ((h.fr (w' := wx) hf).all hx))
  have HP := hid (fun wx hf => OPost.stepped (w' := wx) h hf hnx)
  have HEND := hid (fun (w3 : World) (hp : OPost w w3 o g ig cap its beh nx beh (nx + 1)) => (show VDone w o g ig cap its beh nx (some 1) (.returned (.bool true)) (w3.setCell ⟨g, nx, none⟩ (.int .i64 ((nx : Int) + 1))) from by
    refine ⟨rfl, _, hp.noted nx (nx + 1) (Nat.le_refl _), ?_⟩
    have hlen := hp.ol.len
    have := BhOk.set (d := 0) (beh := beh) (its := its) (a := nx) (by rw [hsz]; exact BhOk.nil _ _ _) (by rw [hsz]; omega) (by omega) (by omega)
    rw [hsz] at this
    exact this))
  have hne : ((nx : Int) == (its.length : Int)) = false := beq_eq_false_iff_ne.2 (by omega)
  have hk2 := goodI_k hg
  have hio := h.io
  have hig := h.ig
  have hog := h.og
  obtain ⟨k, n, b, s⟩ := x
  simp only at x0 x1 x2 x3 HI hk hk2 HA
  have k5 : (k == 5) = false := beq_eq_false_iff_ne.2 (by omega)
  have k6 : (k == 6) = false := beq_eq_false_iff_ne.2 (by omega)
  clear h hx hs hb hg hsz hk2
  generalize its.length = L at *
  go_enter Tryz.func41, Tryz.ntmps41
  go_wp2_with fail
  refine Calls.mono (HI.out _ HT.out) ?_
  rintro e w2 ⟨rfl, hf⟩
  obtain ⟨⟨d0, d1, d2, df⟩, ⟨y0, y1, y2, y3⟩, fg, m1, gy⟩ := HA.out w2 hf
  have HP2 := hid (HP.out w2 hf)
  clear hf HA HP c0 c1 c2 cf x0 x1 x2 x3
  go_wp2
  go_region
  go_wp2
  go_ret
  exact HEND.out _ HP2.out.drew
set_option maxRecDepth 100000 in
set_option maxHeartbeats 16000000 in
theorem val_deep (w : World) (o g ig cap : Nat) (its : List Im) (beh : List Nat) (nx : Nat) (x : Im) (h : OL w o g ig cap its beh nx) (hx : its[nx]? = some x) (hl : its.length ≤ 10000000) (hs : x.s.length ≤ 100000000) (hb : x.b < 18446744073709551616) (hg : goodI x = true) (hk : ¬ x.k < 5) :
    Calls Tryz.prog 41 #[.pointer (some ⟨o, 0, none⟩), .int .i64 0] w (VDone w o g ig cap its beh nx none) := by
  obtain ⟨⟨c0, c1, c2, cf⟩, ⟨x0, x1, x2, x3⟩, -⟩ := h.all hx
  have HI := hid (fun (wx : World) (hT : Tabs wx) => isItem_any x wx hs hb hT)
  rw [hg] at HI
  have HT := hid h.tabs
  have hnx : nx < its.length := (List.getElem?_eq_some_iff.1 hx).1
  have HA := hid (fun wx hf => ((h.fr (w' := wx) hf).all hx))
  have HP := hid (fun wx hf => OPost.stepped (w' := wx) h hf hnx)
  have hne : ((nx : Int) == (its.length : Int)) = false := beq_eq_false_iff_ne.2 (by omega)
  have hk2 := goodI_k hg
  have hio := h.io
  have hig := h.ig
  have hog := h.og
  obtain ⟨k, n, b, s⟩ := x
  simp only at x0 x1 x2 x3 HI hk hk2 HA
  have k56 : k = 5 ∨ k = 6 := by omega
  clear h hx hs hb hg hk2 hk
  generalize its.length = L at *
  rcases k56 with rfl | rfl
  all_goals
    go_enter Tryz.func41, Tryz.ntmps41
    go_wp2_with fail
    refine Calls.mono (HI.out _ HT.out) ?_
    rintro e w2 ⟨rfl, hf⟩
    obtain ⟨⟨d0, d1, d2, df⟩, ⟨y0, y1, y2, y3⟩, fg, m1, gy⟩ := HA.out w2 hf
    have HP2 := hid (HP.out w2 hf)
    clear hf HA HP c0 c1 c2 cf x0 x1 x2 x3
    go_wp2
    go_ret
    exact ⟨rfl, _, _, HP2.out⟩
/-- what stands inside an array or object, so deep -/
def InOk (d : Nat) : Prop := ∀ (w : World) (o g ig cap : Nat) (its : List Im) (beh : List Nat) (nx N b : Nat) (k : Int) (s : List UInt8), OL w o g ig cap its beh nx → its.length ≤ 10000000 → (∀ x, x ∈ its → x.s.length ≤ 100000000) → Bok its → d ≤ 1000 → k = 5 ∨ k = 6 →
  Calls Tryz.prog 70 #[.pointer (some ⟨o, 0, none⟩), .agg #[.int .i64 k, .int .i64 (N : Int), .int .u64 (b : Int), .string (ofL s)], .int .i64 (d : Int)] w (VDone w o g ig cap its beh nx (partsG (sizeD d) (decide (k = 6)) N (its.drop nx)))
set_option maxRecDepth 100000 in
set_option maxHeartbeats 16000000 in
theorem val_nest_no (d : Nat) (IH : InOk d) (w : World) (o g ig cap : Nat) (its : List Im) (beh : List Nat) (nx N b : Nat) (k : Int) (s : List UInt8) (h : OL w o g ig cap its beh nx) (hx : its[nx]? = some ⟨k, (N : Int), b, s⟩) (hl : its.length ≤ 10000000) (hs : ∀ x, x ∈ its → x.s.length ≤ 100000000) (hb : Bok its) (hd : d + 1 ≤ 1000) (hg : goodI ⟨k, (N : Int), b, s⟩ = true) (hk : k = 5 ∨ k = 6)
    (hsz : partsG (sizeD d) (decide (k = 6)) N (its.drop (nx + 1)) = none) :
    Calls Tryz.prog 41 #[.pointer (some ⟨o, 0, none⟩), .int .i64 ((d : Int) + 1)] w (VDone w o g ig cap its beh nx none) := by
  obtain ⟨⟨c0, c1, c2, cf⟩, ⟨x0, x1, x2, x3⟩, -⟩ := h.all hx
  have hmem : (⟨k, (N : Int), b, s⟩ : Im) ∈ its := List.mem_of_getElem? hx
  have HI := hid (fun (wx : World) (hT : Tabs wx) => isItem_any ⟨k, (N : Int), b, s⟩ wx (hs _ hmem) (hb _ hmem) hT)
  rw [hg] at HI
  have HT := hid h.tabs
  have hnx : nx < its.length := (List.getElem?_eq_some_iff.1 hx).1
  have HA := hid (fun wx hf => ((h.fr (w' := wx) hf).all hx))
  have HP := hid (fun wx hf => OPost.stepped (w' := wx) h hf hnx)
  have hne : ((nx : Int) == (its.length : Int)) = false := beq_eq_false_iff_ne.2 (by omega)
  have hio := h.io
  have hig := h.ig
  have hog := h.og
  have HN := hid (fun (wx : World) (hx : OL wx o g ig cap its beh (nx + 1)) => IH wx o g ig cap its beh (nx + 1) N b k s hx hl hs hb (by omega) hk)
  rw [hsz] at HN
  simp only at x0 x1 x2 x3 HI HA
  have hd0 : ((d : Int) + 1 == 0) = false := beq_eq_false_iff_ne.2 (by omega)
  clear h hx hs hb hg hsz hmem IH
  generalize its.length = L at *
  rcases hk with rfl | rfl
  all_goals
    go_enter Tryz.func41, Tryz.ntmps41
    go_wp2_with fail
    refine Calls.mono (HI.out _ HT.out) ?_
    rintro e w2 ⟨rfl, hf⟩
    obtain ⟨⟨d0, d1, d2, df⟩, ⟨y0, y1, y2, y3⟩, fg, m1, gy⟩ := HA.out w2 hf
    have HP2 := hid (HP.out w2 hf)
    clear hf HA HP c0 c1 c2 cf x0 x1 x2 x3
    go_wp2_with fail
    refine Calls.mono (HN.out _ HP2.out.ol) ?_
    rintro e w3 ⟨rfl, b3, n3, hp3⟩
    have HP3 := hid hp3
    clear hp3
    go_wp2
    go_ret
    exact ⟨rfl, _, _, HP2.out.trans HP3.out⟩
set_option maxRecDepth 100000 in
set_option maxHeartbeats 16000000 in
theorem val_nest_yes (d : Nat) (IH : InOk d) (w : World) (o g ig cap : Nat) (its : List Im) (beh : List Nat) (nx N b m : Nat) (k : Int) (s : List UInt8) (h : OL w o g ig cap its beh nx) (hx : its[nx]? = some ⟨k, (N : Int), b, s⟩) (hl : its.length ≤ 10000000) (hs : ∀ x, x ∈ its → x.s.length ≤ 100000000) (hb : Bok its) (hd : d + 1 ≤ 1000) (hg : goodI ⟨k, (N : Int), b, s⟩ = true) (hk : k = 5 ∨ k = 6)
    (hsz : partsG (sizeD d) (decide (k = 6)) N (its.drop (nx + 1)) = some m) (hsz2 : sizeD (d + 1) (its.drop nx) = m + 1) :
    Calls Tryz.prog 41 #[.pointer (some ⟨o, 0, none⟩), .int .i64 ((d : Int) + 1)] w (VDone w o g ig cap its beh nx (some (m + 1))) := by
  obtain ⟨⟨c0, c1, c2, cf⟩, ⟨x0, x1, x2, x3⟩, -⟩ := h.all hx
  have hmem : (⟨k, (N : Int), b, s⟩ : Im) ∈ its := List.mem_of_getElem? hx
  have HI := hid (fun (wx : World) (hT : Tabs wx) => isItem_any ⟨k, (N : Int), b, s⟩ wx (hs _ hmem) (hb _ hmem) hT)
  rw [hg] at HI
  have HT := hid h.tabs
  have hnx : nx < its.length := (List.getElem?_eq_some_iff.1 hx).1
  have HA := hid (fun wx hf => ((h.fr (w' := wx) hf).all hx))
  have HA3 := hid (fun wx beh' nx' (hy : OL wx o g ig cap its beh' nx') => hy.all hx)
  have HP := hid (fun wx hf => OPost.stepped (w' := wx) h hf hnx)
  have hne : ((nx : Int) == (its.length : Int)) = false := beq_eq_false_iff_ne.2 (by omega)
  have hio := h.io
  have hig := h.ig
  have hog := h.og
  have HN := hid (fun (wx : World) (hx : OL wx o g ig cap its beh (nx + 1)) => IH wx o g ig cap its beh (nx + 1) N b k s hx hl hs hb (by omega) hk)
  rw [hsz] at HN
  have HEND := hid (fun (w3 : World) (b3 : List Nat) (hp : OPost w w3 o g ig cap its beh nx b3 (nx + 1 + m)) (hbk : BhOk b3 its (nx + 1) (nx + 1 + m)) => (show VDone w o g ig cap its beh nx (some (m + 1)) (.returned (.bool true)) (w3.setCell ⟨g, nx, none⟩ (.int .i64 ((nx + 1 + m : Nat) : Int))) from by
    have e1 : nx + 1 + m = nx + (m + 1) := by omega
    rw [e1] at hp hbk ⊢
    refine ⟨rfl, _, hp.noted nx (nx + (m + 1)) (Nat.le_refl _), ?_⟩
    have hlen := hp.ol.len
    have := BhOk.set (d := d + 1) (beh := b3) (its := its) (a := nx) (by rw [hsz2]; exact hbk) (by rw [hsz2]; omega) (by omega) (by omega)
    rw [hsz2] at this
    exact this))
  simp only at x0 x1 x2 x3 HI HA HA3
  have hd0 : ((d : Int) + 1 == 0) = false := beq_eq_false_iff_ne.2 (by omega)
  clear h hx hs hb hg hsz hmem IH hsz2
  generalize its.length = L at *
  rcases hk with rfl | rfl
  all_goals
    go_enter Tryz.func41, Tryz.ntmps41
    go_wp2_with fail
    refine Calls.mono (HI.out _ HT.out) ?_
    rintro e w2 ⟨rfl, hf⟩
    obtain ⟨⟨d0, d1, d2, df⟩, ⟨y0, y1, y2, y3⟩, fg, m1, gy⟩ := HA.out w2 hf
    have HP2 := hid (HP.out w2 hf)
    clear hf HA HP c0 c1 c2 cf x0 x1 x2 x3
    go_wp2_with fail
    refine Calls.mono (HN.out _ HP2.out.ol) ?_
    rintro e w3 ⟨rfl, b3, hp3, hb3⟩
    have HP3 := hid (HP2.out.trans hp3)
    have HB3 := hid hb3
    obtain ⟨⟨e0, e1, e2, ef⟩, ⟨z0, z1, z2, z3⟩, gg, m2, gz⟩ := HA3.out _ _ _ hp3.ol
    clear hp3 hb3 HP2 d0 d1 d2 df y0 y1 y2 y3 fg gy
    generalize nx + 1 + m = nz at *
    go_wp2
    go_region
    go_wp2
    go_ret
    exact HEND.out _ _ HP3.out.drew HB3.out
end Go.Proofs.YtmkkibaacclhnaaGreatDoor

namespace Go.Proofs.YtmkkibaacclhnaaGreatDoor
open Go.RowKit

theorem szO_none {n : Nat} (h : n = 0) : szO n = none := if_pos h
theorem szO_some {n : Nat} (h : n ≠ 0) : szO n = some n := if_neg h
theorem partsG_arr {sz : List Im → Nat} {c : Nat} {l : List Im} : partsG sz false (c + 1) l = if sz l = 0 then none else (partsG sz false c (l.drop (sz l))).map (fun m => sz l + m) := by
  conv => lhs; unfold partsG
  rw [if_neg (by simp)]
theorem map_map_add (o : Option Nat) (a b : Nat) : (o.map (fun m => a + m)).map (fun m => b + m) = o.map (fun m => (b + a) + m) := by
  cases o with
  | none => rfl
  | some v => simp [Nat.add_assoc]
/-- the box of an item is not of the outline -/
theorem box_keep {w wr : World} {o g : Nat} {v0 v1 v2 v3 : Value} (hF : Fr (fun i => i = o ∨ i = g) (w.alloc (.cells #[v0, v1, v2, v3] 29)) wr) (ho : o < w.heap.size) (hg : g < w.heap.size) : wr.cell? ⟨w.heap.size, 0, none⟩ = some v0 ∧ wr.cell? ⟨w.heap.size, 1, none⟩ = some v1 := by
  have hn := heap_alloc_new w (.cells #[v0, v1, v2, v3] 29)
  have hk : wr.heap[w.heap.size]? = some (.cells #[v0, v1, v2, v3] 29 (0, 0)) := hF.heap hn (by omega)
  exact ⟨blk_cell hk rfl, blk_cell hk rfl⟩
theorem OL.lts {w : World} {o g ig cap : Nat} {its : List Im} {beh : List Nat} {nx : Nat} (h : OL w o g ig cap its beh nx) : o < w.heap.size ∧ g < w.heap.size := ⟨lt_of_block h.blk, lt_of_row h.row⟩
set_option maxRecDepth 100000 in
set_option maxHeartbeats 16000000 in
theorem inside_arr (d : Nat) (IH : ValOk d) (w : World) (o g ig cap : Nat) (its : List Im) (beh : List Nat) (nx N b : Nat) (s : List UInt8) (h : OL w o g ig cap its beh nx) (hl : its.length ≤ 10000000) (hs : ∀ x, x ∈ its → x.s.length ≤ 100000000) (hb : Bok its) (hd : d ≤ 1000) :
    Calls Tryz.prog 70 #[.pointer (some ⟨o, 0, none⟩), .agg #[.int .i64 5, .int .i64 (N : Int), .int .u64 (b : Int), .string (ofL s)], .int .i64 (d : Int)] w (VDone w o g ig cap its beh nx (partsG (sizeD d) false N (its.drop nx))) := by
  obtain ⟨PG, hPG⟩ : ∃ PG, partsG (sizeD d) false N (its.drop nx) = PG := ⟨_, rfl⟩
  rw [hPG]
  obtain ⟨lo, lg⟩ := h.lts
  have HA := hid (fun wx hf => OPost.same (w' := wx) h hf)
  have HBX := hid (fun wr (hF : Fr (fun i => i = o ∨ i = g) (w.alloc (.cells #[.int .i64 5, .int .i64 (N : Int), .int .u64 (b : Int), .string (ofL s)] 29)) wr) => box_keep hF lo lg)
  have HFA := hid ((Fr.refl (fun _ => False) w).alloc (.cells #[.int .i64 5, .int .i64 (N : Int), .int .u64 (b : Int), .string (ofL s)] 29))
  have HV := hid (fun wx beh' nx' (hx : OL wx o g ig cap its beh' nx') => IH wx o g ig cap its beh' nx' hx hl hs hb hd)
  have H0 := hid (show (partsG (sizeD d) false (N - 0) (its.drop (nx + 0))).map (fun m => 0 + m) = PG by rw [← hPG]; simp)
  have HB0 := hid (BhOk.nil beh its nx)
  have HP0 := hid (OPost.refl (h.fr HFA.out))
  have hnx := h.nxle
  clear h IH hs hb hPG lo lg
  go_enter Tryz.func70, Tryz.ntmps70
  go_wp2
  go_loopw [9] (fun sv wr => ∃ (i k : Nat) (b' : List Nat), sv = .int .i64 (i : Int) ∧ i ≤ N ∧ i ≤ k ∧ k ≤ 10000000 ∧ Hid (OPost (w.alloc (.cells #[.int .i64 5, .int .i64 (N : Int), .int .u64 (b : Int), .string (ofL s)] 29)) wr o g ig cap its beh nx b' (nx + k)) ∧ Hid (BhOk b' its nx (nx + k)) ∧ Hid ((partsG (sizeD d) false (N - i) (its.drop (nx + k))).map (fun m => k + m) = PG)) (fun sv _ => N - (intOf sv).toNat)
  case atStart => exact ⟨0, 0, beh, rfl, Nat.zero_le _, Nat.zero_le _, Nat.zero_le _, HP0, HB0, H0⟩
  case round =>
    clear HP0 HB0 H0
    obtain ⟨i, k, b', rfl, hiN, hik, hk, HP, HB, HG⟩ := hrel
    obtain ⟨x0, -⟩ := HBX.out _ HP.out.fr
    by_cases hi : i < N
    · have hz : (i : Int) < (N : Int) := by omega
      obtain ⟨c, hc⟩ : ∃ c, N - i = c + 1 := ⟨N - i - 1, by omega⟩
      have HG1 := hid (show (partsG (sizeD d) false (c + 1) (its.drop (nx + k))).map (fun m => k + m) = PG by rw [← hc]; exact HG.out)
      clear HG
      have HC := hid (HV.out _ _ _ HP.out.ol)
      by_cases hsz : sizeD d (its.drop (nx + k)) = 0
      · rw [szO_none hsz] at HC
        have HPG := hid (show PG = none by rw [← HG1.out, partsG_arr, if_pos hsz]; rfl)
        clear HG1 hsz
        go_wp2_with (first | (go_at_call 41; refine Calls.mono HC.out ?_; rintro e w2 ⟨rfl, b2, n2, hp⟩; have HP2 := hid hp; clear hp) | fail)
        go_ret
        rw [HPG.out]
        exact ⟨rfl, b2, n2, ((HA.out _ HFA.out).trans HP.out).trans HP2.out⟩
      · rw [szO_some hsz] at HC
        obtain ⟨m, hm⟩ : ∃ m, sizeD d (its.drop (nx + k)) = m := ⟨_, rfl⟩
        have HG2 := hid (show (partsG (sizeD d) false c (its.drop (nx + (k + m)))).map (fun q => (k + m) + q) = PG by
          rw [← HG1.out, partsG_arr, if_neg hsz, map_map_add, hm, List.drop_drop, Nat.add_assoc])
        have hm1 : 1 ≤ m := by omega
        have hmle : k + m ≤ 10000000 := by
          have h1 := sizeD_le d (its.drop (nx + k))
          rw [hm, List.length_drop] at h1
          have h2 := HP.out.ol.nxle
          omega
        rw [hm] at HC
        clear HG1 hsz hm
        go_wp2_with (first | (go_at_call 41; refine Calls.mono HC.out ?_; rintro e w2 ⟨rfl, b2, hp, hbk⟩; have HP2 := hid hp; have HB2 := hid hbk; clear hp hbk) | fail)
        go_roundw
        case rel =>
          refine ⟨i + 1, k + m, b2, by simp, by omega, by omega, hmle, hid ?_, hid ?_, hid ?_⟩
          · have := HP.out.trans HP2.out; rw [Nat.add_assoc] at this; exact this
          · have := HB.out.join HB2.out HP2.out.low; rw [Nat.add_assoc] at this; exact this
          · rw [show N - (i + 1) = c by omega]; exact HG2.out
        case measure => simp only [intOf]; omega
    · obtain rfl : i = N := by omega
      have hz : ¬ (i : Int) < (i : Int) := by omega
      have HPG := hid (show PG = some k by rw [← HG.out, Nat.sub_self]; rfl)
      clear HG
      go_wp2
      go_ret
      rw [HPG.out]
      exact ⟨rfl, b', (HA.out _ HFA.out).trans HP.out, HB.out⟩
end Go.Proofs.YtmkkibaacclhnaaGreatDoor

namespace Go.Proofs.YtmkkibaacclhnaaGreatDoor
open Go.RowKit

/-- the key at the front -/
def keyR : List Im → Option Nat
  | [] => none
  | x :: _ => if x.k = 4 ∧ goodI x = true then some 1 else none
/-- what key 124 keeps to -/
def KeyOk : Prop := ∀ (w : World) (o g ig cap : Nat) (its : List Im) (beh : List Nat) (nx : Nat), OL w o g ig cap its beh nx → its.length ≤ 10000000 → (∀ x, x ∈ its → x.s.length ≤ 100000000) → Bok its →
  Calls Tryz.prog 124 #[.pointer (some ⟨o, 0, none⟩)] w (VDone w o g ig cap its beh nx (keyR (its.drop nx)))
theorem partsG_obj_no {sz : List Im → Nat} {c : Nat} {l : List Im} (h : keyR l = none) : partsG sz true (c + 1) l = none := by
  unfold partsG
  rw [if_pos rfl]
  cases l with
  | nil => rfl
  | cons x r =>
    unfold keyR at h
    simp only at h ⊢
    by_cases hk : x.k = 4 ∧ goodI x = true
    · rw [if_pos hk] at h; cases h
    · rw [if_neg hk]
theorem partsG_obj {sz : List Im → Nat} {c : Nat} {l : List Im} (h : keyR l ≠ none) : keyR l = some 1 ∧ partsG sz true (c + 1) l = if sz (l.drop 1) = 0 then none else (partsG sz true c ((l.drop 1).drop (sz (l.drop 1)))).map (fun m => 1 + sz (l.drop 1) + m) := by
  cases l with
  | nil => exact absurd rfl h
  | cons x r =>
    unfold keyR at h ⊢
    simp only at h ⊢
    by_cases hk : x.k = 4 ∧ goodI x = true
    · rw [if_pos hk]
      refine ⟨rfl, ?_⟩
      conv => lhs; unfold partsG
      simp only [if_true, hk, and_self, List.drop_succ_cons, List.drop_zero]
    · rw [if_neg hk] at h; exact absurd rfl h
theorem BhOk.le {beh : List Nat} {its : List Im} {a b c : Nat} (h : BhOk beh its a c) (hb : b ≤ c) : BhOk beh its a b := fun q h1 h2 => h q h1 (Nat.lt_of_lt_of_le h2 hb)
set_option maxRecDepth 100000 in
set_option maxHeartbeats 16000000 in
theorem inside_obj (d : Nat) (IH : ValOk d) (KH : KeyOk) (w : World) (o g ig cap : Nat) (its : List Im) (beh : List Nat) (nx N b : Nat) (s : List UInt8) (h : OL w o g ig cap its beh nx) (hl : its.length ≤ 10000000) (hs : ∀ x, x ∈ its → x.s.length ≤ 100000000) (hb : Bok its) (hd : d ≤ 1000) :
    Calls Tryz.prog 70 #[.pointer (some ⟨o, 0, none⟩), .agg #[.int .i64 6, .int .i64 (N : Int), .int .u64 (b : Int), .string (ofL s)], .int .i64 (d : Int)] w (VDone w o g ig cap its beh nx (partsG (sizeD d) true N (its.drop nx))) := by
  obtain ⟨PG, hPG⟩ : ∃ PG, partsG (sizeD d) true N (its.drop nx) = PG := ⟨_, rfl⟩
  rw [hPG]
  obtain ⟨lo, lg⟩ := h.lts
  have HA := hid (fun wx hf => OPost.same (w' := wx) h hf)
  have HBX := hid (fun wr (hF : Fr (fun i => i = o ∨ i = g) (w.alloc (.cells #[.int .i64 6, .int .i64 (N : Int), .int .u64 (b : Int), .string (ofL s)] 29)) wr) => box_keep hF lo lg)
  have HFA := hid ((Fr.refl (fun _ => False) w).alloc (.cells #[.int .i64 6, .int .i64 (N : Int), .int .u64 (b : Int), .string (ofL s)] 29))
  have HV := hid (fun wx beh' nx' (hx : OL wx o g ig cap its beh' nx') => IH wx o g ig cap its beh' nx' hx hl hs hb hd)
  have HKy := hid (fun wx beh' nx' (hx : OL wx o g ig cap its beh' nx') => KH wx o g ig cap its beh' nx' hx hl hs hb)
  have H0 := hid (show (partsG (sizeD d) true (N - 0) (its.drop (nx + 0))).map (fun m => 0 + m) = PG by rw [← hPG]; simp)
  have HB0 := hid (BhOk.nil beh its nx)
  have HP0 := hid (OPost.refl (h.fr HFA.out))
  have hnx := h.nxle
  clear h IH KH hs hb hPG lo lg
  go_enter Tryz.func70, Tryz.ntmps70
  go_wp2
  go_loopw [9] (fun sv wr => ∃ (i k : Nat) (b' : List Nat), sv = .int .i64 (i : Int) ∧ i ≤ N ∧ i ≤ k ∧ k ≤ 10000000 ∧ Hid (OPost (w.alloc (.cells #[.int .i64 6, .int .i64 (N : Int), .int .u64 (b : Int), .string (ofL s)] 29)) wr o g ig cap its beh nx b' (nx + k)) ∧ Hid (BhOk b' its nx (nx + k)) ∧ Hid ((partsG (sizeD d) true (N - i) (its.drop (nx + k))).map (fun m => k + m) = PG)) (fun sv _ => N - (intOf sv).toNat)
  case atStart => exact ⟨0, 0, beh, rfl, Nat.zero_le _, Nat.zero_le _, Nat.zero_le _, HP0, HB0, H0⟩
  case round =>
    clear HP0 HB0 H0
    obtain ⟨i, k, b', rfl, hiN, hik, hk, HP, HB, HG⟩ := hrel
    obtain ⟨x0, -⟩ := HBX.out _ HP.out.fr
    by_cases hi : i < N
    · have hz : (i : Int) < (N : Int) := by omega
      obtain ⟨c, hc⟩ : ∃ c, N - i = c + 1 := ⟨N - i - 1, by omega⟩
      have HG1 := hid (show (partsG (sizeD d) true (c + 1) (its.drop (nx + k))).map (fun m => k + m) = PG by rw [← hc]; exact HG.out)
      clear HG
      have HC := hid (HKy.out _ _ _ HP.out.ol)
      by_cases hky : keyR (its.drop (nx + k)) = none
      · rw [hky] at HC
        have HPG := hid (show PG = none by rw [← HG1.out, partsG_obj_no hky]; rfl)
        clear HG1 hky
        go_wp2_with (first | (go_at_call 124; refine Calls.mono HC.out ?_; rintro e w2 ⟨rfl, b2, n2, hp⟩; have HP2 := hid hp; clear hp) | fail)
        go_ret
        rw [HPG.out]
        exact ⟨rfl, b2, n2, ((HA.out _ HFA.out).trans HP.out).trans HP2.out⟩
      · obtain ⟨hk1, hpo⟩ := partsG_obj (sz := sizeD d) (c := c) hky
        rw [hk1] at HC
        have HPO := hid hpo
        clear hky hk1 hpo
        go_wp2_with (first | (go_at_call 124; refine Calls.mono HC.out ?_; rintro e w2 ⟨rfl, b2, hp, hbk⟩; have HP2 := hid (HP.out.trans hp); have HB2 := hid (HB.out.join hbk hp.low); clear hp hbk) | fail)
        have HC2 := hid (HV.out _ _ _ HP2.out.ol)
        by_cases hsz : sizeD d (its.drop (nx + k + 1)) = 0
        · rw [szO_none hsz] at HC2
          have HPG := hid (show PG = none by rw [← HG1.out, HPO.out, List.drop_drop, if_pos hsz]; rfl)
          clear HG1 hsz HPO
          refine Calls.mono HC2.out ?_
          rintro e w3 ⟨rfl, b3, n3, hp⟩
          have HP3 := hid hp
          clear hp
          go_wp2
          go_ret
          rw [HPG.out]
          exact ⟨rfl, b3, n3, ((HA.out _ HFA.out).trans HP2.out).trans HP3.out⟩
        · rw [szO_some hsz] at HC2
          obtain ⟨m, hm⟩ : ∃ m, sizeD d (its.drop (nx + k + 1)) = m := ⟨_, rfl⟩
          have HG2 := hid (show (partsG (sizeD d) true c (its.drop (nx + (k + 1 + m)))).map (fun q => (k + 1 + m) + q) = PG by
            rw [← HG1.out, HPO.out, List.drop_drop, if_neg hsz, map_map_add, hm, List.drop_drop]
            simp only [Nat.add_assoc])
          have hmle : k + 1 + m ≤ 10000000 := by
            have h1 := sizeD_le d (its.drop (nx + k + 1))
            rw [hm, List.length_drop] at h1
            have h2 := HP2.out.ol.nxle
            omega
          rw [hm] at HC2
          clear HG1 hsz hm HPO
          refine Calls.mono HC2.out ?_
          rintro e w3 ⟨rfl, b3, hp, hbk⟩
          have HP3 := hid (HP2.out.trans hp)
          have HB3 := hid (HB2.out.join hbk hp.low)
          clear hp hbk
          go_wp2
          go_roundw
          case rel =>
            refine ⟨i + 1, k + 1 + m, b3, by simp, by omega, by omega, hmle, hid ?_, hid ?_, hid ?_⟩
            · have := HP3.out; simp only [Nat.add_assoc] at this ⊢; exact this
            · have := HB3.out; simp only [Nat.add_assoc] at this ⊢; exact this
            · rw [show N - (i + 1) = c by omega]; exact HG2.out
          case measure => simp only [intOf]; omega
    · obtain rfl : i = N := by omega
      have hz : ¬ (i : Int) < (i : Int) := by omega
      have HPG := hid (show PG = some k by rw [← HG.out, Nat.sub_self]; rfl)
      clear HG
      go_wp2
      go_ret
      rw [HPG.out]
      exact ⟨rfl, b', (HA.out _ HFA.out).trans HP.out, HB.out⟩
end Go.Proofs.YtmkkibaacclhnaaGreatDoor
