/-
  A step of the walk, the part named So. No theorem of the row.
-/
import Derived.Test.YtmkkibaacclhnaaGreatSn
namespace Go.Proofs.YtmkkibaacclhnaaGreat
open Go.RowKit

/-- a nest's own item is set behind it -/
theorem npost_nest {B : Nat} {w0 w3 : World} {l : List UInt8} {inn d : Nat} {its : List It} {z : It} {U : RV} {x : Ending} (k : Nat) (h : NPost B w0 l (inn + 1) d (its ++ [z]) U x w3) :
    ∃ (m : Nat) (b : Bool) (q : List UInt8) (vi : Value) (more : List It) (e : Nat) (en la : Bool), x = .returned (.tuple #[.int .i64 (m : Int), .bool b]) ∧ SC B w0 w3 l q (inn + 1) d vi (its ++ z :: more) e en la ∧
      ∀ w' vi', SC B w0 w' l q inn d vi' (its ++ ⟨k, m, 0, []⟩ :: more) e en la → IPost B w0 l inn d its (nestV k U) (.returned (.bool b)) w' := by
  have ea : ∀ new : List It, its ++ [z] ++ new = its ++ z :: new := fun new => by simp
  cases U with
  | ok n new q =>
    obtain ⟨h1, vi, h2⟩ := h
    exact ⟨n, true, q, vi, new, 0, false, false, h1, by rw [← ea]; exact h2, fun w' vi' h3 => ⟨rfl, vi', h3⟩⟩
  | wrong e q =>
    obtain ⟨m, h1, vi, more, h2⟩ := h
    exact ⟨m, false, q, vi, more, e, false, false, h1, by rw [← ea]; exact h2, fun w' vi' h3 => ⟨rfl, vi', _, h3⟩⟩
  | ended late =>
    obtain ⟨m, h1, vi, more, h2⟩ := h
    exact ⟨m, false, [], vi, more, 0, true, late, h1, by rw [← ea]; exact h2, fun w' vi' h3 => ⟨rfl, vi', _, h3⟩⟩
theorem size_setC (w : World) (a : Addr) (v : Value) : (w.setCell a v).heap.size = w.heap.size := by
  unfold World.setCell
  simp
theorem four_at (W : World) (n : Nat) (a b c d : Value) (t : TypeId) (hn : W.heap.size = n) : ∀ (j : Nat) (u : Value), [a, b, c, d][j]? = some u → (W.alloc (.cells #[a, b, c, d] t)).cell? ((⟨n, 0, none⟩ : Addr).add j) = some u := by
  subst hn
  exact four_new W a b c d t
theorem row_there {w : World} {e n g cap : Nat} {xs : List Value} {i : Nat} (h : w.ownsRow 0 e 4 (.slice (some ⟨g, 0, none⟩) n cap) n xs) (hi : i < n) : w.there g (i * 4) 4 := by
  rcases h.2 with ⟨h2, _⟩ | ⟨g', cap', cur, hv, h3, hg, h4, h5, h6, h7⟩
  · cases h2
  · simp at hv
    obtain ⟨rfl, rfl⟩ := hv
    intro j hj
    have hlt : i * 4 + j < cur.size := by omega
    refine ⟨?_, blk_free hg⟩
    rw [blk_cell hg (Array.getElem?_eq_getElem hlt)]
    rfl
set_option maxRecDepth 100000 in
set_option maxHeartbeats 40000000 in
theorem value_deep_arr (B : Nat) (w0 w : World) (l p q : List UInt8) (c : UInt8) (f inn d : Nat) (vi : Value) (its : List It) (hl : l.length ≤ 1800000) (_hil : its.length ≤ 10000000) (_hd : d ≤ 1000) (h : SC B w0 w l p inn d vi its 0 false false) (hx : skipB p = c :: q) (hc : c = 91) (hin : inn = d) :
    Calls Tryz.prog 45 #[.pointer (some ⟨B, 0, none⟩)] w (IPost B w0 l inn d its (rGo d (f + 1) inn .val p)) := by
  obtain ⟨a, n, cap, rfl⟩ := row_shape3 h.oi
  obtain rfl := slice_len h.oi
  have HB := hid (blanks_any B w0 w l p inn d _ its 0 false false (by omega) h)
  rw [hx] at HB
  have hsz := ofL_size l
  have hcl : c.toNat < 256 := c.toNat_lt
  obtain ⟨U, hU⟩ : ∃ U, rGo d (f + 1) inn .val p = U := ⟨_, rfl⟩
  rw [hU]
  rw [rGo_val_cons hx] at hU
  clear h hx
  rw [if_neg (by rw [hc]; decide), if_pos hc, if_pos hin] at hU
  subst hc
  have HU := hid hU
  have hib : ((inn : Int) == (d : Int)) = true := by rw [hin]; simp
  clear hU hin
  go_enter Tryz.func45, Tryz.ntmps45
  go_wp2_with fail
  refine Calls.mono HB.out ?_
  rintro x w2 ⟨rfl, hC⟩
  have hI2 : SC B w0 w2 l (91 :: q) inn d (.slice a its.length cap) its 0 false false := hC
  clear hC
  obtain ⟨hkk, hg⟩ := suf_get hI2.suf
  have k0 := blk_cell hI2.blk (show (scCells l (l.length - (91 :: q).length) inn d (.slice a its.length cap) 0 false false)[0]? = some (.string (ofL l)) from rfl)
  have k1 := blk_cell hI2.blk (show (scCells l (l.length - (91 :: q).length) inn d (.slice a its.length cap) 0 false false)[1]? = some (.int .i64 ((l.length - (91 :: q).length : Nat) : Int)) from rfl)
  have hgc : (ofL l)[l.length - (91 :: q).length]'(by rw [hsz]; exact hkk) = 91 := (ofL_get l _ _).trans hg
  have HI2 := hid hI2
  have k2 := blk_cell hI2.blk (show (scCells l (l.length - (91 :: q).length) inn d (.slice a its.length cap) 0 false false)[2]? = some (.int .i64 (inn : Int)) from rfl)
  have k3 := blk_cell hI2.blk (show (scCells l (l.length - (91 :: q).length) inn d (.slice a its.length cap) 0 false false)[3]? = some (.int .i64 (d : Int)) from rfl)
  have hFl := hid (fun n => fails_any B w0 (w2.drewN n) l (91 :: q) inn d (.slice a its.length cap) its 0 4 false false (hI2.drewN n))
  generalize l.length - (91 :: q).length = ps at *
  clear hg hI2
  go_wp2
  go_quiet (fail)
  go_wp2
  go_quiet (fail)
  go_wp2_with fail
  refine Calls.mono (hFl.out _) ?_
  rintro x w3 ⟨rfl, hC⟩
  have HC := hid hC
  clear hC
  go_wp2
  go_ret
  rw [← HU.out]
  exact ⟨rfl, _, [], by rw [List.append_nil]; exact HC.out⟩
set_option maxRecDepth 100000 in
set_option maxHeartbeats 40000000 in
theorem value_nest_arr (B : Nat) (w0 w : World) (l p q : List UInt8) (c : UInt8) (f inn d : Nat) (vi : Value) (its : List It) (hl : l.length ≤ 1800000) (hil : its.length ≤ 10000000) (_hd : d ≤ 1000) (h : SC B w0 w l p inn d vi its 0 false false) (hx : skipB p = c :: q) (hc : c = 91) (hin : inn ≠ d) (hid1 : inn ≤ 1000)
    (hV : ∀ (w' : World) (vi' : Value), SC B w0 w' l q (inn + 1) d vi' (its ++ [⟨0, 0, 0, []⟩]) 0 false false → Calls Tryz.prog 72 #[.pointer (some ⟨B, 0, none⟩)] w' (NPost B w0 l (inn + 1) d (its ++ [⟨0, 0, 0, []⟩]) (rGo d f (inn + 1) .vals q))) :
    Calls Tryz.prog 45 #[.pointer (some ⟨B, 0, none⟩)] w (IPost B w0 l inn d its (rGo d (f + 1) inn .val p)) := by
  obtain ⟨a, n, cap, rfl⟩ := row_shape3 h.oi
  obtain rfl := slice_len h.oi
  have HB := hid (blanks_any B w0 w l p inn d _ its 0 false false (by omega) h)
  rw [hx] at HB
  have hsz := ofL_size l
  have hcl : c.toNat < 256 := c.toNat_lt
  obtain ⟨U, hU⟩ : ∃ U, rGo d (f + 1) inn .val p = U := ⟨_, rfl⟩
  rw [hU]
  rw [rGo_val_cons hx] at hU
  clear h hx
  rw [if_neg (by rw [hc]; decide), if_pos hc, if_neg hin] at hU
  subst hc
  have HU := hid hU
  have HV := hid hV
  have hib : ((inn : Int) == (d : Int)) = false := beq_eq_false_iff_ne.2 (by omega)
  obtain ⟨i0, hi, hz0, hz1, hz2⟩ := info_parts Tryz.info59
  clear hU hin hV
  go_enter Tryz.func45, Tryz.ntmps45
  go_wp2_with fail
  refine Calls.mono HB.out ?_
  rintro x w2 ⟨rfl, hC⟩
  have hI2 : SC B w0 w2 l (91 :: q) inn d (.slice a its.length cap) its 0 false false := hC
  clear hC
  obtain ⟨hkk, hg⟩ := suf_get hI2.suf
  have k0 := blk_cell hI2.blk (show (scCells l (l.length - (91 :: q).length) inn d (.slice a its.length cap) 0 false false)[0]? = some (.string (ofL l)) from rfl)
  have k1 := blk_cell hI2.blk (show (scCells l (l.length - (91 :: q).length) inn d (.slice a its.length cap) 0 false false)[1]? = some (.int .i64 ((l.length - (91 :: q).length : Nat) : Int)) from rfl)
  have hgc : (ofL l)[l.length - (91 :: q).length]'(by rw [hsz]; exact hkk) = 91 := (ofL_get l _ _).trans hg
  have HI2 := hid hI2
  have k2 := blk_cell hI2.blk (show (scCells l (l.length - (91 :: q).length) inn d (.slice a its.length cap) 0 false false)[2]? = some (.int .i64 (inn : Int)) from rfl)
  have k3 := blk_cell hI2.blk (show (scCells l (l.length - (91 :: q).length) inn d (.slice a its.length cap) 0 false false)[3]? = some (.int .i64 (d : Int)) from rfl)
  have k4 := blk_cell hI2.blk (show (scCells l (l.length - (91 :: q).length) inn d (.slice a its.length cap) 0 false false)[4]? = some (.slice a its.length cap) from rfl)
  have f1 := blk_free (j := 1) hI2.blk
  have f2 := blk_free (j := 2) hI2.blk
  have f4 := blk_free (j := 4) hI2.blk
  have HS2 := hid (fun n => (hI2.drewN n).step.cell 2 (.int .i64 ((inn : Int) + 1)) (p' := q) (inn' := inn + 1) (e' := 0) (en' := false) (la' := false) (suf_tail hI2.suf) rfl)
  have HZ := hid (fun n => (show (((w2.drewN n).setCell ⟨B, 1, none⟩ (.int .i64 ((l.length - (91 :: q).length : Nat) + 1 : Int))).setCell ⟨B, 2, none⟩ (.int .i64 ((inn : Int) + 1))).heap.size = w2.heap.size by rw [size_setC, size_setC]; rfl))
  generalize l.length - (91 :: q).length = ps at *
  clear hg hI2
  go_wp2
  go_quiet (fail)
  go_wp2
  go_quiet (fail)
  go_wp2_with (first
    | (at_builtin; refine wpList_append_d _ rfl _ _ 52 rfl 59 i0 (.agg #[.int .i64 0, .int .i64 0, .int .u64 0, .string ⟨#[]⟩]) 4 40 Tryz.underlying52 hi hz0 hz1 hz2 rfl (by decide) _ _ _ rfl ((HS2.out _).oi.alloc _) ⟨_, 0, none⟩ 1 1 (itCells ⟨0, 0, 0, []⟩) rfl rfl ?c1 ?c2 ?c3 ?c4 ?_)
    | fail)
  case c1 => exact four_at _ _ _ _ _ _ _ (HZ.out _)
  case c2 => intro u hu; simp [itCells] at hu; rcases hu with rfl | rfl | rfl | rfl <;> rfl
  case c3 => unfold maxLen; omega
  case c4 => omega
  intro v' w1 hown' hgrow hnew
  obtain ⟨a', n', cap', rfl⟩ := row_shape3 hown'
  obtain ⟨hh1, hR⟩ := (HS2.out _).growI ⟨0, 0, 0, []⟩ hown' hgrow (fun g hg => by rw [HZ.out]; exact hnew g hg)
  have q4 := blk_cell hh1 (show (scCells l (l.length - q.length) (inn + 1) d (.slice a its.length cap) 0 false false)[4]? = some (.slice a its.length cap) from rfl)
  have p4 := blk_free (j := 4) hh1
  have HQ := hid (HV.out _ _ hR)
  clear hown' hgrow hnew hh1 hR k0 k1 k2 k3 k4 f1 f2 f4
  go_wp2_with fail
  refine Calls.mono HQ.out ?_
  intro x w3 hp
  obtain ⟨m, b, q3, vi3, more, e, en, la, rfl, hC, hF⟩ := npost_nest 5 hp
  have hlen3 : (its ++ (⟨0, 0, 0, []⟩ : It) :: more).length = its.length + more.length + 1 := by simp; omega
  obtain ⟨a3, n3, cap3, rfl⟩ := row_shape3 hC.oi
  obtain rfl := slice_len hC.oi
  obtain ⟨g, rfl⟩ := row_some hC.oi (by rw [hlen3]; omega)
  have hth : w3.there g (its.length * 4) 4 := row_there hC.oi (by rw [hlen3]; omega)
  have hSI : SC B w0 (w3.setCells g (its.length * 4) [.int .i64 5, .int .i64 (m : Int), .int .u64 0, .string (ofL [])]) l q3 (inn + 1) d (.slice (some ⟨g, 0, none⟩) (its ++ (⟨0, 0, 0, []⟩ : It) :: more).length cap3) (its ++ (⟨5, m, 0, []⟩ : It) :: more) e en la := hC.setItem (y := ⟨5, m, 0, []⟩) (its.length * 4) rfl
  have j2 := blk_cell hSI.blk (show (scCells l (l.length - q3.length) (inn + 1) d (.slice (some ⟨g, 0, none⟩) (its ++ (⟨0, 0, 0, []⟩ : It) :: more).length cap3) e en la)[2]? = some (.int .i64 ((inn : Int) + 1)) from rfl)
  have j2f := blk_free (j := 2) hSI.blk
  have hfin := hid (hF _ _ (hSI.cell 2 (.int .i64 (inn : Int)) (p' := q3) (inn' := inn) (e' := e) (en' := en) (la' := la) hSI.suf rfl))
  rw [HU.out] at hfin
  have k4 := blk_cell hC.blk (show (scCells l (l.length - q3.length) (inn + 1) d (.slice (some ⟨g, 0, none⟩) (its ++ (⟨0, 0, 0, []⟩ : It) :: more).length cap3) e en la)[4]? = some (.slice (some ⟨g, 0, none⟩) (its ++ (⟨0, 0, 0, []⟩ : It) :: more).length cap3) from rfl)
  rw [hlen3] at k4
  have hlt : its.length < its.length + more.length + 1 := by omega
  have hsz59 : (Tryz.prog.info? 59).map (·.size) = some 4 := by kernel_rfl
  clear hC hF hlen3 hp hSI
  go_wp2_with (first | (refine wpList_store_mid rfl 59 _ _ rfl g (its.length * 4) #[.int .i64 (5 : Nat), .int .i64 (m : Int), .int .u64 (0 : Nat), .string (ofL [])] ?s1 ?s2 ?t1 ?t2 ?t3 ?_) | fail)
  case s1 => rfl
  case s2 => rfl
  case t1 => exact hth
  case t2 => exact hsz59
  case t3 => exact Array.all_eq_true_iff_forall_mem.2 (fun v hv => by simp at hv; rcases hv with rfl | rfl | rfl | rfl <;> rfl)
  go_ret
  exact hfin.out
set_option maxRecDepth 100000 in
set_option maxHeartbeats 40000000 in
theorem value_deep_obj (B : Nat) (w0 w : World) (l p q : List UInt8) (c : UInt8) (f inn d : Nat) (vi : Value) (its : List It) (hl : l.length ≤ 1800000) (_hil : its.length ≤ 10000000) (_hd : d ≤ 1000) (h : SC B w0 w l p inn d vi its 0 false false) (hx : skipB p = c :: q) (hc : c = 123) (hin : inn = d) :
    Calls Tryz.prog 45 #[.pointer (some ⟨B, 0, none⟩)] w (IPost B w0 l inn d its (rGo d (f + 1) inn .val p)) := by
  obtain ⟨a, n, cap, rfl⟩ := row_shape3 h.oi
  obtain rfl := slice_len h.oi
  have HB := hid (blanks_any B w0 w l p inn d _ its 0 false false (by omega) h)
  rw [hx] at HB
  have hsz := ofL_size l
  have hcl : c.toNat < 256 := c.toNat_lt
  obtain ⟨U, hU⟩ : ∃ U, rGo d (f + 1) inn .val p = U := ⟨_, rfl⟩
  rw [hU]
  rw [rGo_val_cons hx] at hU
  clear h hx
  rw [if_neg (by rw [hc]; decide), if_neg (by rw [hc]; decide), if_pos hc, if_pos hin] at hU
  subst hc
  have HU := hid hU
  have hib : ((inn : Int) == (d : Int)) = true := by rw [hin]; simp
  clear hU hin
  go_enter Tryz.func45, Tryz.ntmps45
  go_wp2_with fail
  refine Calls.mono HB.out ?_
  rintro x w2 ⟨rfl, hC⟩
  have hI2 : SC B w0 w2 l (123 :: q) inn d (.slice a its.length cap) its 0 false false := hC
  clear hC
  obtain ⟨hkk, hg⟩ := suf_get hI2.suf
  have k0 := blk_cell hI2.blk (show (scCells l (l.length - (123 :: q).length) inn d (.slice a its.length cap) 0 false false)[0]? = some (.string (ofL l)) from rfl)
  have k1 := blk_cell hI2.blk (show (scCells l (l.length - (123 :: q).length) inn d (.slice a its.length cap) 0 false false)[1]? = some (.int .i64 ((l.length - (123 :: q).length : Nat) : Int)) from rfl)
  have hgc : (ofL l)[l.length - (123 :: q).length]'(by rw [hsz]; exact hkk) = 123 := (ofL_get l _ _).trans hg
  have HI2 := hid hI2
  have k2 := blk_cell hI2.blk (show (scCells l (l.length - (123 :: q).length) inn d (.slice a its.length cap) 0 false false)[2]? = some (.int .i64 (inn : Int)) from rfl)
  have k3 := blk_cell hI2.blk (show (scCells l (l.length - (123 :: q).length) inn d (.slice a its.length cap) 0 false false)[3]? = some (.int .i64 (d : Int)) from rfl)
  have hFl := hid (fun n => fails_any B w0 (w2.drewN n) l (123 :: q) inn d (.slice a its.length cap) its 0 4 false false (hI2.drewN n))
  generalize l.length - (123 :: q).length = ps at *
  clear hg hI2
  go_wp2
  go_quiet (fail)
  go_wp2
  go_quiet (fail)
  go_wp2_with fail
  refine Calls.mono (hFl.out _) ?_
  rintro x w3 ⟨rfl, hC⟩
  have HC := hid hC
  clear hC
  go_wp2
  go_ret
  rw [← HU.out]
  exact ⟨rfl, _, [], by rw [List.append_nil]; exact HC.out⟩
set_option maxRecDepth 100000 in
set_option maxHeartbeats 40000000 in
theorem value_nest_obj (B : Nat) (w0 w : World) (l p q : List UInt8) (c : UInt8) (f inn d : Nat) (vi : Value) (its : List It) (hl : l.length ≤ 1800000) (hil : its.length ≤ 10000000) (_hd : d ≤ 1000) (h : SC B w0 w l p inn d vi its 0 false false) (hx : skipB p = c :: q) (hc : c = 123) (hin : inn ≠ d) (hid1 : inn ≤ 1000)
    (hV : ∀ (w' : World) (vi' : Value), SC B w0 w' l q (inn + 1) d vi' (its ++ [⟨0, 0, 0, []⟩]) 0 false false → Calls Tryz.prog 71 #[.pointer (some ⟨B, 0, none⟩)] w' (NPost B w0 l (inn + 1) d (its ++ [⟨0, 0, 0, []⟩]) (rGo d f (inn + 1) .pairs q))) :
    Calls Tryz.prog 45 #[.pointer (some ⟨B, 0, none⟩)] w (IPost B w0 l inn d its (rGo d (f + 1) inn .val p)) := by
  obtain ⟨a, n, cap, rfl⟩ := row_shape3 h.oi
  obtain rfl := slice_len h.oi
  have HB := hid (blanks_any B w0 w l p inn d _ its 0 false false (by omega) h)
  rw [hx] at HB
  have hsz := ofL_size l
  have hcl : c.toNat < 256 := c.toNat_lt
  obtain ⟨U, hU⟩ : ∃ U, rGo d (f + 1) inn .val p = U := ⟨_, rfl⟩
  rw [hU]
  rw [rGo_val_cons hx] at hU
  clear h hx
  rw [if_neg (by rw [hc]; decide), if_neg (by rw [hc]; decide), if_pos hc, if_neg hin] at hU
  subst hc
  have HU := hid hU
  have HV := hid hV
  have hib : ((inn : Int) == (d : Int)) = false := beq_eq_false_iff_ne.2 (by omega)
  obtain ⟨i0, hi, hz0, hz1, hz2⟩ := info_parts Tryz.info59
  clear hU hin hV
  go_enter Tryz.func45, Tryz.ntmps45
  go_wp2_with fail
  refine Calls.mono HB.out ?_
  rintro x w2 ⟨rfl, hC⟩
  have hI2 : SC B w0 w2 l (123 :: q) inn d (.slice a its.length cap) its 0 false false := hC
  clear hC
  obtain ⟨hkk, hg⟩ := suf_get hI2.suf
  have k0 := blk_cell hI2.blk (show (scCells l (l.length - (123 :: q).length) inn d (.slice a its.length cap) 0 false false)[0]? = some (.string (ofL l)) from rfl)
  have k1 := blk_cell hI2.blk (show (scCells l (l.length - (123 :: q).length) inn d (.slice a its.length cap) 0 false false)[1]? = some (.int .i64 ((l.length - (123 :: q).length : Nat) : Int)) from rfl)
  have hgc : (ofL l)[l.length - (123 :: q).length]'(by rw [hsz]; exact hkk) = 123 := (ofL_get l _ _).trans hg
  have HI2 := hid hI2
  have k2 := blk_cell hI2.blk (show (scCells l (l.length - (123 :: q).length) inn d (.slice a its.length cap) 0 false false)[2]? = some (.int .i64 (inn : Int)) from rfl)
  have k3 := blk_cell hI2.blk (show (scCells l (l.length - (123 :: q).length) inn d (.slice a its.length cap) 0 false false)[3]? = some (.int .i64 (d : Int)) from rfl)
  have k4 := blk_cell hI2.blk (show (scCells l (l.length - (123 :: q).length) inn d (.slice a its.length cap) 0 false false)[4]? = some (.slice a its.length cap) from rfl)
  have f1 := blk_free (j := 1) hI2.blk
  have f2 := blk_free (j := 2) hI2.blk
  have f4 := blk_free (j := 4) hI2.blk
  have HS2 := hid (fun n => (hI2.drewN n).step.cell 2 (.int .i64 ((inn : Int) + 1)) (p' := q) (inn' := inn + 1) (e' := 0) (en' := false) (la' := false) (suf_tail hI2.suf) rfl)
  have HZ := hid (fun n => (show (((w2.drewN n).setCell ⟨B, 1, none⟩ (.int .i64 ((l.length - (123 :: q).length : Nat) + 1 : Int))).setCell ⟨B, 2, none⟩ (.int .i64 ((inn : Int) + 1))).heap.size = w2.heap.size by rw [size_setC, size_setC]; rfl))
  generalize l.length - (123 :: q).length = ps at *
  clear hg hI2
  go_wp2
  go_quiet (fail)
  go_wp2
  go_quiet (fail)
  go_wp2_with (first
    | (at_builtin; refine wpList_append_d _ rfl _ _ 52 rfl 59 i0 (.agg #[.int .i64 0, .int .i64 0, .int .u64 0, .string ⟨#[]⟩]) 4 40 Tryz.underlying52 hi hz0 hz1 hz2 rfl (by decide) _ _ _ rfl ((HS2.out _).oi.alloc _) ⟨_, 0, none⟩ 1 1 (itCells ⟨0, 0, 0, []⟩) rfl rfl ?c1 ?c2 ?c3 ?c4 ?_)
    | fail)
  case c1 => exact four_at _ _ _ _ _ _ _ (HZ.out _)
  case c2 => intro u hu; simp [itCells] at hu; rcases hu with rfl | rfl | rfl | rfl <;> rfl
  case c3 => unfold maxLen; omega
  case c4 => omega
  intro v' w1 hown' hgrow hnew
  obtain ⟨a', n', cap', rfl⟩ := row_shape3 hown'
  obtain ⟨hh1, hR⟩ := (HS2.out _).growI ⟨0, 0, 0, []⟩ hown' hgrow (fun g hg => by rw [HZ.out]; exact hnew g hg)
  have q4 := blk_cell hh1 (show (scCells l (l.length - q.length) (inn + 1) d (.slice a its.length cap) 0 false false)[4]? = some (.slice a its.length cap) from rfl)
  have p4 := blk_free (j := 4) hh1
  have HQ := hid (HV.out _ _ hR)
  clear hown' hgrow hnew hh1 hR k0 k1 k2 k3 k4 f1 f2 f4
  go_wp2_with fail
  refine Calls.mono HQ.out ?_
  intro x w3 hp
  obtain ⟨m, b, q3, vi3, more, e, en, la, rfl, hC, hF⟩ := npost_nest 6 hp
  have hlen3 : (its ++ (⟨0, 0, 0, []⟩ : It) :: more).length = its.length + more.length + 1 := by simp; omega
  obtain ⟨a3, n3, cap3, rfl⟩ := row_shape3 hC.oi
  obtain rfl := slice_len hC.oi
  obtain ⟨g, rfl⟩ := row_some hC.oi (by rw [hlen3]; omega)
  have hth : w3.there g (its.length * 4) 4 := row_there hC.oi (by rw [hlen3]; omega)
  have hSI : SC B w0 (w3.setCells g (its.length * 4) [.int .i64 6, .int .i64 (m : Int), .int .u64 0, .string (ofL [])]) l q3 (inn + 1) d (.slice (some ⟨g, 0, none⟩) (its ++ (⟨0, 0, 0, []⟩ : It) :: more).length cap3) (its ++ (⟨6, m, 0, []⟩ : It) :: more) e en la := hC.setItem (y := ⟨6, m, 0, []⟩) (its.length * 4) rfl
  have j2 := blk_cell hSI.blk (show (scCells l (l.length - q3.length) (inn + 1) d (.slice (some ⟨g, 0, none⟩) (its ++ (⟨0, 0, 0, []⟩ : It) :: more).length cap3) e en la)[2]? = some (.int .i64 ((inn : Int) + 1)) from rfl)
  have j2f := blk_free (j := 2) hSI.blk
  have hfin := hid (hF _ _ (hSI.cell 2 (.int .i64 (inn : Int)) (p' := q3) (inn' := inn) (e' := e) (en' := en) (la' := la) hSI.suf rfl))
  rw [HU.out] at hfin
  have k4 := blk_cell hC.blk (show (scCells l (l.length - q3.length) (inn + 1) d (.slice (some ⟨g, 0, none⟩) (its ++ (⟨0, 0, 0, []⟩ : It) :: more).length cap3) e en la)[4]? = some (.slice (some ⟨g, 0, none⟩) (its ++ (⟨0, 0, 0, []⟩ : It) :: more).length cap3) from rfl)
  rw [hlen3] at k4
  have hlt : its.length < its.length + more.length + 1 := by omega
  have hsz59 : (Tryz.prog.info? 59).map (·.size) = some 4 := by kernel_rfl
  clear hC hF hlen3 hp hSI
  go_wp2_with (first | (refine wpList_store_mid rfl 59 _ _ rfl g (its.length * 4) #[.int .i64 (6 : Nat), .int .i64 (m : Int), .int .u64 (0 : Nat), .string (ofL [])] ?s1 ?s2 ?t1 ?t2 ?t3 ?_) | fail)
  case s1 => rfl
  case s2 => rfl
  case t1 => exact hth
  case t2 => exact hsz59
  case t3 => exact Array.all_eq_true_iff_forall_mem.2 (fun v hv => by simp at hv; rcases hv with rfl | rfl | rfl | rfl <;> rfl)
  go_ret
  exact hfin.out
end Go.Proofs.YtmkkibaacclhnaaGreat
