/-
  A step of the walk, the part named Pu. No theorem of the row.
-/
import Derived.Test.YtmkkibaacclhnaaGreatPrs
import Derived.Test.YtmkkibaacclhnaaGreatPt
namespace Go.Proofs.YtmkkibaacclhnaaGreat
open Go.RowKit

set_option maxRecDepth 100000 in
set_option maxHeartbeats 8000000 in
theorem between0 (B : Nat) (vi vo vt vm : Value) (s : Ps) (m k : Nat) (c : UInt8) (w : World) (h : PR B w vi vo vt vm s) (hq : Nn vt vm) (hok : PsOk s m k) (hm : m ≤ 10000000) (hst : s.st = 0) :
    Calls Tryz.prog 44 #[.pointer (some ⟨B, 0, none⟩), .int .u8 (c.toNat : Int)] w (PDone B s.came (own B vi vo vt vm) w (psBegin s c)) := by
  have hu := And.intro hq hm
  clear hu
  have H := hid (PC.start h)
  have HP := hid h
  have f4 := blk_free (j := 4) h.blk
  have k4 := blk_cell h.blk (show (psCells s vi vo vt vm)[4]? = some (.int .i64 (s.st : Int)) from rfl)
  rw [hst] at k4
  have ht0 := hok.tok (by omega)
  have hil := hok.c.iln
  have hoo := hok.c.oln
  have hd2 := hok.c.dep2
  have hs := beginValue_any B vi vo vt vm s c w h hq ht0 (by omega) (by omega)
  clear h hok ht0 hst
  cases hr : psBegin s c with
  | error n =>
    rw [hr] at hs
    have HQ := hid hs
    clear hs hr
    go_enter Tryz.func44, Tryz.ntmps44
    go_wp2_with fail
    refine Calls.mono HQ.out ?_
    rintro e w2 ⟨rfl, hF⟩
    exact ⟨rfl, rfl, hF⟩
  | ok s' =>
    rw [hr] at hs
    have HQ := hid hs
    clear hs hr
    go_enter Tryz.func44, Tryz.ntmps44
    go_wp2_with fail
    refine Calls.mono HQ.out ?_
    rintro e w2 ⟨rfl, hp⟩
    have HR := hid hp
    clear hp
    go_wp2
    go_end0
    exact ⟨rfl, HR.out⟩
set_option maxRecDepth 100000 in
set_option maxHeartbeats 8000000 in
theorem between1a (B : Nat) (vi vo vt vm : Value) (s : Ps) (m k : Nat) (c : UInt8) (w : World) (h : PR B w vi vo vt vm s) (hq : Nn vt vm) (hok : PsOk s m k) (hm : m ≤ 10000000) (hst : s.st = 1) (hc93 : c ≠ 93) :
    Calls Tryz.prog 44 #[.pointer (some ⟨B, 0, none⟩), .int .u8 (c.toNat : Int)] w (PDone B s.came (own B vi vo vt vm) w (psBegin s c)) := by
  have hu := And.intro hq hm
  clear hu
  have H := hid (PC.start h)
  have HP := hid h
  have f4 := blk_free (j := 4) h.blk
  have k4 := blk_cell h.blk (show (psCells s vi vo vt vm)[4]? = some (.int .i64 (s.st : Int)) from rfl)
  rw [hst] at k4
  have ht0 := hok.tok (by omega)
  have hil := hok.c.iln
  have hoo := hok.c.oln
  have hd2 := hok.c.dep2
  have q93 : ((c.toNat : Int) == 93) = false := beq_eq_false_iff_ne.2 (by have := toNat_neP hc93; simp at this; omega)
  have hs := beginValue_any B vi vo vt vm s c w h hq ht0 (by omega) (by omega)
  clear h hok ht0 hst hc93
  cases hr : psBegin s c with
  | error n =>
    rw [hr] at hs
    have HQ := hid hs
    clear hs hr
    go_enter Tryz.func44, Tryz.ntmps44
    go_wp2_with fail
    refine Calls.mono HQ.out ?_
    rintro e w2 ⟨rfl, hF⟩
    exact ⟨rfl, rfl, hF⟩
  | ok s' =>
    rw [hr] at hs
    have HQ := hid hs
    clear hs hr
    go_enter Tryz.func44, Tryz.ntmps44
    go_wp2_with fail
    refine Calls.mono HQ.out ?_
    rintro e w2 ⟨rfl, hp⟩
    have HR := hid hp
    clear hp
    go_wp2
    go_end0
    exact ⟨rfl, HR.out⟩
set_option maxRecDepth 100000 in
set_option maxHeartbeats 8000000 in
theorem between1b (B : Nat) (vi vo vt vm : Value) (s : Ps) (m k : Nat) (c : UInt8) (w : World) (h : PR B w vi vo vt vm s) (hq : Nn vt vm) (hok : PsOk s m k) (hm : m ≤ 10000000) (hst : s.st = 1) (hc93 : c = 93) :
    Calls Tryz.prog 44 #[.pointer (some ⟨B, 0, none⟩), .int .u8 (c.toNat : Int)] w (PDone B s.came (own B vi vo vt vm) w (.ok (psEndInner s))) := by
  have hu := And.intro hq hm
  clear hu
  have H := hid (PC.start h)
  have HP := hid h
  have f4 := blk_free (j := 4) h.blk
  have k4 := blk_cell h.blk (show (psCells s vi vo vt vm)[4]? = some (.int .i64 (s.st : Int)) from rfl)
  rw [hst] at k4
  have ht0 := hok.tok (by omega)
  have hil := hok.c.iln
  have hoo := hok.c.oln
  have hd2 := hok.c.dep2
  have q93 : ((c.toNat : Int) == 93) = true := by rw [hc93]; rfl
  obtain ⟨pre, i, ho⟩ : ∃ pre i, s.opn = pre ++ [i] := by
    rcases List.eq_nil_or_concat s.opn with h0 | ⟨pre, i, h1⟩
    · exact absurd h0 (hok.o13 (by omega))
    · exact ⟨pre, i, by rw [h1, List.concat_eq_append]⟩
  have HQ := hid (endInner_any B vi vo vt vm s pre i w h hq ho (hok.c.ok hm) (by omega) (by rw [ho] at hoo; simp at hoo; omega))
  clear h hok ht0 hst ho hc93
  go_enter Tryz.func44, Tryz.ntmps44
  go_wp2_with fail
  refine Calls.mono HQ.out ?_
  rintro e w2 ⟨rfl, hp⟩
  have HR := hid hp
  clear hp
  go_wp2
  go_end0
  exact ⟨rfl, HR.out⟩
set_option maxRecDepth 100000 in
set_option maxHeartbeats 8000000 in
theorem between3b (B : Nat) (vi vo vt vm : Value) (s : Ps) (m k : Nat) (c : UInt8) (w : World) (h : PR B w vi vo vt vm s) (hq : Nn vt vm) (hok : PsOk s m k) (hm : m ≤ 10000000) (hst : s.st = 3) (hc125 : c = 125) :
    Calls Tryz.prog 44 #[.pointer (some ⟨B, 0, none⟩), .int .u8 (c.toNat : Int)] w (PDone B s.came (own B vi vo vt vm) w (.ok (psEndInner s))) := by
  have hu := And.intro hq hm
  clear hu
  have H := hid (PC.start h)
  have HP := hid h
  have f4 := blk_free (j := 4) h.blk
  have k4 := blk_cell h.blk (show (psCells s vi vo vt vm)[4]? = some (.int .i64 (s.st : Int)) from rfl)
  rw [hst] at k4
  have ht0 := hok.tok (by omega)
  have hil := hok.c.iln
  have hoo := hok.c.oln
  have hd2 := hok.c.dep2
  have q125 : ((c.toNat : Int) == 125) = true := by rw [hc125]; rfl
  obtain ⟨pre, i, ho⟩ : ∃ pre i, s.opn = pre ++ [i] := by
    rcases List.eq_nil_or_concat s.opn with h0 | ⟨pre, i, h1⟩
    · exact absurd h0 (hok.o13 (by omega))
    · exact ⟨pre, i, by rw [h1, List.concat_eq_append]⟩
  have HQ := hid (endInner_any B vi vo vt vm s pre i w h hq ho (hok.c.ok hm) (by omega) (by rw [ho] at hoo; simp at hoo; omega))
  clear h hok ht0 hst ho hc125
  go_enter Tryz.func44, Tryz.ntmps44
  go_wp2_with fail
  refine Calls.mono HQ.out ?_
  rintro e w2 ⟨rfl, hp⟩
  have HR := hid hp
  clear hp
  go_wp2
  go_end0
  exact ⟨rfl, HR.out⟩
set_option maxRecDepth 100000 in
set_option maxHeartbeats 8000000 in
theorem between2a (B : Nat) (vi vo vt vm : Value) (s : Ps) (m k : Nat) (c : UInt8) (w : World) (h : PR B w vi vo vt vm s) (hq : Nn vt vm) (hok : PsOk s m k) (hm : m ≤ 10000000) (hst : s.st = 2) (hc34 : c = 34) :
    Calls Tryz.prog 44 #[.pointer (some ⟨B, 0, none⟩), .int .u8 (c.toNat : Int)] w (PDone B s.came (own B vi vo vt vm) w (.ok (psSt s 8))) := by
  have hu := And.intro hq hm
  clear hu
  have H := hid (PC.start h)
  have HP := hid h
  have f4 := blk_free (j := 4) h.blk
  have k4 := blk_cell h.blk (show (psCells s vi vo vt vm)[4]? = some (.int .i64 (s.st : Int)) from rfl)
  rw [hst] at k4
  have ht0 := hok.tok (by omega)
  have hil := hok.c.iln
  have hoo := hok.c.oln
  have hd2 := hok.c.dep2
  have q34 : ((c.toNat : Int) == 34) = true := by rw [hc34]; rfl
  have HR := hid (H.out.cell 4 (.int .i64 8) (psSt s 8) rfl rfl rfl rfl rfl)
  clear h hok ht0 hst hc34
  go_enter Tryz.func44, Tryz.ntmps44
  go_wp2
  go_end0
  exact ⟨rfl, _, _, _, _, HR.out, hq.q _⟩
set_option maxRecDepth 100000 in
set_option maxHeartbeats 8000000 in
theorem between2b (B : Nat) (vi vo vt vm : Value) (s : Ps) (m k : Nat) (c : UInt8) (w : World) (h : PR B w vi vo vt vm s) (hq : Nn vt vm) (hok : PsOk s m k) (hm : m ≤ 10000000) (hst : s.st = 2) (hc34 : c ≠ 34) :
    Calls Tryz.prog 44 #[.pointer (some ⟨B, 0, none⟩), .int .u8 (c.toNat : Int)] w (PDone B s.came (own B vi vo vt vm) w (.error 3)) := by
  have hu := And.intro hq hm
  clear hu
  have H := hid (PC.start h)
  have HP := hid h
  have f4 := blk_free (j := 4) h.blk
  have k4 := blk_cell h.blk (show (psCells s vi vo vt vm)[4]? = some (.int .i64 (s.st : Int)) from rfl)
  rw [hst] at k4
  have ht0 := hok.tok (by omega)
  have hil := hok.c.iln
  have hoo := hok.c.oln
  have hd2 := hok.c.dep2
  have q34 : ((c.toNat : Int) == 34) = false := beq_eq_false_iff_ne.2 (by have := toNat_neP hc34; simp at this; omega)
  clear h hok ht0 hst hc34
  go_enter Tryz.func44, Tryz.ntmps44
  go_wp2
  exact ⟨rfl, rfl, PErr.same HP.out (Fr.refl _ _)⟩
set_option maxRecDepth 100000 in
set_option maxHeartbeats 8000000 in
theorem between3a (B : Nat) (vi vo vt vm : Value) (s : Ps) (m k : Nat) (c : UInt8) (w : World) (h : PR B w vi vo vt vm s) (hq : Nn vt vm) (hok : PsOk s m k) (hm : m ≤ 10000000) (hst : s.st = 3) (hc125 : c ≠ 125) (hc34 : c = 34) :
    Calls Tryz.prog 44 #[.pointer (some ⟨B, 0, none⟩), .int .u8 (c.toNat : Int)] w (PDone B s.came (own B vi vo vt vm) w (.ok (psSt s 8))) := by
  have hu := And.intro hq hm
  clear hu
  have H := hid (PC.start h)
  have HP := hid h
  have f4 := blk_free (j := 4) h.blk
  have k4 := blk_cell h.blk (show (psCells s vi vo vt vm)[4]? = some (.int .i64 (s.st : Int)) from rfl)
  rw [hst] at k4
  have ht0 := hok.tok (by omega)
  have hil := hok.c.iln
  have hoo := hok.c.oln
  have hd2 := hok.c.dep2
  have q125 : ((c.toNat : Int) == 125) = false := beq_eq_false_iff_ne.2 (by have := toNat_neP hc125; simp at this; omega)
  have q34 : ((c.toNat : Int) == 34) = true := by rw [hc34]; rfl
  have HR := hid (H.out.cell 4 (.int .i64 8) (psSt s 8) rfl rfl rfl rfl rfl)
  clear h hok ht0 hst hc34 hc125
  go_enter Tryz.func44, Tryz.ntmps44
  go_wp2
  go_end0
  exact ⟨rfl, _, _, _, _, HR.out, hq.q _⟩
set_option maxRecDepth 100000 in
set_option maxHeartbeats 8000000 in
theorem between3c (B : Nat) (vi vo vt vm : Value) (s : Ps) (m k : Nat) (c : UInt8) (w : World) (h : PR B w vi vo vt vm s) (hq : Nn vt vm) (hok : PsOk s m k) (hm : m ≤ 10000000) (hst : s.st = 3) (hc125 : c ≠ 125) (hc34 : c ≠ 34) :
    Calls Tryz.prog 44 #[.pointer (some ⟨B, 0, none⟩), .int .u8 (c.toNat : Int)] w (PDone B s.came (own B vi vo vt vm) w (.error 3)) := by
  have hu := And.intro hq hm
  clear hu
  have H := hid (PC.start h)
  have HP := hid h
  have f4 := blk_free (j := 4) h.blk
  have k4 := blk_cell h.blk (show (psCells s vi vo vt vm)[4]? = some (.int .i64 (s.st : Int)) from rfl)
  rw [hst] at k4
  have ht0 := hok.tok (by omega)
  have hil := hok.c.iln
  have hoo := hok.c.oln
  have hd2 := hok.c.dep2
  have q125 : ((c.toNat : Int) == 125) = false := beq_eq_false_iff_ne.2 (by have := toNat_neP hc125; simp at this; omega)
  have q34 : ((c.toNat : Int) == 34) = false := beq_eq_false_iff_ne.2 (by have := toNat_neP hc34; simp at this; omega)
  clear h hok ht0 hst hc34 hc125
  go_enter Tryz.func44, Tryz.ntmps44
  go_wp2
  exact ⟨rfl, rfl, PErr.same HP.out (Fr.refl _ _)⟩
set_option maxRecDepth 100000 in
set_option maxHeartbeats 8000000 in
theorem between4a (B : Nat) (vi vo vt vm : Value) (s : Ps) (m k : Nat) (c : UInt8) (w : World) (h : PR B w vi vo vt vm s) (hq : Nn vt vm) (hok : PsOk s m k) (hm : m ≤ 10000000) (hst : s.st = 4) (hc58 : c = 58) :
    Calls Tryz.prog 44 #[.pointer (some ⟨B, 0, none⟩), .int .u8 (c.toNat : Int)] w (PDone B s.came (own B vi vo vt vm) w (.ok (psSt s 0))) := by
  have hu := And.intro hq hm
  clear hu
  have H := hid (PC.start h)
  have HP := hid h
  have f4 := blk_free (j := 4) h.blk
  have k4 := blk_cell h.blk (show (psCells s vi vo vt vm)[4]? = some (.int .i64 (s.st : Int)) from rfl)
  rw [hst] at k4
  have ht0 := hok.tok (by omega)
  have hil := hok.c.iln
  have hoo := hok.c.oln
  have hd2 := hok.c.dep2
  have q58 : ((c.toNat : Int) == 58) = true := by rw [hc58]; rfl
  have HR := hid (H.out.cell 4 (.int .i64 0) (psSt s 0) rfl rfl rfl rfl rfl)
  clear h hok ht0 hst hc58
  go_enter Tryz.func44, Tryz.ntmps44
  go_wp2
  go_end0
  exact ⟨rfl, _, _, _, _, HR.out, hq.q _⟩
set_option maxRecDepth 100000 in
set_option maxHeartbeats 8000000 in
theorem between4b (B : Nat) (vi vo vt vm : Value) (s : Ps) (m k : Nat) (c : UInt8) (w : World) (h : PR B w vi vo vt vm s) (hq : Nn vt vm) (hok : PsOk s m k) (hm : m ≤ 10000000) (hst : s.st = 4) (hc58 : c ≠ 58) :
    Calls Tryz.prog 44 #[.pointer (some ⟨B, 0, none⟩), .int .u8 (c.toNat : Int)] w (PDone B s.came (own B vi vo vt vm) w (.error 3)) := by
  have hu := And.intro hq hm
  clear hu
  have H := hid (PC.start h)
  have HP := hid h
  have f4 := blk_free (j := 4) h.blk
  have k4 := blk_cell h.blk (show (psCells s vi vo vt vm)[4]? = some (.int .i64 (s.st : Int)) from rfl)
  rw [hst] at k4
  have ht0 := hok.tok (by omega)
  have hil := hok.c.iln
  have hoo := hok.c.oln
  have hd2 := hok.c.dep2
  have q58 : ((c.toNat : Int) == 58) = false := beq_eq_false_iff_ne.2 (by have := toNat_neP hc58; simp at this; omega)
  clear h hok ht0 hst hc58
  go_enter Tryz.func44, Tryz.ntmps44
  go_wp2
  exact ⟨rfl, rfl, PErr.same HP.out (Fr.refl _ _)⟩
set_option maxRecDepth 100000 in
set_option maxHeartbeats 8000000 in
theorem between5a (B : Nat) (vi vo vt vm : Value) (s : Ps) (m k : Nat) (c : UInt8) (w : World) (h : PR B w vi vo vt vm s) (hq : Nn vt vm) (hok : PsOk s m k) (hm : m ≤ 10000000) (hst : s.st = 5) (ho : s.opn = []) :
    Calls Tryz.prog 44 #[.pointer (some ⟨B, 0, none⟩), .int .u8 (c.toNat : Int)] w (PDone B s.came (own B vi vo vt vm) w (.error 3)) := by
  have hu := And.intro hq hm
  clear hu
  have H := hid (PC.start h)
  have HP := hid h
  have f4 := blk_free (j := 4) h.blk
  have k4 := blk_cell h.blk (show (psCells s vi vo vt vm)[4]? = some (.int .i64 (s.st : Int)) from rfl)
  rw [hst] at k4
  have ht0 := hok.tok (by omega)
  have hil := hok.c.iln
  have hoo := hok.c.oln
  have hd2 := hok.c.dep2
  have hoo2 := h.oo
  rw [ho] at hoo2
  obtain ⟨a, n, cap, rfl⟩ := row_shape3 hoo2
  have hn : n = 0 := by
    rcases hoo2.2 with ⟨h, _⟩ | ⟨_, _, _, h, _⟩
    · simp at h; exact h.2.1
    · simp at h; exact h.2.1
  subst hn
  have k6 := blk_cell h.blk (show (psCells s vi (.slice a 0 cap) vt vm)[6]? = some (.slice a 0 cap) from rfl)
  clear hoo2
  clear h hok ht0 hst ho
  go_enter Tryz.func44, Tryz.ntmps44
  go_wp2
  exact ⟨rfl, rfl, PErr.same HP.out (Fr.refl _ _)⟩
set_option maxRecDepth 100000 in
set_option maxHeartbeats 8000000 in
theorem between5b (B : Nat) (vi vo vt vm : Value) (s : Ps) (m k : Nat) (c : UInt8) (w : World) (h : PR B w vi vo vt vm s) (hq : Nn vt vm) (hok : PsOk s m k) (hm : m ≤ 10000000) (hst : s.st = 5) (ho : s.opn ≠ []) :
    Calls Tryz.prog 44 #[.pointer (some ⟨B, 0, none⟩), .int .u8 (c.toNat : Int)] w (PDone B s.came (own B vi vo vt vm) w (psBehind s c)) := by
  have hu := And.intro hq hm
  clear hu
  have H := hid (PC.start h)
  have HP := hid h
  have f4 := blk_free (j := 4) h.blk
  have k4 := blk_cell h.blk (show (psCells s vi vo vt vm)[4]? = some (.int .i64 (s.st : Int)) from rfl)
  rw [hst] at k4
  have ht0 := hok.tok (by omega)
  have hil := hok.c.iln
  have hoo := hok.c.oln
  have hd2 := hok.c.dep2
  obtain ⟨pre, i, ho1⟩ : ∃ pre i, s.opn = pre ++ [i] := by
    rcases List.eq_nil_or_concat s.opn with h0 | ⟨pre, i, h1⟩
    · exact absurd h0 ho
    · exact ⟨pre, i, by rw [h1, List.concat_eq_append]⟩
  obtain ⟨x, hx, _⟩ := hok.c.opn i (by rw [ho1]; simp)
  have hol : pre.length + 1 = s.opn.length := by rw [ho1]; simp
  have hs := takeBehind_any B vi vo vt vm s pre i x c w h hq ho1 hx (hok.c.ok hm) (by omega) (by omega)
  have hoo2 := h.oo
  rw [← hol] at hoo2
  obtain ⟨go, co, rfl⟩ := row_pos hoo2 (by omega)
  have k6 := blk_cell h.blk (show (psCells s vi (.slice (some ⟨go, 0, none⟩) (pre.length + 1) co) vt vm)[6]? = some (.slice (some ⟨go, 0, none⟩) (pre.length + 1) co) from rfl)
  have hpos : 0 < pre.length + 1 := by omega
  clear h hok ht0 hst ho ho1 hx hol hoo2
  generalize pre.length + 1 = M at *
  cases hr : psBehind s c with
  | error n =>
    rw [hr] at hs
    have HQ := hid hs
    clear hs hr
    go_enter Tryz.func44, Tryz.ntmps44
    go_wp2_with fail
    refine Calls.mono HQ.out ?_
    rintro e w2 ⟨rfl, hF⟩
    exact ⟨rfl, rfl, hF⟩
  | ok s' =>
    rw [hr] at hs
    have HQ := hid hs
    clear hs hr
    go_enter Tryz.func44, Tryz.ntmps44
    go_wp2_with fail
    refine Calls.mono HQ.out ?_
    rintro e w2 ⟨rfl, hp⟩
    have HR := hid hp
    clear hp
    go_wp2
    go_end0
    exact ⟨rfl, HR.out⟩
theorem takeBetween_any (B : Nat) (vi vo vt vm : Value) (s : Ps) (m k : Nat) (c : UInt8) (w : World) (h : PR B w vi vo vt vm s) (hq : Nn vt vm) (hok : PsOk s m k) (hm : m ≤ 10000000) (hst : s.st ≤ 5) :
    Calls Tryz.prog 44 #[.pointer (some ⟨B, 0, none⟩), .int .u8 (c.toNat : Int)] w (PDone B s.came (own B vi vo vt vm) w (psBetween s c)) := by
  unfold psBetween
  rcases (show s.st = 0 ∨ s.st = 1 ∨ s.st = 2 ∨ s.st = 3 ∨ s.st = 4 ∨ s.st = 5 by omega) with h0 | h0 | h0 | h0 | h0 | h0
  · rw [if_neg (by omega), if_pos (.inl h0)]
    exact between0 B vi vo vt vm s m k c w h hq hok hm h0
  · by_cases hc : c = 93
    · rw [if_pos (.inl ⟨h0, hc⟩)]
      exact between1b B vi vo vt vm s m k c w h hq hok hm h0 hc
    · rw [if_neg (by rintro (⟨_, h⟩ | ⟨h, _⟩); exact hc h; omega), if_pos (.inr h0)]
      exact between1a B vi vo vt vm s m k c w h hq hok hm h0 hc
  · rw [if_neg (by omega), if_neg (by omega)]
    by_cases hc : c = 34
    · rw [if_pos ⟨.inl h0, hc⟩]
      exact between2a B vi vo vt vm s m k c w h hq hok hm h0 hc
    · rw [if_neg (fun h => hc h.2), if_neg (by omega), if_neg (by omega)]
      exact between2b B vi vo vt vm s m k c w h hq hok hm h0 hc
  · by_cases hc : c = 125
    · rw [if_pos (.inr ⟨h0, hc⟩)]
      exact between3b B vi vo vt vm s m k c w h hq hok hm h0 hc
    · rw [if_neg (by rintro (⟨h, _⟩ | ⟨_, h⟩); omega; exact hc h), if_neg (by omega)]
      by_cases hc2 : c = 34
      · rw [if_pos ⟨.inr h0, hc2⟩]
        exact between3a B vi vo vt vm s m k c w h hq hok hm h0 hc hc2
      · rw [if_neg (fun h => hc2 h.2), if_neg (by omega), if_neg (by omega)]
        exact between3c B vi vo vt vm s m k c w h hq hok hm h0 hc hc2
  · rw [if_neg (by omega), if_neg (by omega), if_neg (by omega)]
    by_cases hc : c = 58
    · rw [if_pos ⟨h0, hc⟩]
      exact between4a B vi vo vt vm s m k c w h hq hok hm h0 hc
    · rw [if_neg (fun h => hc h.2), if_neg (by omega)]
      exact between4b B vi vo vt vm s m k c w h hq hok hm h0 hc
  · rw [if_neg (by omega), if_neg (by omega), if_neg (by omega), if_neg (by omega)]
    by_cases ho : s.opn = []
    · rw [if_neg (fun h => h.2 ho)]
      exact between5a B vi vo vt vm s m k c w h hq hok hm h0 ho
    · rw [if_pos ⟨h0, ho⟩]
      exact between5b B vi vo vt vm s m k c w h hq hok hm h0 ho
end Go.Proofs.YtmkkibaacclhnaaGreat
