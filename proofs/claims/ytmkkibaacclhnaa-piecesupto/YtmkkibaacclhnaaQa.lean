/-
  A step of the walk of the parser, the part named Qa: a byte, whatever the state. No theorem of the row.
-/
import Derived.Test.YtmkkibaacclhnaaPyz
namespace Go.Proofs.Ytmkkibaacclhnaa
open Go.RowKit

set_option maxRecDepth 100000 in
set_option maxHeartbeats 8000000 in
theorem take6 (B : Nat) (S : Nat → Prop) (vi vo vt vm : Value) (s : Ps) (r : Except Nat Ps) (c : UInt8) (w : World) (h : PR B w vi vo vt vm s) (hst : s.st = 6) (hs : Calls Try.prog 65 #[.pointer (some ⟨B, 0, none⟩), .int .u8 (c.toNat : Int)] w (PDone B s.came S w r)) :
    Calls Try.prog 42 #[.pointer (some ⟨B, 0, none⟩), .int .u8 (c.toNat : Int)] w (PDone B s.came S w r) := by
  have k4 := blk_cell h.blk (show (psCells s vi vo vt vm)[4]? = some (.int .i64 (s.st : Int)) from rfl)
  rw [hst] at k4
  clear h hst
  cases r with
  | error n =>
    have HQ := hid hs
    clear hs
    go_enter Try.func42, Try.ntmps42
    go_wp2_with fail
    refine Calls.mono HQ.out ?_
    rintro e w2 ⟨rfl, hF⟩
    exact ⟨rfl, rfl, hF⟩
  | ok s' =>
    have HQ := hid hs
    clear hs
    go_enter Try.func42, Try.ntmps42
    go_wp2_with fail
    refine Calls.mono HQ.out ?_
    rintro e w2 ⟨rfl, hp⟩
    have HR := hid hp
    clear hp
    go_wp2
    go_end0
    exact ⟨rfl, HR.out⟩
set_option maxRecDepth 100000 in
set_option maxHeartbeats 8000000 in
theorem take7 (B : Nat) (S : Nat → Prop) (vi vo vt vm : Value) (s : Ps) (r : Except Nat Ps) (c : UInt8) (w : World) (h : PR B w vi vo vt vm s) (hst : s.st = 7) (hs : Calls Try.prog 66 #[.pointer (some ⟨B, 0, none⟩), .int .u8 (c.toNat : Int)] w (PDone B s.came S w r)) :
    Calls Try.prog 42 #[.pointer (some ⟨B, 0, none⟩), .int .u8 (c.toNat : Int)] w (PDone B s.came S w r) := by
  have k4 := blk_cell h.blk (show (psCells s vi vo vt vm)[4]? = some (.int .i64 (s.st : Int)) from rfl)
  rw [hst] at k4
  clear h hst
  cases r with
  | error n =>
    have HQ := hid hs
    clear hs
    go_enter Try.func42, Try.ntmps42
    go_wp2_with fail
    refine Calls.mono HQ.out ?_
    rintro e w2 ⟨rfl, hF⟩
    exact ⟨rfl, rfl, hF⟩
  | ok s' =>
    have HQ := hid hs
    clear hs
    go_enter Try.func42, Try.ntmps42
    go_wp2_with fail
    refine Calls.mono HQ.out ?_
    rintro e w2 ⟨rfl, hp⟩
    have HR := hid hp
    clear hp
    go_wp2
    go_end0
    exact ⟨rfl, HR.out⟩
set_option maxRecDepth 100000 in
set_option maxHeartbeats 8000000 in
theorem take8 (B : Nat) (S : Nat → Prop) (vi vo vt vm : Value) (s : Ps) (r : Except Nat Ps) (c : UInt8) (w : World) (h : PR B w vi vo vt vm s) (hst : s.st = 8) (hs : Calls Try.prog 67 #[.pointer (some ⟨B, 0, none⟩), .int .u8 (c.toNat : Int)] w (PDone B s.came S w r)) :
    Calls Try.prog 42 #[.pointer (some ⟨B, 0, none⟩), .int .u8 (c.toNat : Int)] w (PDone B s.came S w r) := by
  have k4 := blk_cell h.blk (show (psCells s vi vo vt vm)[4]? = some (.int .i64 (s.st : Int)) from rfl)
  rw [hst] at k4
  clear h hst
  cases r with
  | error n =>
    have HQ := hid hs
    clear hs
    go_enter Try.func42, Try.ntmps42
    go_wp2_with fail
    refine Calls.mono HQ.out ?_
    rintro e w2 ⟨rfl, hF⟩
    exact ⟨rfl, rfl, hF⟩
  | ok s' =>
    have HQ := hid hs
    clear hs
    go_enter Try.func42, Try.ntmps42
    go_wp2_with fail
    refine Calls.mono HQ.out ?_
    rintro e w2 ⟨rfl, hp⟩
    have HR := hid hp
    clear hp
    go_wp2
    go_end0
    exact ⟨rfl, HR.out⟩
set_option maxRecDepth 100000 in
set_option maxHeartbeats 8000000 in
theorem take9 (B : Nat) (S : Nat → Prop) (vi vo vt vm : Value) (s : Ps) (r : Except Nat Ps) (c : UInt8) (w : World) (h : PR B w vi vo vt vm s) (hst : s.st = 9) (hs : Calls Try.prog 67 #[.pointer (some ⟨B, 0, none⟩), .int .u8 (c.toNat : Int)] w (PDone B s.came S w r)) :
    Calls Try.prog 42 #[.pointer (some ⟨B, 0, none⟩), .int .u8 (c.toNat : Int)] w (PDone B s.came S w r) := by
  have k4 := blk_cell h.blk (show (psCells s vi vo vt vm)[4]? = some (.int .i64 (s.st : Int)) from rfl)
  rw [hst] at k4
  clear h hst
  cases r with
  | error n =>
    have HQ := hid hs
    clear hs
    go_enter Try.func42, Try.ntmps42
    go_wp2_with fail
    refine Calls.mono HQ.out ?_
    rintro e w2 ⟨rfl, hF⟩
    exact ⟨rfl, rfl, hF⟩
  | ok s' =>
    have HQ := hid hs
    clear hs
    go_enter Try.func42, Try.ntmps42
    go_wp2_with fail
    refine Calls.mono HQ.out ?_
    rintro e w2 ⟨rfl, hp⟩
    have HR := hid hp
    clear hp
    go_wp2
    go_end0
    exact ⟨rfl, HR.out⟩

theorem take_any (B : Nat) (vi vo vt vm : Value) (s : Ps) (m k : Nat) (c : UInt8) (w : World) (h : PR B w vi vo vt vm s) (hq : Qv s vt vm) (hok : PsOk s m k) (hm : m ≤ 5000000) (hk : k ≤ 10000000) :
    Calls Try.prog 42 #[.pointer (some ⟨B, 0, none⟩), .int .u8 (c.toNat : Int)] w (PDone B s.came (own B vi vo vt vm) w (psTake s c)) := by
  unfold psTake
  by_cases h6 : s.st = 6
  · rw [if_pos h6]
    refine take6 B _ vi vo vt vm s _ c w h h6 ?_
    have hw := hok.wrd h6
    have hl := hok.c.wln
    have h1 := hok.c.iln
    have h2 := hok.c.oln
    cases hx : s.word with
    | nil => exact absurd hx hw
    | cons x r =>
      rw [hx] at hl
      simp at hl
      exact takeOfWord_any B vi vo vt vm s x r c w h ⟨hq.1 (by omega), hq.2 (by omega) (by omega)⟩ hx (by omega) (hok.c.ok (by omega)) (by omega) (by omega)
  rw [if_neg h6]
  by_cases h7 : s.st = 7
  · rw [if_pos h7]
    refine take7 B _ vi vo vt vm s _ c w h h7 ?_
    by_cases hb : beh s.tok.st c = 0
    · exact takeOfToken_behind B vi vo vt vm s m k c w h (hq.2 (by omega) (by omega)) hok hm hk h7 hb
    · exact takeOfToken_on B vi vo vt vm s m k c w h (hq.2 (by omega) (by omega)) hok hk h7 hb
  rw [if_neg h7]
  by_cases h8 : s.st = 8 ∨ s.st = 9
  · rw [if_pos h8]
    have hs := takeOfText_any B vi vo vt vm s m k c w h (hq.1 h7) h8 hok hm hk
    rcases h8 with h8 | h8
    · exact take8 B _ vi vo vt vm s _ c w h h8 hs
    · exact take9 B _ vi vo vt vm s _ c w h h8 hs
  · rw [if_neg h8]
    have := hok.st
    exact take_out B vi vo vt vm s m k c w h ⟨hq.1 h7, hq.2 (fun h => h8 (.inl h)) (fun h => h8 (.inr h))⟩ hok (by omega) (by omega)
end Go.Proofs.Ytmkkibaacclhnaa
