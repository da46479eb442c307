/-
  A step of the walk, the part named Pe. No theorem of the row.
-/
import Derived.Test.YtmkkibaacclhnaaGreatDoorPa
import Derived.Test.YtmkkibaacclhnaaGreatDoorCde
import Derived.Lib.BitFns
namespace Go.Proofs.YtmkkibaacclhnaaGreatDoor
open Go.RowKit

/-- an item -/
structure It where
  k : Nat
  n : Nat
  b : Nat
  s : List UInt8
/-- a parser, as far as it has come -/
structure Ps where
  depth : Nat
  came : Nat
  st : Nat
  items : List It
  opn : List Nat
  word : List UInt8
  tok : Tk
  tx : Tr
/-- the number that is nearest -/
noncomputable def nearF (D : List Nat) (P : Int) : Nat := open Classical in if h : ∃ r, NearV D P r then h.choose else 0
/-- what a token says in its end: bits, and an error -/
noncomputable def tokV (t : Tk) : Nat × Nat := open Classical in if Ends t.st then parseV t.neg (nearF t.D t.at) else (0, 3)
/-- nothing that goes on with it brings it back -/
def tokLost (t : Tk) : Bool := decide (7 ≤ t.st) && !t.pn && oor t.D t.at
def blank (c : UInt8) : Bool := decide (c = 32 ∨ c = 10 ∨ c = 13 ∨ c = 9)
/-- one more in what a value stands in -/
def bump (items : List It) : List Nat → List It
  | [] => items
  | i :: r => match r with
    | [] => items.modify i (fun x => ⟨x.k, x.n + 1, x.b, x.s⟩)
    | _ :: _ => bump items r
def psEndValue (s : Ps) : Ps := ⟨s.depth, s.came, 5, bump s.items s.opn, s.opn, s.word, s.tok, s.tx⟩
def psEndInner (s : Ps) : Ps := psEndValue ⟨s.depth, s.came, s.st, s.items, s.opn.dropLast, s.word, s.tok, s.tx⟩
def psWord (s : Ps) (k : Nat) (rest : List UInt8) : Ps := ⟨s.depth, s.came, 6, s.items ++ [⟨k, 0, 0, []⟩], s.opn, rest, s.tok, s.tx⟩
def psNest (s : Ps) (k st : Nat) : Except Nat Ps :=
  if s.opn.length = s.depth then .error 4 else .ok ⟨s.depth, s.came, st, s.items ++ [⟨k, 0, 0, []⟩], s.opn ++ [s.items.length], s.word, s.tok, s.tx⟩
def psSt (s : Ps) (st : Nat) : Ps := ⟨s.depth, s.came, st, s.items, s.opn, s.word, s.tok, s.tx⟩
def psBegin (s : Ps) (c : UInt8) : Except Nat Ps :=
  if c = 110 then .ok (psWord s 0 [117, 108, 108])
  else if c = 102 then .ok (psWord s 1 [97, 108, 115, 101])
  else if c = 116 then .ok (psWord s 2 [114, 117, 101])
  else if c = 34 then .ok (psSt s 9)
  else if c = 91 then psNest s 5 1
  else if c = 123 then psNest s 6 3
  else match nxt s.tok c with
    | none => .error 3
    | some t => .ok ⟨s.depth, s.came, 7, s.items, s.opn, s.word, t, s.tx⟩
/-- does what the last value stands in hold values, not pairs? -/
def psArr (s : Ps) : Bool := match s.opn.getLast? with
  | none => false
  | some i => match s.items[i]? with
    | none => false
    | some x => decide (x.k = 5)
def psBehind (s : Ps) (c : UInt8) : Except Nat Ps :=
  if psArr s = true ∧ c = 44 then .ok (psSt s 0)
  else if psArr s = false ∧ c = 44 then .ok (psSt s 2)
  else if (psArr s = true ∧ c = 93) ∨ (psArr s = false ∧ c = 125) then .ok (psEndInner s)
  else .error 3
def psBetween (s : Ps) (c : UInt8) : Except Nat Ps :=
  if (s.st = 1 ∧ c = 93) ∨ (s.st = 3 ∧ c = 125) then .ok (psEndInner s)
  else if s.st = 0 ∨ s.st = 1 then psBegin s c
  else if (s.st = 2 ∨ s.st = 3) ∧ c = 34 then .ok (psSt s 8)
  else if s.st = 4 ∧ c = 58 then .ok (psSt s 0)
  else if s.st = 5 ∧ s.opn ≠ [] then psBehind s c
  else .error 3
def psOut (s : Ps) (c : UInt8) : Except Nat Ps := if blank c = true then .ok s else psBetween s c
def psWordOn (s : Ps) (c : UInt8) : Except Nat Ps :=
  match s.word with
  | [] => .error 3
  | x :: r => if c ≠ x then .error 3 else if r = [] then .ok (psEndValue ⟨s.depth, s.came, s.st, s.items, s.opn, r, s.tok, s.tx⟩) else .ok ⟨s.depth, s.came, s.st, s.items, s.opn, r, s.tok, s.tx⟩
/-- the token has ended -/
noncomputable def psEndTok (s : Ps) : Except Nat Ps :=
  if (tokV s.tok).2 ≠ 0 then .error (tokV s.tok).2 else .ok (psEndValue ⟨s.depth, s.came, s.st, s.items ++ [⟨3, 0, (tokV s.tok).1, []⟩], s.opn, s.word, t0, s.tx⟩)
noncomputable def psTokOn (s : Ps) (c : UInt8) : Except Nat Ps :=
  match nxt s.tok c with
  | some t => if tokLost t = true then .error 6 else .ok ⟨s.depth, s.came, s.st, s.items, s.opn, s.word, t, s.tx⟩
  | none => match psEndTok s with
    | .error n => .error n
    | .ok s' => psOut s' c
def psTextOn (s : Ps) (c : UInt8) : Except Nat Ps :=
  match trNext s.tx c with
  | .error n => .error n
  | .ok (t, false) => .ok ⟨s.depth, s.came, s.st, s.items, s.opn, s.word, s.tok, t⟩
  | .ok (t, true) =>
    if s.st = 8 then .ok ⟨s.depth, s.came, 4, s.items ++ [⟨4, 0, 0, t.made⟩], s.opn, s.word, s.tok, tr0⟩
    else .ok (psEndValue ⟨s.depth, s.came, s.st, s.items ++ [⟨4, 0, 0, t.made⟩], s.opn, s.word, s.tok, tr0⟩)
/-- one byte more -/
noncomputable def psTake (s : Ps) (c : UInt8) : Except Nat Ps :=
  if s.st = 6 then psWordOn s c
  else if s.st = 7 then psTokOn s c
  else if s.st = 8 ∨ s.st = 9 then psTextOn s c
  else psOut s c
def psMore (s : Ps) : Ps := ⟨s.depth, s.came + 1, s.st, s.items, s.opn, s.word, s.tok, s.tx⟩
/-- bytes, one behind the other; of a wrong one its error and its place -/
noncomputable def psRun (s : Ps) : List UInt8 → Except (Nat × Nat) Ps
  | [] => .ok s
  | c :: l => match psTake s c with
    | .error n => .error (n, s.came)
    | .ok s' => psRun (psMore s') l
end Go.Proofs.YtmkkibaacclhnaaGreatDoor

namespace Go.Proofs.YtmkkibaacclhnaaGreatDoor
open Go.RowKit

/-- bytes as they lie in memory -/
def us (l : List UInt8) : List Value := l.map (fun c => Value.int .u8 ((c.toNat : Nat) : Int))
theorem us_append (a b : List UInt8) : us (a ++ b) = us a ++ us b := by simp [us]
end Go.Proofs.YtmkkibaacclhnaaGreatDoor

namespace Go.Proofs.YtmkkibaacclhnaaGreatDoor
open Go.RowKit

theorem byte_cast {n : Nat} (h : n < 256) : ((UInt8.ofNat n).toNat : Int) = (n : Int) := by rw [UInt8.toNat_ofNat_of_lt' h]
/-- what is left when a row has grown -/
theorem rune_fin {v v' : Value} {l e : List UInt8} {w w2 : World} {o : Obj} {k : Nat} {xs : List Value} (hown : w2.ownsRow 0 5 1 v' (l.length + k) (us l ++ xs)) (hx : us e = xs) (hk : e.length = k) (hg : (w.alloc o).grownBy w2 v.ownBlock) (hn : ∀ g', v'.ownBlock = some g' → v.ownBlock = some g' ∨ w.heap.size + 1 ≤ g') :
    w2.ownsRow 0 5 1 v' (l ++ e).length (us (l ++ e)) ∧ Fr (fun i => v.ownBlock = some i) w w2 ∧ (∀ g', v'.ownBlock = some g' → v.ownBlock = some g' ∨ w.heap.size ≤ g') := by
  subst hx; subst hk
  rw [us_append, List.length_append]
  exact ⟨hown, ((Fr.refl _ w).alloc _).grown hg (fun k hk => .inl hk), fun g hg' => (hn g hg').imp id (fun h => by omega)⟩
set_option maxRecDepth 100000 in
set_option maxHeartbeats 4000000 in
theorem rune_1 (v : Value) (l : List UInt8) (r : Nat) (w : World) (ho : w.ownsRow 0 5 1 v l.length (us l)) (hl : l.length ≤ 100000000000) (h1 : 0 ≤ r) (h2 : r < 128) :
    Calls Tryz.prog 172 #[v, .int .i32 (r : Int)] w fun e w' => ∃ v', e = .returned v' ∧ w'.ownsRow 0 5 1 v' (l ++ encR r).length (us (l ++ encR r)) ∧ Fr (fun i => v.ownBlock = some i) w w' ∧ (∀ g', v'.ownBlock = some g' → v.ownBlock = some g' ∨ w.heap.size ≤ g') := by
  have hE : encR r = [UInt8.ofNat r] := by unfold encR; rw [if_pos h2]
  have hx : us (encR r) = [.int .u8 (r : Int)] := by
    rw [hE]
    simp only [us, List.map_cons, List.map_nil]
    rw [byte_cast (by omega)]
  have hk : (encR r).length = 1 := by rw [hE]; rfl
  obtain ⟨R, hR⟩ : ∃ R : Int, (r : Int) = R := ⟨_, rfl⟩
  rw [hR] at hx ⊢
  have HX := hid hx
  have HK := hid hk
  have g1 : 0 ≤ R := by omega
  have g2 : R < 128 := by omega
  clear hE hx hk h1 h2 hR
  obtain ⟨i0, hi, hz0, hz1, hz2⟩ := info_parts Tryz.info5
  go_enter Tryz.func172, Tryz.ntmps172
  go_wp2_with (first
    | (at_builtin; refine wpList_append_d _ rfl _ _ 65 rfl 5 i0 (.int .u8 0) 1 1 Tryz.underlying65 hi hz0 hz1 hz2 rfl (by decide) _ _ _ rfl (ho.alloc _) ⟨w.heap.size, 0, none⟩ 1 1 [.int .u8 R] rfl rfl ?c1 ?c2 ?c3 ?c4 ?_)
    | go_in)
  case c1 =>
    intro j u hj
    match j, hj with
    | 0, hj => simp at hj; subst hj; simp [Addr.add]
    | (j + 1), hj => simp at hj
  case c2 => intro u hu; simp at hu; rcases hu with rfl <;> rfl
  case c3 => unfold maxLen; omega
  case c4 => omega
  intro v' w2 hown' hgrow hnew
  have HFIN := hid (rune_fin hown' HX.out HK.out hgrow hnew)
  clear hown' hgrow hnew ho
  go_wp2
  go_ret
  exact ⟨_, rfl, HFIN.out⟩
set_option maxRecDepth 100000 in
set_option maxHeartbeats 4000000 in
theorem rune_2 (v : Value) (l : List UInt8) (r : Nat) (w : World) (ho : w.ownsRow 0 5 1 v l.length (us l)) (hl : l.length ≤ 100000000000) (h1 : 128 ≤ r) (h2 : r < 2048) :
    Calls Tryz.prog 172 #[v, .int .i32 (r : Int)] w fun e w' => ∃ v', e = .returned v' ∧ w'.ownsRow 0 5 1 v' (l ++ encR r).length (us (l ++ encR r)) ∧ Fr (fun i => v.ownBlock = some i) w w' ∧ (∀ g', v'.ownBlock = some g' → v.ownBlock = some g' ∨ w.heap.size ≤ g') := by
  have hE : encR r = [UInt8.ofNat (192 + r / 64), UInt8.ofNat (128 + r % 64)] := by unfold encR; rw [if_neg (show ¬ r < 128 by omega), if_pos h2]
  have hx : us (encR r) = [.int .u8 (192 + (r : Int) / 64), .int .u8 (128 + (r : Int) % 64)] := by
    rw [hE]
    simp only [us, List.map_cons, List.map_nil]
    rw [byte_cast (by omega), byte_cast (by omega)]; simp only [Int.natCast_add, Int.natCast_ediv, Int.natCast_emod]; rfl
  have hk : (encR r).length = 2 := by rw [hE]; rfl
  obtain ⟨R, hR⟩ : ∃ R : Int, (r : Int) = R := ⟨_, rfl⟩
  rw [hR] at hx ⊢
  have HX := hid hx
  have HK := hid hk
  have g1 : 128 ≤ R := by omega
  have g2 : R < 2048 := by omega
  clear hE hx hk h1 h2 hR
  obtain ⟨i0, hi, hz0, hz1, hz2⟩ := info_parts Tryz.info5
  go_enter Tryz.func172, Tryz.ntmps172
  go_wp2_with (first
    | (at_builtin; refine wpList_append_d _ rfl _ _ 65 rfl 5 i0 (.int .u8 0) 1 1 Tryz.underlying65 hi hz0 hz1 hz2 rfl (by decide) _ _ _ rfl (ho.alloc _) ⟨w.heap.size, 0, none⟩ 2 2 [.int .u8 (192 + R / 64), .int .u8 (128 + R % 64)] rfl rfl ?c1 ?c2 ?c3 ?c4 ?_)
    | go_in)
  case c1 =>
    intro j u hj
    match j, hj with
    | 0, hj => simp at hj; subst hj; simp [Addr.add]
    | 1, hj => simp at hj; subst hj; simp [Addr.add]
    | (j + 2), hj => simp at hj
  case c2 => intro u hu; simp at hu; rcases hu with rfl | rfl <;> rfl
  case c3 => unfold maxLen; omega
  case c4 => omega
  intro v' w2 hown' hgrow hnew
  have HFIN := hid (rune_fin hown' HX.out HK.out hgrow hnew)
  clear hown' hgrow hnew ho
  go_wp2
  go_ret
  exact ⟨_, rfl, HFIN.out⟩
set_option maxRecDepth 100000 in
set_option maxHeartbeats 4000000 in
theorem rune_3 (v : Value) (l : List UInt8) (r : Nat) (w : World) (ho : w.ownsRow 0 5 1 v l.length (us l)) (hl : l.length ≤ 100000000000) (h1 : 2048 ≤ r) (h2 : r < 55296) :
    Calls Tryz.prog 172 #[v, .int .i32 (r : Int)] w fun e w' => ∃ v', e = .returned v' ∧ w'.ownsRow 0 5 1 v' (l ++ encR r).length (us (l ++ encR r)) ∧ Fr (fun i => v.ownBlock = some i) w w' ∧ (∀ g', v'.ownBlock = some g' → v.ownBlock = some g' ∨ w.heap.size ≤ g') := by
  have hE : encR r = [UInt8.ofNat (224 + r / 4096), UInt8.ofNat (128 + r / 64 % 64), UInt8.ofNat (128 + r % 64)] := by unfold encR; rw [if_neg (show ¬ r < 128 by omega), if_neg (show ¬ r < 2048 by omega), if_pos (show r < 65536 by omega)]
  have hx : us (encR r) = [.int .u8 (224 + (r : Int) / 4096), .int .u8 (128 + (r : Int) / 64 % 64), .int .u8 (128 + (r : Int) % 64)] := by
    rw [hE]
    simp only [us, List.map_cons, List.map_nil]
    rw [byte_cast (by omega), byte_cast (by omega), byte_cast (by omega)]; simp only [Int.natCast_add, Int.natCast_ediv, Int.natCast_emod]; rfl
  have hk : (encR r).length = 3 := by rw [hE]; rfl
  obtain ⟨R, hR⟩ : ∃ R : Int, (r : Int) = R := ⟨_, rfl⟩
  rw [hR] at hx ⊢
  have HX := hid hx
  have HK := hid hk
  have g1 : 2048 ≤ R := by omega
  have g2 : R < 55296 := by omega
  clear hE hx hk h1 h2 hR
  obtain ⟨i0, hi, hz0, hz1, hz2⟩ := info_parts Tryz.info5
  go_enter Tryz.func172, Tryz.ntmps172
  go_wp2_with (first
    | (at_builtin; refine wpList_append_d _ rfl _ _ 65 rfl 5 i0 (.int .u8 0) 1 1 Tryz.underlying65 hi hz0 hz1 hz2 rfl (by decide) _ _ _ rfl (ho.alloc _) ⟨w.heap.size, 0, none⟩ 3 3 [.int .u8 (224 + R / 4096), .int .u8 (128 + R / 64 % 64), .int .u8 (128 + R % 64)] rfl rfl ?c1 ?c2 ?c3 ?c4 ?_)
    | go_in)
  case c1 =>
    intro j u hj
    match j, hj with
    | 0, hj => simp at hj; subst hj; simp [Addr.add]
    | 1, hj => simp at hj; subst hj; simp [Addr.add]
    | 2, hj => simp at hj; subst hj; simp [Addr.add]
    | (j + 3), hj => simp at hj
  case c2 => intro u hu; simp at hu; rcases hu with rfl | rfl | rfl <;> rfl
  case c3 => unfold maxLen; omega
  case c4 => omega
  intro v' w2 hown' hgrow hnew
  have HFIN := hid (rune_fin hown' HX.out HK.out hgrow hnew)
  clear hown' hgrow hnew ho
  go_wp2
  go_ret
  exact ⟨_, rfl, HFIN.out⟩
set_option maxRecDepth 100000 in
set_option maxHeartbeats 4000000 in
theorem rune_4 (v : Value) (l : List UInt8) (r : Nat) (w : World) (ho : w.ownsRow 0 5 1 v l.length (us l)) (hl : l.length ≤ 100000000000) (h1 : 57344 ≤ r) (h2 : r < 65536) :
    Calls Tryz.prog 172 #[v, .int .i32 (r : Int)] w fun e w' => ∃ v', e = .returned v' ∧ w'.ownsRow 0 5 1 v' (l ++ encR r).length (us (l ++ encR r)) ∧ Fr (fun i => v.ownBlock = some i) w w' ∧ (∀ g', v'.ownBlock = some g' → v.ownBlock = some g' ∨ w.heap.size ≤ g') := by
  have hE : encR r = [UInt8.ofNat (224 + r / 4096), UInt8.ofNat (128 + r / 64 % 64), UInt8.ofNat (128 + r % 64)] := by unfold encR; rw [if_neg (show ¬ r < 128 by omega), if_neg (show ¬ r < 2048 by omega), if_pos h2]
  have hx : us (encR r) = [.int .u8 (224 + (r : Int) / 4096), .int .u8 (128 + (r : Int) / 64 % 64), .int .u8 (128 + (r : Int) % 64)] := by
    rw [hE]
    simp only [us, List.map_cons, List.map_nil]
    rw [byte_cast (by omega), byte_cast (by omega), byte_cast (by omega)]; simp only [Int.natCast_add, Int.natCast_ediv, Int.natCast_emod]; rfl
  have hk : (encR r).length = 3 := by rw [hE]; rfl
  obtain ⟨R, hR⟩ : ∃ R : Int, (r : Int) = R := ⟨_, rfl⟩
  rw [hR] at hx ⊢
  have HX := hid hx
  have HK := hid hk
  have g1 : 57344 ≤ R := by omega
  have g2 : R < 65536 := by omega
  clear hE hx hk h1 h2 hR
  obtain ⟨i0, hi, hz0, hz1, hz2⟩ := info_parts Tryz.info5
  go_enter Tryz.func172, Tryz.ntmps172
  go_wp2_with (first
    | (at_builtin; refine wpList_append_d _ rfl _ _ 65 rfl 5 i0 (.int .u8 0) 1 1 Tryz.underlying65 hi hz0 hz1 hz2 rfl (by decide) _ _ _ rfl (ho.alloc _) ⟨w.heap.size, 0, none⟩ 3 3 [.int .u8 (224 + R / 4096), .int .u8 (128 + R / 64 % 64), .int .u8 (128 + R % 64)] rfl rfl ?c1 ?c2 ?c3 ?c4 ?_)
    | go_in)
  case c1 =>
    intro j u hj
    match j, hj with
    | 0, hj => simp at hj; subst hj; simp [Addr.add]
    | 1, hj => simp at hj; subst hj; simp [Addr.add]
    | 2, hj => simp at hj; subst hj; simp [Addr.add]
    | (j + 3), hj => simp at hj
  case c2 => intro u hu; simp at hu; rcases hu with rfl | rfl | rfl <;> rfl
  case c3 => unfold maxLen; omega
  case c4 => omega
  intro v' w2 hown' hgrow hnew
  have HFIN := hid (rune_fin hown' HX.out HK.out hgrow hnew)
  clear hown' hgrow hnew ho
  go_wp2
  go_ret
  exact ⟨_, rfl, HFIN.out⟩
set_option maxRecDepth 100000 in
set_option maxHeartbeats 4000000 in
theorem rune_5 (v : Value) (l : List UInt8) (r : Nat) (w : World) (ho : w.ownsRow 0 5 1 v l.length (us l)) (hl : l.length ≤ 100000000000) (h1 : 65536 ≤ r) (h2 : r ≤ 1114111) :
    Calls Tryz.prog 172 #[v, .int .i32 (r : Int)] w fun e w' => ∃ v', e = .returned v' ∧ w'.ownsRow 0 5 1 v' (l ++ encR r).length (us (l ++ encR r)) ∧ Fr (fun i => v.ownBlock = some i) w w' ∧ (∀ g', v'.ownBlock = some g' → v.ownBlock = some g' ∨ w.heap.size ≤ g') := by
  have hE : encR r = [UInt8.ofNat (240 + r / 262144), UInt8.ofNat (128 + r / 4096 % 64), UInt8.ofNat (128 + r / 64 % 64), UInt8.ofNat (128 + r % 64)] := by unfold encR; rw [if_neg (show ¬ r < 128 by omega), if_neg (show ¬ r < 2048 by omega), if_neg (show ¬ r < 65536 by omega)]
  have hx : us (encR r) = [.int .u8 (240 + (r : Int) / 262144), .int .u8 (128 + (r : Int) / 4096 % 64), .int .u8 (128 + (r : Int) / 64 % 64), .int .u8 (128 + (r : Int) % 64)] := by
    rw [hE]
    simp only [us, List.map_cons, List.map_nil]
    rw [byte_cast (by omega), byte_cast (by omega), byte_cast (by omega), byte_cast (by omega)]; simp only [Int.natCast_add, Int.natCast_ediv, Int.natCast_emod]; rfl
  have hk : (encR r).length = 4 := by rw [hE]; rfl
  obtain ⟨R, hR⟩ : ∃ R : Int, (r : Int) = R := ⟨_, rfl⟩
  rw [hR] at hx ⊢
  have HX := hid hx
  have HK := hid hk
  have g1 : 65536 ≤ R := by omega
  have g2 : R ≤ 1114111 := by omega
  clear hE hx hk h1 h2 hR
  obtain ⟨i0, hi, hz0, hz1, hz2⟩ := info_parts Tryz.info5
  go_enter Tryz.func172, Tryz.ntmps172
  go_wp2_with (first
    | (at_builtin; refine wpList_append_d _ rfl _ _ 65 rfl 5 i0 (.int .u8 0) 1 1 Tryz.underlying65 hi hz0 hz1 hz2 rfl (by decide) _ _ _ rfl (ho.alloc _) ⟨w.heap.size, 0, none⟩ 4 4 [.int .u8 (240 + R / 262144), .int .u8 (128 + R / 4096 % 64), .int .u8 (128 + R / 64 % 64), .int .u8 (128 + R % 64)] rfl rfl ?c1 ?c2 ?c3 ?c4 ?_)
    | go_in)
  case c1 =>
    intro j u hj
    match j, hj with
    | 0, hj => simp at hj; subst hj; simp [Addr.add]
    | 1, hj => simp at hj; subst hj; simp [Addr.add]
    | 2, hj => simp at hj; subst hj; simp [Addr.add]
    | 3, hj => simp at hj; subst hj; simp [Addr.add]
    | (j + 4), hj => simp at hj
  case c2 => intro u hu; simp at hu; rcases hu with rfl | rfl | rfl | rfl <;> rfl
  case c3 => unfold maxLen; omega
  case c4 => omega
  intro v' w2 hown' hgrow hnew
  have HFIN := hid (rune_fin hown' HX.out HK.out hgrow hnew)
  clear hown' hgrow hnew ho
  go_wp2
  go_ret
  exact ⟨_, rfl, HFIN.out⟩
theorem rune_any (v : Value) (l : List UInt8) (r : Nat) (w : World) (ho : w.ownsRow 0 5 1 v l.length (us l)) (hl : l.length ≤ 100000000000) (hr : r < 55296 ∨ (57344 ≤ r ∧ r ≤ 1114111)) :
    Calls Tryz.prog 172 #[v, .int .i32 (r : Int)] w fun e w' => ∃ v', e = .returned v' ∧ w'.ownsRow 0 5 1 v' (l ++ encR r).length (us (l ++ encR r)) ∧ Fr (fun i => v.ownBlock = some i) w w' ∧ (∀ g', v'.ownBlock = some g' → v.ownBlock = some g' ∨ w.heap.size ≤ g') := by
  by_cases h1 : r < 128
  · exact rune_1 v l r w ho hl (Nat.zero_le _) h1
  by_cases h2 : r < 2048
  · exact rune_2 v l r w ho hl (by omega) h2
  by_cases h3 : r < 55296
  · exact rune_3 v l r w ho hl (by omega) h3
  by_cases h4 : r < 65536
  · exact rune_4 v l r w ho hl (by omega) h4
  · exact rune_5 v l r w ho hl (by omega) (by omega)
end Go.Proofs.YtmkkibaacclhnaaGreatDoor

namespace Go.Proofs.YtmkkibaacclhnaaGreatDoor
open Go.RowKit

/-- the cells of a reader within a block -/
structure TrIn (cs : Array Value) (o : Nat) (v : Value) (t : Tr) : Prop where
  c0 : cs[o]? = some (.int .i64 (t.st : Int))
  c1 : cs[o + 1]? = some v
  c2 : cs[o + 2]? = some (.int .i64 (t.lack : Int))
  c3 : cs[o + 3]? = some (.int .u8 (t.lo : Int))
  c4 : cs[o + 4]? = some (.int .u8 (t.hi : Int))
  c5 : cs[o + 5]? = some (.int .i64 (t.dg : Int))
  c6 : cs[o + 6]? = some (.int .i32 (t.code : Int))
  c7 : cs[o + 7]? = some (.int .i32 (t.high : Int))
theorem TrIn.size {cs : Array Value} {o : Nat} {v : Value} {t : Tr} (h : TrIn cs o v t) : o + 7 < cs.size := by
  rcases Nat.lt_or_ge (o + 7) cs.size with h1 | h1
  · exact h1
  · have := h.c7
    rw [Array.getElem?_eq_none h1] at this
    cases this
theorem get_setP {cs : Array Value} {j : Nat} {v : Value} (h : j < cs.size) : (cs.setIfInBounds j v)[j]? = some v := by
  rw [Array.getElem?_setIfInBounds, if_pos rfl, if_pos h]
/-- outside of a reader's cells nothing turns -/
def ApartR (o : Nat) (cs cs' : Array Value) : Prop := cs'.size = cs.size ∧ ∀ j, j < o ∨ o + 7 < j → cs'[j]? = cs[j]?
theorem ApartR.refl (o : Nat) (cs : Array Value) : ApartR o cs cs := ⟨rfl, fun _ _ => rfl⟩
theorem ApartR.set {o : Nat} {cs cs' : Array Value} (h : ApartR o cs cs') (i : Nat) (hi : i ≤ 7) (v : Value) : ApartR o cs (cs'.setIfInBounds (o + i) v) :=
  ⟨by rw [Array.size_setIfInBounds]; exact h.1, fun j hj => by rw [set_get_ne (by omega)]; exact h.2 j hj⟩
/-- a reader in memory -/
def TrAt (base : Nat) (w : World) (B o T : Nat) (cs : Array Value) (v : Value) (t : Tr) : Prop :=
  w.heap[B]? = some (.cells cs T (0, 0)) ∧ TrIn cs o v t ∧ w.ownsRow base 5 1 v t.made.length (us t.made)
/-- what has become of a reader's memory -/
structure TrR (base B o T : Nat) (cs0 : Array Value) (v0 : Value) (w0 : World) (cs : Array Value) (v : Value) (W : World) (t : Tr) : Prop where
  is : TrAt base W B o T cs v t
  ap : ApartR o cs0 cs
  fr : Fr (fun i => i = B ∨ v0.ownBlock = some i) w0 W
  ow : ∀ g, v.ownBlock = some g → v0.ownBlock = some g ∨ w0.heap.size ≤ g
theorem TrR.start {base B o T : Nat} {cs : Array Value} {v : Value} {w : World} {t : Tr} (h : TrAt base w B o T cs v t) : TrR base B o T cs v w cs v w t := ⟨h, ApartR.refl _ _, Fr.refl _ _, fun _ h => .inl h⟩
theorem TrR.s0 {base B o T : Nat} {cs0 cs : Array Value} {v0 v : Value} {w0 W : World} {t : Tr} (hT : T ≠ 5) (h : TrR base B o T cs0 v0 w0 cs v W t) (x : Nat) : TrR base B o T cs0 v0 w0 (cs.setIfInBounds (o) (.int .i64 (x : Int))) v (W.setCell ⟨B, o, none⟩ (.int .i64 (x : Int))) ⟨x, t.made, t.lack, t.lo, t.hi, t.dg, t.code, t.high⟩ := by
  obtain ⟨⟨a, b, c⟩, d, e, f⟩ := h
  have hs := b.size
  refine ⟨⟨heap_setCell_same W B (o) cs T _ a, ⟨get_setP (by omega), by rw [set_get_ne (by omega)]; exact b.c1, by rw [set_get_ne (by omega)]; exact b.c2, by rw [set_get_ne (by omega)]; exact b.c3, by rw [set_get_ne (by omega)]; exact b.c4, by rw [set_get_ne (by omega)]; exact b.c5, by rw [set_get_ne (by omega)]; exact b.c6, by rw [set_get_ne (by omega)]; exact b.c7⟩, ownsRow_setCell_other c (a := ⟨B, o, none⟩) (row_other c a hT) _⟩, d.set 0 (by omega) _, e.setCell (.inl (.inl rfl)) _, f⟩
theorem TrR.s2 {base B o T : Nat} {cs0 cs : Array Value} {v0 v : Value} {w0 W : World} {t : Tr} (hT : T ≠ 5) (h : TrR base B o T cs0 v0 w0 cs v W t) (x : Nat) : TrR base B o T cs0 v0 w0 (cs.setIfInBounds (o + 2) (.int .i64 (x : Int))) v (W.setCell ⟨B, o + 2, none⟩ (.int .i64 (x : Int))) ⟨t.st, t.made, x, t.lo, t.hi, t.dg, t.code, t.high⟩ := by
  obtain ⟨⟨a, b, c⟩, d, e, f⟩ := h
  have hs := b.size
  refine ⟨⟨heap_setCell_same W B (o + 2) cs T _ a, ⟨by rw [set_get_ne (by omega)]; exact b.c0, by rw [set_get_ne (by omega)]; exact b.c1, get_setP (by omega), by rw [set_get_ne (by omega)]; exact b.c3, by rw [set_get_ne (by omega)]; exact b.c4, by rw [set_get_ne (by omega)]; exact b.c5, by rw [set_get_ne (by omega)]; exact b.c6, by rw [set_get_ne (by omega)]; exact b.c7⟩, ownsRow_setCell_other c (a := ⟨B, o + 2, none⟩) (row_other c a hT) _⟩, d.set 2 (by omega) _, e.setCell (.inl (.inl rfl)) _, f⟩
theorem TrR.s3 {base B o T : Nat} {cs0 cs : Array Value} {v0 v : Value} {w0 W : World} {t : Tr} (hT : T ≠ 5) (h : TrR base B o T cs0 v0 w0 cs v W t) (x : Nat) : TrR base B o T cs0 v0 w0 (cs.setIfInBounds (o + 3) (.int .u8 (x : Int))) v (W.setCell ⟨B, o + 3, none⟩ (.int .u8 (x : Int))) ⟨t.st, t.made, t.lack, x, t.hi, t.dg, t.code, t.high⟩ := by
  obtain ⟨⟨a, b, c⟩, d, e, f⟩ := h
  have hs := b.size
  refine ⟨⟨heap_setCell_same W B (o + 3) cs T _ a, ⟨by rw [set_get_ne (by omega)]; exact b.c0, by rw [set_get_ne (by omega)]; exact b.c1, by rw [set_get_ne (by omega)]; exact b.c2, get_setP (by omega), by rw [set_get_ne (by omega)]; exact b.c4, by rw [set_get_ne (by omega)]; exact b.c5, by rw [set_get_ne (by omega)]; exact b.c6, by rw [set_get_ne (by omega)]; exact b.c7⟩, ownsRow_setCell_other c (a := ⟨B, o + 3, none⟩) (row_other c a hT) _⟩, d.set 3 (by omega) _, e.setCell (.inl (.inl rfl)) _, f⟩
theorem TrR.s4 {base B o T : Nat} {cs0 cs : Array Value} {v0 v : Value} {w0 W : World} {t : Tr} (hT : T ≠ 5) (h : TrR base B o T cs0 v0 w0 cs v W t) (x : Nat) : TrR base B o T cs0 v0 w0 (cs.setIfInBounds (o + 4) (.int .u8 (x : Int))) v (W.setCell ⟨B, o + 4, none⟩ (.int .u8 (x : Int))) ⟨t.st, t.made, t.lack, t.lo, x, t.dg, t.code, t.high⟩ := by
  obtain ⟨⟨a, b, c⟩, d, e, f⟩ := h
  have hs := b.size
  refine ⟨⟨heap_setCell_same W B (o + 4) cs T _ a, ⟨by rw [set_get_ne (by omega)]; exact b.c0, by rw [set_get_ne (by omega)]; exact b.c1, by rw [set_get_ne (by omega)]; exact b.c2, by rw [set_get_ne (by omega)]; exact b.c3, get_setP (by omega), by rw [set_get_ne (by omega)]; exact b.c5, by rw [set_get_ne (by omega)]; exact b.c6, by rw [set_get_ne (by omega)]; exact b.c7⟩, ownsRow_setCell_other c (a := ⟨B, o + 4, none⟩) (row_other c a hT) _⟩, d.set 4 (by omega) _, e.setCell (.inl (.inl rfl)) _, f⟩
theorem TrR.s5 {base B o T : Nat} {cs0 cs : Array Value} {v0 v : Value} {w0 W : World} {t : Tr} (hT : T ≠ 5) (h : TrR base B o T cs0 v0 w0 cs v W t) (x : Nat) : TrR base B o T cs0 v0 w0 (cs.setIfInBounds (o + 5) (.int .i64 (x : Int))) v (W.setCell ⟨B, o + 5, none⟩ (.int .i64 (x : Int))) ⟨t.st, t.made, t.lack, t.lo, t.hi, x, t.code, t.high⟩ := by
  obtain ⟨⟨a, b, c⟩, d, e, f⟩ := h
  have hs := b.size
  refine ⟨⟨heap_setCell_same W B (o + 5) cs T _ a, ⟨by rw [set_get_ne (by omega)]; exact b.c0, by rw [set_get_ne (by omega)]; exact b.c1, by rw [set_get_ne (by omega)]; exact b.c2, by rw [set_get_ne (by omega)]; exact b.c3, by rw [set_get_ne (by omega)]; exact b.c4, get_setP (by omega), by rw [set_get_ne (by omega)]; exact b.c6, by rw [set_get_ne (by omega)]; exact b.c7⟩, ownsRow_setCell_other c (a := ⟨B, o + 5, none⟩) (row_other c a hT) _⟩, d.set 5 (by omega) _, e.setCell (.inl (.inl rfl)) _, f⟩
theorem TrR.s6 {base B o T : Nat} {cs0 cs : Array Value} {v0 v : Value} {w0 W : World} {t : Tr} (hT : T ≠ 5) (h : TrR base B o T cs0 v0 w0 cs v W t) (x : Nat) : TrR base B o T cs0 v0 w0 (cs.setIfInBounds (o + 6) (.int .i32 (x : Int))) v (W.setCell ⟨B, o + 6, none⟩ (.int .i32 (x : Int))) ⟨t.st, t.made, t.lack, t.lo, t.hi, t.dg, x, t.high⟩ := by
  obtain ⟨⟨a, b, c⟩, d, e, f⟩ := h
  have hs := b.size
  refine ⟨⟨heap_setCell_same W B (o + 6) cs T _ a, ⟨by rw [set_get_ne (by omega)]; exact b.c0, by rw [set_get_ne (by omega)]; exact b.c1, by rw [set_get_ne (by omega)]; exact b.c2, by rw [set_get_ne (by omega)]; exact b.c3, by rw [set_get_ne (by omega)]; exact b.c4, by rw [set_get_ne (by omega)]; exact b.c5, get_setP (by omega), by rw [set_get_ne (by omega)]; exact b.c7⟩, ownsRow_setCell_other c (a := ⟨B, o + 6, none⟩) (row_other c a hT) _⟩, d.set 6 (by omega) _, e.setCell (.inl (.inl rfl)) _, f⟩
theorem TrR.s7 {base B o T : Nat} {cs0 cs : Array Value} {v0 v : Value} {w0 W : World} {t : Tr} (hT : T ≠ 5) (h : TrR base B o T cs0 v0 w0 cs v W t) (x : Nat) : TrR base B o T cs0 v0 w0 (cs.setIfInBounds (o + 7) (.int .i32 (x : Int))) v (W.setCell ⟨B, o + 7, none⟩ (.int .i32 (x : Int))) ⟨t.st, t.made, t.lack, t.lo, t.hi, t.dg, t.code, x⟩ := by
  obtain ⟨⟨a, b, c⟩, d, e, f⟩ := h
  have hs := b.size
  refine ⟨⟨heap_setCell_same W B (o + 7) cs T _ a, ⟨by rw [set_get_ne (by omega)]; exact b.c0, by rw [set_get_ne (by omega)]; exact b.c1, by rw [set_get_ne (by omega)]; exact b.c2, by rw [set_get_ne (by omega)]; exact b.c3, by rw [set_get_ne (by omega)]; exact b.c4, by rw [set_get_ne (by omega)]; exact b.c5, by rw [set_get_ne (by omega)]; exact b.c6, get_setP (by omega)⟩, ownsRow_setCell_other c (a := ⟨B, o + 7, none⟩) (row_other c a hT) _⟩, d.set 7 (by omega) _, e.setCell (.inl (.inl rfl)) _, f⟩
def TrPost (base B o T : Nat) (cs : Array Value) (v : Value) (w w' : World) (t' : Tr) : Prop := ∃ cs' v', TrR base B o T cs v w cs' v' w' t'
/-- of a reader that gave up only the place is of use -/
def TrErr (B o T : Nat) (cs : Array Value) (v : Value) (w w' : World) : Prop := ∃ cs', w'.heap[B]? = some (.cells cs' T (0, 0)) ∧ ApartR o cs cs' ∧ Fr (fun i => i = B ∨ v.ownBlock = some i) w w'
end Go.Proofs.YtmkkibaacclhnaaGreatDoor
