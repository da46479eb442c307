/-
  A step of the walk of the parser, the part named Pd: a character's bytes laid behind others. No theorem of the row.
-/
import Derived.Test.YtmkkibaacclhnaaPb
import Derived.Lib.BitFns
namespace Go.Proofs.Ytmkkibaacclhnaa
open Go.RowKit

theorem byte_cast {n : Nat} (h : n < 256) : ((UInt8.ofNat n).toNat : Int) = (n : Int) := by rw [UInt8.toNat_ofNat_of_lt' h]
/-- what is left when a row has grown -/
theorem rune_fin {v v' : Value} {l e : List UInt8} {w w2 : World} {o : Obj} {k : Nat} {xs : List Value} (hown : w2.ownsRow 0 5 1 v' (l.length + k) (us l ++ xs)) (hx : us e = xs) (hk : e.length = k) (hg : (w.alloc o).grownBy w2 v.ownBlock) (hn : ∀ g', v'.ownBlock = some g' → v.ownBlock = some g' ∨ w.heap.size + 1 ≤ g') :
    w2.ownsRow 0 5 1 v' (l ++ e).length (us (l ++ e)) ∧ Fr (fun i => v.ownBlock = some i) w w2 ∧ (∀ g', v'.ownBlock = some g' → v.ownBlock = some g' ∨ w.heap.size ≤ g') := by
  subst hx; subst hk
  rw [us_append, List.length_append]
  exact ⟨hown, ((Fr.refl _ w).alloc _).grown hg (fun k hk => .inl hk), fun g hg' => (hn g hg').imp id (fun h => by omega)⟩

set_option maxRecDepth 100000 in
set_option maxHeartbeats 4000000 in
theorem rune_1 (v : Value) (l : List UInt8) (r : Nat) (w : World) (ho : w.ownsRow 0 5 1 v l.length (us l)) (hl : l.length ≤ 100000000) (h1 : 0 ≤ r) (h2 : r < 128) :
    Calls Try.prog 134 #[v, .int .i32 (r : Int)] w fun e w' => ∃ v', e = .returned v' ∧ w'.ownsRow 0 5 1 v' (l ++ encR r).length (us (l ++ encR r)) ∧ Fr (fun i => v.ownBlock = some i) w w' ∧ (∀ g', v'.ownBlock = some g' → v.ownBlock = some g' ∨ w.heap.size ≤ g') := by
  have hE : encR r = [UInt8.ofNat r] := by unfold encR; rw [if_pos h2]
  have hx : us (encR r) = [.int .u8 (r : Int)] := by
    rw [hE]
    simp only [us, List.map_cons, List.map_nil]
    rw [byte_cast (by omega)]
  have hk : (encR r).length = 1 := by rw [hE]; rfl
  obtain ⟨R, hR⟩ : ∃ R : Int, (r : Int) = R := ⟨_, rfl⟩
  rw [hR] at hx ⊢
  have HX := hid hx
  have HK := hid hk
  have g1 : 0 ≤ R := by omega
  have g2 : R < 128 := by omega
  clear hE hx hk h1 h2 hR
  obtain ⟨i0, hi, hz0, hz1, hz2⟩ := info_parts Try.info5
  go_enter Try.func134, Try.ntmps134
  go_wp2_with (first
    | (at_builtin; refine wpList_append_d _ rfl _ _ 52 rfl 5 i0 (.int .u8 0) 1 1 Try.underlying52 hi hz0 hz1 hz2 rfl (by decide) _ _ _ rfl (ho.alloc _) ⟨w.heap.size, 0, none⟩ 1 1 [.int .u8 R] rfl rfl ?c1 ?c2 ?c3 ?c4 ?_)
    | go_in)
  case c1 =>
    intro j u hj
    match j, hj with
    | 0, hj => simp at hj; subst hj; simp [Addr.add]
    | (j + 1), hj => simp at hj
  case c2 => intro u hu; simp at hu; rcases hu with rfl <;> rfl
  case c3 => unfold maxLen; omega
  case c4 => omega
  intro v' w2 hown' hgrow hnew
  have HFIN := hid (rune_fin hown' HX.out HK.out hgrow hnew)
  clear hown' hgrow hnew ho
  go_wp2
  go_ret
  exact ⟨_, rfl, HFIN.out⟩

set_option maxRecDepth 100000 in
set_option maxHeartbeats 4000000 in
theorem rune_2 (v : Value) (l : List UInt8) (r : Nat) (w : World) (ho : w.ownsRow 0 5 1 v l.length (us l)) (hl : l.length ≤ 100000000) (h1 : 128 ≤ r) (h2 : r < 2048) :
    Calls Try.prog 134 #[v, .int .i32 (r : Int)] w fun e w' => ∃ v', e = .returned v' ∧ w'.ownsRow 0 5 1 v' (l ++ encR r).length (us (l ++ encR r)) ∧ Fr (fun i => v.ownBlock = some i) w w' ∧ (∀ g', v'.ownBlock = some g' → v.ownBlock = some g' ∨ w.heap.size ≤ g') := by
  have hE : encR r = [UInt8.ofNat (192 + r / 64), UInt8.ofNat (128 + r % 64)] := by unfold encR; rw [if_neg (show ¬ r < 128 by omega), if_pos h2]
  have hx : us (encR r) = [.int .u8 (192 + (r : Int) / 64), .int .u8 (128 + (r : Int) % 64)] := by
    rw [hE]
    simp only [us, List.map_cons, List.map_nil]
    rw [byte_cast (by omega), byte_cast (by omega)]; simp only [Int.natCast_add, Int.natCast_ediv, Int.natCast_emod]; rfl
  have hk : (encR r).length = 2 := by rw [hE]; rfl
  obtain ⟨R, hR⟩ : ∃ R : Int, (r : Int) = R := ⟨_, rfl⟩
  rw [hR] at hx ⊢
  have HX := hid hx
  have HK := hid hk
  have g1 : 128 ≤ R := by omega
  have g2 : R < 2048 := by omega
  clear hE hx hk h1 h2 hR
  obtain ⟨i0, hi, hz0, hz1, hz2⟩ := info_parts Try.info5
  go_enter Try.func134, Try.ntmps134
  go_wp2_with (first
    | (at_builtin; refine wpList_append_d _ rfl _ _ 52 rfl 5 i0 (.int .u8 0) 1 1 Try.underlying52 hi hz0 hz1 hz2 rfl (by decide) _ _ _ rfl (ho.alloc _) ⟨w.heap.size, 0, none⟩ 2 2 [.int .u8 (192 + R / 64), .int .u8 (128 + R % 64)] rfl rfl ?c1 ?c2 ?c3 ?c4 ?_)
    | go_in)
  case c1 =>
    intro j u hj
    match j, hj with
    | 0, hj => simp at hj; subst hj; simp [Addr.add]
    | 1, hj => simp at hj; subst hj; simp [Addr.add]
    | (j + 2), hj => simp at hj
  case c2 => intro u hu; simp at hu; rcases hu with rfl | rfl <;> rfl
  case c3 => unfold maxLen; omega
  case c4 => omega
  intro v' w2 hown' hgrow hnew
  have HFIN := hid (rune_fin hown' HX.out HK.out hgrow hnew)
  clear hown' hgrow hnew ho
  go_wp2
  go_ret
  exact ⟨_, rfl, HFIN.out⟩

set_option maxRecDepth 100000 in
set_option maxHeartbeats 4000000 in
theorem rune_3 (v : Value) (l : List UInt8) (r : Nat) (w : World) (ho : w.ownsRow 0 5 1 v l.length (us l)) (hl : l.length ≤ 100000000) (h1 : 2048 ≤ r) (h2 : r < 55296) :
    Calls Try.prog 134 #[v, .int .i32 (r : Int)] w fun e w' => ∃ v', e = .returned v' ∧ w'.ownsRow 0 5 1 v' (l ++ encR r).length (us (l ++ encR r)) ∧ Fr (fun i => v.ownBlock = some i) w w' ∧ (∀ g', v'.ownBlock = some g' → v.ownBlock = some g' ∨ w.heap.size ≤ g') := by
  have hE : encR r = [UInt8.ofNat (224 + r / 4096), UInt8.ofNat (128 + r / 64 % 64), UInt8.ofNat (128 + r % 64)] := by unfold encR; rw [if_neg (show ¬ r < 128 by omega), if_neg (show ¬ r < 2048 by omega), if_pos (show r < 65536 by omega)]
  have hx : us (encR r) = [.int .u8 (224 + (r : Int) / 4096), .int .u8 (128 + (r : Int) / 64 % 64), .int .u8 (128 + (r : Int) % 64)] := by
    rw [hE]
    simp only [us, List.map_cons, List.map_nil]
    rw [byte_cast (by omega), byte_cast (by omega), byte_cast (by omega)]; simp only [Int.natCast_add, Int.natCast_ediv, Int.natCast_emod]; rfl
  have hk : (encR r).length = 3 := by rw [hE]; rfl
  obtain ⟨R, hR⟩ : ∃ R : Int, (r : Int) = R := ⟨_, rfl⟩
  rw [hR] at hx ⊢
  have HX := hid hx
  have HK := hid hk
  have g1 : 2048 ≤ R := by omega
  have g2 : R < 55296 := by omega
  clear hE hx hk h1 h2 hR
  obtain ⟨i0, hi, hz0, hz1, hz2⟩ := info_parts Try.info5
  go_enter Try.func134, Try.ntmps134
  go_wp2_with (first
    | (at_builtin; refine wpList_append_d _ rfl _ _ 52 rfl 5 i0 (.int .u8 0) 1 1 Try.underlying52 hi hz0 hz1 hz2 rfl (by decide) _ _ _ rfl (ho.alloc _) ⟨w.heap.size, 0, none⟩ 3 3 [.int .u8 (224 + R / 4096), .int .u8 (128 + R / 64 % 64), .int .u8 (128 + R % 64)] rfl rfl ?c1 ?c2 ?c3 ?c4 ?_)
    | go_in)
  case c1 =>
    intro j u hj
    match j, hj with
    | 0, hj => simp at hj; subst hj; simp [Addr.add]
    | 1, hj => simp at hj; subst hj; simp [Addr.add]
    | 2, hj => simp at hj; subst hj; simp [Addr.add]
    | (j + 3), hj => simp at hj
  case c2 => intro u hu; simp at hu; rcases hu with rfl | rfl | rfl <;> rfl
  case c3 => unfold maxLen; omega
  case c4 => omega
  intro v' w2 hown' hgrow hnew
  have HFIN := hid (rune_fin hown' HX.out HK.out hgrow hnew)
  clear hown' hgrow hnew ho
  go_wp2
  go_ret
  exact ⟨_, rfl, HFIN.out⟩

set_option maxRecDepth 100000 in
set_option maxHeartbeats 4000000 in
theorem rune_4 (v : Value) (l : List UInt8) (r : Nat) (w : World) (ho : w.ownsRow 0 5 1 v l.length (us l)) (hl : l.length ≤ 100000000) (h1 : 57344 ≤ r) (h2 : r < 65536) :
    Calls Try.prog 134 #[v, .int .i32 (r : Int)] w fun e w' => ∃ v', e = .returned v' ∧ w'.ownsRow 0 5 1 v' (l ++ encR r).length (us (l ++ encR r)) ∧ Fr (fun i => v.ownBlock = some i) w w' ∧ (∀ g', v'.ownBlock = some g' → v.ownBlock = some g' ∨ w.heap.size ≤ g') := by
  have hE : encR r = [UInt8.ofNat (224 + r / 4096), UInt8.ofNat (128 + r / 64 % 64), UInt8.ofNat (128 + r % 64)] := by unfold encR; rw [if_neg (show ¬ r < 128 by omega), if_neg (show ¬ r < 2048 by omega), if_pos h2]
  have hx : us (encR r) = [.int .u8 (224 + (r : Int) / 4096), .int .u8 (128 + (r : Int) / 64 % 64), .int .u8 (128 + (r : Int) % 64)] := by
    rw [hE]
    simp only [us, List.map_cons, List.map_nil]
    rw [byte_cast (by omega), byte_cast (by omega), byte_cast (by omega)]; simp only [Int.natCast_add, Int.natCast_ediv, Int.natCast_emod]; rfl
  have hk : (encR r).length = 3 := by rw [hE]; rfl
  obtain ⟨R, hR⟩ : ∃ R : Int, (r : Int) = R := ⟨_, rfl⟩
  rw [hR] at hx ⊢
  have HX := hid hx
  have HK := hid hk
  have g1 : 57344 ≤ R := by omega
  have g2 : R < 65536 := by omega
  clear hE hx hk h1 h2 hR
  obtain ⟨i0, hi, hz0, hz1, hz2⟩ := info_parts Try.info5
  go_enter Try.func134, Try.ntmps134
  go_wp2_with (first
    | (at_builtin; refine wpList_append_d _ rfl _ _ 52 rfl 5 i0 (.int .u8 0) 1 1 Try.underlying52 hi hz0 hz1 hz2 rfl (by decide) _ _ _ rfl (ho.alloc _) ⟨w.heap.size, 0, none⟩ 3 3 [.int .u8 (224 + R / 4096), .int .u8 (128 + R / 64 % 64), .int .u8 (128 + R % 64)] rfl rfl ?c1 ?c2 ?c3 ?c4 ?_)
    | go_in)
  case c1 =>
    intro j u hj
    match j, hj with
    | 0, hj => simp at hj; subst hj; simp [Addr.add]
    | 1, hj => simp at hj; subst hj; simp [Addr.add]
    | 2, hj => simp at hj; subst hj; simp [Addr.add]
    | (j + 3), hj => simp at hj
  case c2 => intro u hu; simp at hu; rcases hu with rfl | rfl | rfl <;> rfl
  case c3 => unfold maxLen; omega
  case c4 => omega
  intro v' w2 hown' hgrow hnew
  have HFIN := hid (rune_fin hown' HX.out HK.out hgrow hnew)
  clear hown' hgrow hnew ho
  go_wp2
  go_ret
  exact ⟨_, rfl, HFIN.out⟩

set_option maxRecDepth 100000 in
set_option maxHeartbeats 4000000 in
theorem rune_5 (v : Value) (l : List UInt8) (r : Nat) (w : World) (ho : w.ownsRow 0 5 1 v l.length (us l)) (hl : l.length ≤ 100000000) (h1 : 65536 ≤ r) (h2 : r ≤ 1114111) :
    Calls Try.prog 134 #[v, .int .i32 (r : Int)] w fun e w' => ∃ v', e = .returned v' ∧ w'.ownsRow 0 5 1 v' (l ++ encR r).length (us (l ++ encR r)) ∧ Fr (fun i => v.ownBlock = some i) w w' ∧ (∀ g', v'.ownBlock = some g' → v.ownBlock = some g' ∨ w.heap.size ≤ g') := by
  have hE : encR r = [UInt8.ofNat (240 + r / 262144), UInt8.ofNat (128 + r / 4096 % 64), UInt8.ofNat (128 + r / 64 % 64), UInt8.ofNat (128 + r % 64)] := by unfold encR; rw [if_neg (show ¬ r < 128 by omega), if_neg (show ¬ r < 2048 by omega), if_neg (show ¬ r < 65536 by omega)]
  have hx : us (encR r) = [.int .u8 (240 + (r : Int) / 262144), .int .u8 (128 + (r : Int) / 4096 % 64), .int .u8 (128 + (r : Int) / 64 % 64), .int .u8 (128 + (r : Int) % 64)] := by
    rw [hE]
    simp only [us, List.map_cons, List.map_nil]
    rw [byte_cast (by omega), byte_cast (by omega), byte_cast (by omega), byte_cast (by omega)]; simp only [Int.natCast_add, Int.natCast_ediv, Int.natCast_emod]; rfl
  have hk : (encR r).length = 4 := by rw [hE]; rfl
  obtain ⟨R, hR⟩ : ∃ R : Int, (r : Int) = R := ⟨_, rfl⟩
  rw [hR] at hx ⊢
  have HX := hid hx
  have HK := hid hk
  have g1 : 65536 ≤ R := by omega
  have g2 : R ≤ 1114111 := by omega
  clear hE hx hk h1 h2 hR
  obtain ⟨i0, hi, hz0, hz1, hz2⟩ := info_parts Try.info5
  go_enter Try.func134, Try.ntmps134
  go_wp2_with (first
    | (at_builtin; refine wpList_append_d _ rfl _ _ 52 rfl 5 i0 (.int .u8 0) 1 1 Try.underlying52 hi hz0 hz1 hz2 rfl (by decide) _ _ _ rfl (ho.alloc _) ⟨w.heap.size, 0, none⟩ 4 4 [.int .u8 (240 + R / 262144), .int .u8 (128 + R / 4096 % 64), .int .u8 (128 + R / 64 % 64), .int .u8 (128 + R % 64)] rfl rfl ?c1 ?c2 ?c3 ?c4 ?_)
    | go_in)
  case c1 =>
    intro j u hj
    match j, hj with
    | 0, hj => simp at hj; subst hj; simp [Addr.add]
    | 1, hj => simp at hj; subst hj; simp [Addr.add]
    | 2, hj => simp at hj; subst hj; simp [Addr.add]
    | 3, hj => simp at hj; subst hj; simp [Addr.add]
    | (j + 4), hj => simp at hj
  case c2 => intro u hu; simp at hu; rcases hu with rfl | rfl | rfl | rfl <;> rfl
  case c3 => unfold maxLen; omega
  case c4 => omega
  intro v' w2 hown' hgrow hnew
  have HFIN := hid (rune_fin hown' HX.out HK.out hgrow hnew)
  clear hown' hgrow hnew ho
  go_wp2
  go_ret
  exact ⟨_, rfl, HFIN.out⟩

theorem rune_any (v : Value) (l : List UInt8) (r : Nat) (w : World) (ho : w.ownsRow 0 5 1 v l.length (us l)) (hl : l.length ≤ 100000000) (hr : r < 55296 ∨ (57344 ≤ r ∧ r ≤ 1114111)) :
    Calls Try.prog 134 #[v, .int .i32 (r : Int)] w fun e w' => ∃ v', e = .returned v' ∧ w'.ownsRow 0 5 1 v' (l ++ encR r).length (us (l ++ encR r)) ∧ Fr (fun i => v.ownBlock = some i) w w' ∧ (∀ g', v'.ownBlock = some g' → v.ownBlock = some g' ∨ w.heap.size ≤ g') := by
  by_cases h1 : r < 128
  · exact rune_1 v l r w ho hl (Nat.zero_le _) h1
  by_cases h2 : r < 2048
  · exact rune_2 v l r w ho hl (by omega) h2
  by_cases h3 : r < 55296
  · exact rune_3 v l r w ho hl (by omega) h3
  by_cases h4 : r < 65536
  · exact rune_4 v l r w ho hl (by omega) h4
  · exact rune_5 v l r w ho hl (by omega) (by omega)
end Go.Proofs.Ytmkkibaacclhnaa
