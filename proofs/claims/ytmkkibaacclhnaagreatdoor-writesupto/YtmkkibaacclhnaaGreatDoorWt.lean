/-
  A step of the walk, the part named Wt. No theorem of the row.
-/
import Derived.Test.YtmkkibaacclhnaaGreatDoorWn
import Derived.Test.YtmkkibaacclhnaaGreatDoorWs
namespace Go.Proofs.YtmkkibaacclhnaaGreatDoor
open Go.RowKit

theorem size_all (d : Nat) : SizeOk d := by
  induction d with
  | zero =>
    intro w pa cap inn l hd h hcap hc hs
    cases l with
    | nil => exact size_nil w pa cap inn
    | cons x r =>
      obtain ⟨ad, rfl, _⟩ := h (by simp)
      have hsx := hs x (by simp)
      by_cases hk : x.k < 5
      · by_cases hg : goodI x = true
        · rw [show sizeD 0 (x :: r) = 1 from by simp only [sizeD]; rw [if_pos ⟨hg, hk⟩]]
          exact size_leaf w ad cap inn x r (by omega) h hcap hc hsx hk hg
        · rw [show sizeD 0 (x :: r) = 0 from by simp only [sizeD]; rw [if_neg (fun h => hg h.1)]]
          exact size_bad w ad cap inn x r (by omega) h hcap hc hsx (.inr hk) (by simpa using hg)
      · rw [show sizeD 0 (x :: r) = 0 from by simp only [sizeD]; rw [if_neg (fun h => hk h.2)]]
        exact size_deep w ad cap inn x r (by omega) h hcap hc hsx (by omega) (by omega)
  | succ d ih =>
    intro w pa cap inn l hd h hcap hc hs
    cases l with
    | nil => exact size_nil w pa cap inn
    | cons x r =>
      obtain ⟨ad, rfl, _⟩ := h (by simp)
      have hsx := hs x (by simp)
      by_cases hg : goodI x = true
      · by_cases hk : x.k < 5
        · rw [show sizeD (d + 1) (x :: r) = 1 from by simp only [sizeD]; rw [if_pos hg, if_pos hk]]
          exact size_leaf w ad cap inn x r (by omega) h hcap hc hsx hk hg
        · obtain ⟨k, n, b, s⟩ := x
          obtain ⟨h56, _⟩ := goodI_nest hg hk
          simp only at h56 hk
          rcases h56 with rfl | rfl
          · rw [show sizeD (d + 1) (⟨5, n, b, s⟩ :: r) = outN (partsG (sizeD d) false n.toNat r) from by simp only [sizeD]; rw [if_pos hg, if_neg hk]; rfl]
            exact size_arr d ih w ad cap inn n b s r hd h hcap hc hs hg
          · rw [show sizeD (d + 1) (⟨6, n, b, s⟩ :: r) = outN (partsG (sizeD d) true n.toNat r) from by simp only [sizeD]; rw [if_pos hg, if_neg hk]; rfl]
            exact size_obj d ih w ad cap inn n b s r hd h hcap hc hs hg
      · rw [show sizeD (d + 1) (x :: r) = 0 from by simp only [sizeD]; rw [if_neg hg]]
        exact size_bad w ad cap inn x r (by omega) h hcap hc hsx (.inl (by omega)) (by simpa using hg)
/-- the beginning of a line -/
def lineL (indent : Int) (inn : Nat) : List UInt8 := if indent < 0 then [] else 10 :: List.replicate (indent.toNat * inn) 32
end Go.Proofs.YtmkkibaacclhnaaGreatDoor

namespace Go.Proofs.YtmkkibaacclhnaaGreatDoor
open Go.RowKit

def hexB (n : Nat) : UInt8 := if n < 10 then UInt8.ofNat (48 + n) else UInt8.ofNat (87 + n)
/-- a byte of a text as it is written -/
def quoteB (c : UInt8) : List UInt8 :=
  if c.toNat = 34 ∨ c.toNat = 92 then [92, c] else if c.toNat = 8 then [92, 98] else if c.toNat = 9 then [92, 116] else if c.toNat = 10 then [92, 110]
  else if c.toNat = 12 then [92, 102] else if c.toNat = 13 then [92, 114] else if c.toNat < 32 then [92, 117, 48, 48, hexB (c.toNat / 16), hexB (c.toNat % 16)] else [c]
def quoteL (s : List UInt8) : List UInt8 := 34 :: (s.flatMap quoteB ++ [34])
theorem quoteB_le (c : UInt8) : (quoteB c).length ≤ 6 := by
  unfold quoteB
  repeat' split
  all_goals simp
theorem quote_len (s : List UInt8) : (s.flatMap quoteB).length ≤ 6 * s.length := by
  induction s with
  | nil => simp
  | cons c s ih =>
    have := quoteB_le c
    simp only [List.flatMap_cons, List.length_append, List.length_cons]
    omega
theorem quote_step (l : List UInt8) (k : Nat) (hk : k < l.length) (q : List UInt8) (hq : quoteB l[k] = q) : ofL (34 :: (l.take k).flatMap quoteB) ++ ofL q = ofL (34 :: (l.take (k + 1)).flatMap quoteB) := by
  rw [ofL_append, List.take_succ_eq_append_getElem hk, List.flatMap_append, ← hq]
  simp
theorem hex_slice (m : Nat) (h : m < 16) : (ByteArray.mk #[48, 49, 50, 51, 52, 53, 54, 55, 56, 57, 97, 98, 99, 100, 101, 102]).extract m (m + 1) = ofL [hexB m] := by
  have : ∀ m : Fin 16, (ByteArray.mk #[48, 49, 50, 51, 52, 53, 54, 55, 56, 57, 97, 98, 99, 100, 101, 102]).extract m.1 (m.1 + 1) = ofL [hexB m.1] := by decide
  exact this ⟨m, h⟩
set_option maxRecDepth 100000 in
set_option maxHeartbeats 16000000 in
theorem quoted_any (l : List UInt8) (w : World) (hl : l.length ≤ 100000000) :
    Calls Tryz.prog 78 #[.string (ofL l)] w fun e w' => e = .returned (.string (ofL (quoteL l))) ∧ Fr (fun _ => False) w w' := by
  have hsz := ofL_size l
  go_enter Tryz.func78, Tryz.ntmps78
  go_wp2
  go_loopw [3, 4] (fun s t wr => ∃ k : Nat, k ≤ l.length ∧ s = .string (ofL (34 :: (l.take k).flatMap quoteB)) ∧ t = .int .i64 (k : Int) ∧ Hid (Fr (fun _ => False) w wr)) (fun _ t _ => l.length - (intOf t).toNat)
  case atStart => exact ⟨0, by omega, rfl, rfl, hid (Fr.refl _ _)⟩
  case round =>
    obtain ⟨k, hk, rfl, rfl, hF⟩ := hrel
    have hlen : (ofL (34 :: (l.take k).flatMap quoteB)).size ≤ 600000001 := by
      have := quote_len (l.take k)
      rw [ofL_size, List.length_cons]
      rw [List.length_take] at this
      omega
    by_cases hlt : k < l.length
    · have hg : (ofL l)[k]'(by rw [hsz]; exact hlt) = l[k] := ofL_get l k _
      have hqs := quote_step l k hlt _ rfl
      have he1 : (ofL l).extract k (k + 1) = ofL [l[k]] := by
        rw [ofL_extract, List.drop_take, List.drop_eq_getElem_cons hlt]
        congr 1
        rw [show k + 1 - k = 1 by omega]
        rfl
      generalize l[k] = c at *
      obtain ⟨N, hN⟩ : ∃ N, c.toNat = N := ⟨_, rfl⟩
      have hN256 : N < 256 := by rw [← hN]; exact c.toNat_lt
      generalize ofL (34 :: (l.take k).flatMap quoteB) = S at *
      obtain ⟨S', hS'⟩ : ∃ S', ofL (34 :: (l.take (k + 1)).flatMap quoteB) = S' := ⟨_, rfl⟩
      rw [hS'] at hqs
      have HS' := hid hS'
      have hkz : (k : Int) < (l.length : Int) := by omega
      have hw1 : IntKind.i64.wrap ((k : Int) + 1) = (k : Int) + 1 := IntWalk.i64_in _ (by omega)
      have z1 : ((k : Int) + 1).toNat = k + 1 := by omega
      have z2 : (k : Int) + 1 ≤ (l.length : Int) := by omega
      obtain ⟨m, hm⟩ : ∃ m, S.size = m := ⟨_, rfl⟩
      rw [hm] at hlen
      clear hS'
      unfold quoteB at hqs
      rw [hN] at hqs
      by_cases h34 : N = 34 ∨ N = 92
      · rw [if_pos h34] at hqs
        have hc1 : S ++ (⟨#[92]⟩ : ByteArray) = S ++ ofL [92] := rfl
        obtain ⟨S1, hS1⟩ : ∃ S1, S ++ ofL [92] = S1 := ⟨_, rfl⟩
        rw [hS1] at hc1
        have hc2 : S1 ++ ofL [c] = S' := by rw [← hS1, ← hqs, ByteArray.append_assoc, ofL_append]; rfl
        have hm1 : S1.size = m + 1 := by rw [← hS1, ByteArray.size_append, hm]; rfl
        have hx1 : (⟨#[92]⟩ : ByteArray).size = 1 := rfl
        have hx2 : (ofL [c]).size = 1 := ofL_size [c]
        clear hqs hS1
        by_cases h3 : N = 34
        · have e1 : ((N : Int) == 34) = true := by simp [h3]
          clear h34 h3
          go_wp2
          go_roundw
          case rel => exact ⟨k + 1, by omega, by rw [HS'.out], by go_num, hF⟩
          case measure => simp [intOf]; omega
        · have e1 : ((N : Int) == 34) = false := beq_eq_false_iff_ne.2 (by omega)
          have e2 : ((N : Int) == 92) = true := by simp; omega
          clear h34 h3
          go_wp2
          go_roundw
          case rel => exact ⟨k + 1, by omega, by rw [HS'.out], by go_num, hF⟩
          case measure => simp [intOf]; omega
      · rw [if_neg h34] at hqs
        have e1 : ((N : Int) == 34) = false := beq_eq_false_iff_ne.2 (by omega)
        have e2 : ((N : Int) == 92) = false := beq_eq_false_iff_ne.2 (by omega)
        clear h34
        by_cases h8 : N = 8
        · rw [if_pos h8] at hqs
          have e8 : ((N : Int) == 8) = true := by simp [h8]
          have hc2 : S ++ (⟨#[92, 98]⟩ : ByteArray) = S' := hqs
          have hx1 : (⟨#[92, 98]⟩ : ByteArray).size = 2 := rfl
          clear hqs h8
          go_wp2
          go_roundw
          case rel => exact ⟨k + 1, by omega, by rw [HS'.out], by go_num, hF⟩
          case measure => simp [intOf]; omega
        rw [if_neg h8] at hqs
        have e8 : ((N : Int) == 8) = false := beq_eq_false_iff_ne.2 (by omega)
        clear h8
        by_cases h9 : N = 9
        · rw [if_pos h9] at hqs
          have e9 : ((N : Int) == 9) = true := by simp [h9]
          have hc2 : S ++ (⟨#[92, 116]⟩ : ByteArray) = S' := hqs
          have hx1 : (⟨#[92, 116]⟩ : ByteArray).size = 2 := rfl
          clear hqs h9
          go_wp2
          go_roundw
          case rel => exact ⟨k + 1, by omega, by rw [HS'.out], by go_num, hF⟩
          case measure => simp [intOf]; omega
        rw [if_neg h9] at hqs
        have e9 : ((N : Int) == 9) = false := beq_eq_false_iff_ne.2 (by omega)
        clear h9
        by_cases h10 : N = 10
        · rw [if_pos h10] at hqs
          have e10 : ((N : Int) == 10) = true := by simp [h10]
          have hc2 : S ++ (⟨#[92, 110]⟩ : ByteArray) = S' := hqs
          have hx1 : (⟨#[92, 110]⟩ : ByteArray).size = 2 := rfl
          clear hqs h10
          go_wp2
          go_roundw
          case rel => exact ⟨k + 1, by omega, by rw [HS'.out], by go_num, hF⟩
          case measure => simp [intOf]; omega
        rw [if_neg h10] at hqs
        have e10 : ((N : Int) == 10) = false := beq_eq_false_iff_ne.2 (by omega)
        clear h10
        by_cases h12 : N = 12
        · rw [if_pos h12] at hqs
          have e12 : ((N : Int) == 12) = true := by simp [h12]
          have hc2 : S ++ (⟨#[92, 102]⟩ : ByteArray) = S' := hqs
          have hx1 : (⟨#[92, 102]⟩ : ByteArray).size = 2 := rfl
          clear hqs h12
          go_wp2
          go_roundw
          case rel => exact ⟨k + 1, by omega, by rw [HS'.out], by go_num, hF⟩
          case measure => simp [intOf]; omega
        rw [if_neg h12] at hqs
        have e12 : ((N : Int) == 12) = false := beq_eq_false_iff_ne.2 (by omega)
        clear h12
        by_cases h13 : N = 13
        · rw [if_pos h13] at hqs
          have e13 : ((N : Int) == 13) = true := by simp [h13]
          have hc2 : S ++ (⟨#[92, 114]⟩ : ByteArray) = S' := hqs
          have hx1 : (⟨#[92, 114]⟩ : ByteArray).size = 2 := rfl
          clear hqs h13
          go_wp2
          go_roundw
          case rel => exact ⟨k + 1, by omega, by rw [HS'.out], by go_num, hF⟩
          case measure => simp [intOf]; omega
        rw [if_neg h13] at hqs
        have e13 : ((N : Int) == 13) = false := beq_eq_false_iff_ne.2 (by omega)
        clear h13
        by_cases h32 : N < 32
        · rw [if_pos h32] at hqs
          have e32 : decide ((N : Int) < 32) = true := decide_eq_true (by omega)
          obtain ⟨p, hp⟩ : ∃ p, N / 16 = p := ⟨_, rfl⟩
          obtain ⟨q, hq⟩ : ∃ q, N % 16 = q := ⟨_, rfl⟩
          rw [hp, hq] at hqs
          have hp16 : p < 16 := by omega
          have hq16 : q < 16 := by omega
          have t1 : Int.tdiv (N : Int) 16 = (p : Int) := by rw [Int.tdiv_eq_ediv_of_nonneg (by omega)]; omega
          have t2 : (N : Int) / 16 = (p : Int) := by omega
          have t3 : Int.tmod (N : Int) 16 = (q : Int) := by rw [Int.tmod_eq_emod_of_nonneg (by omega)]; omega
          have t4 : (N : Int) % 16 = (q : Int) := by omega
          have u1 : IntKind.u8.wrap ((p : Int) + 1) = (p : Int) + 1 := by rw [IntKind.wrap_u8]; omega
          have u2 : IntKind.u8.wrap ((q : Int) + 1) = (q : Int) + 1 := by rw [IntKind.wrap_u8]; omega
          have v1 : ((p : Int) + 1).toNat = p + 1 := by omega
          have v2 : ((q : Int) + 1).toNat = q + 1 := by omega
          have x1 := hex_slice p hp16
          have x2 := hex_slice q hq16
          have x3 : (ByteArray.mk #[48, 49, 50, 51, 52, 53, 54, 55, 56, 57, 97, 98, 99, 100, 101, 102]).size = 16 := rfl
          obtain ⟨S1, hS1⟩ : ∃ S1, S ++ (⟨#[92, 117, 48, 48]⟩ : ByteArray) = S1 := ⟨_, rfl⟩
          obtain ⟨S2, hS2⟩ : ∃ S2, S1 ++ ofL [hexB p] = S2 := ⟨_, rfl⟩
          have hc2 : S2 ++ ofL [hexB q] = S' := by
            rw [← hS2, ← hS1, ← hqs, show (⟨#[92, 117, 48, 48]⟩ : ByteArray) = ofL [92, 117, 48, 48] from rfl, ByteArray.append_assoc, ByteArray.append_assoc, ofL_append, ofL_append]; rfl
          have hm1 : S1.size = m + 4 := by rw [← hS1, ByteArray.size_append, hm]; rfl
          have hm2 : S2.size = m + 5 := by rw [← hS2, ByteArray.size_append, hm1, ofL_size]; rfl
          have hx1 : (⟨#[92, 117, 48, 48]⟩ : ByteArray).size = 4 := rfl
          have hx2 : (ofL [hexB p]).size = 1 := ofL_size _
          have hx3 : (ofL [hexB q]).size = 1 := ofL_size _
          have w1 : (p : Int) + 1 ≤ 16 := by omega
          have w2 : (q : Int) + 1 ≤ 16 := by omega
          have HFN := hid (fun n => hF.out.drewN n)
          generalize ofL [hexB p] = X1 at *
          generalize ofL [hexB q] = X2 at *
          clear hqs h32 hp hq hp16 hq16
          go_wp2
          go_quiet (fail)
          go_wp2
          go_roundw
          case rel => exact ⟨k + 1, by omega, by rw [HS'.out], by go_num, hid (HFN.out _)⟩
          case measure => simp [intOf]; omega
        · rw [if_neg h32] at hqs
          have e32 : decide ((N : Int) < 32) = false := decide_eq_false (by omega)
          have hc2 : S ++ ofL [c] = S' := hqs
          have hx2 : (ofL [c]).size = 1 := ofL_size [c]
          clear hqs h32
          go_wp2
          go_roundw
          case rel => exact ⟨k + 1, by omega, by rw [HS'.out], by go_num, hF⟩
          case measure => simp [intOf]; omega
    · obtain rfl : k = l.length := by omega
      have hnk : ¬ ((l.length : Int) < (l.length : Int)) := by omega
      rw [List.take_length] at hlen
      have hc : ofL (34 :: l.flatMap quoteB) ++ (⟨#[34]⟩ : ByteArray) = ofL (quoteL l) := by
        rw [show (⟨#[34]⟩ : ByteArray) = ofL [34] from rfl, ofL_append]; rfl
      have hx1 : (⟨#[34]⟩ : ByteArray).size = 1 := rfl
      rw [List.take_length]
      generalize ofL (34 :: l.flatMap quoteB) = S at *
      obtain ⟨Q, hQ⟩ : ∃ Q, ofL (quoteL l) = Q := ⟨_, rfl⟩
      rw [hQ] at hc
      have HQ := hid hQ
      clear hQ
      obtain ⟨m, hm⟩ : ∃ m, S.size = m := ⟨_, rfl⟩
      rw [hm] at hlen
      go_wp2
      go_ret
      exact ⟨by rw [HQ.out]; rfl, hF.out⟩
end Go.Proofs.YtmkkibaacclhnaaGreatDoor

namespace Go.Proofs.YtmkkibaacclhnaaGreatDoor
open Go.RowKit

theorem WPost.trans {B : Nat} {w w1 w2 : World} {vi vb : Value} {nx ind : Int} {so : Bool} {op : Nat} {vo vo1 : Value} {bs : List UInt8} (hF : Fr (fun i => i = B ∨ vo.ownBlock = some i) w w1) (hN : ∀ g, vo1.ownBlock = some g → vo.ownBlock = some g ∨ w.heap.size ≤ g) (h : WPost B w1 vi vb nx ind so op vo1 bs w2) : WPost B w vi vb nx ind so op vo bs w2 := by
  obtain ⟨vo2, h1, h2, h3⟩ := h
  have hs := hF.size
  refine ⟨vo2, h1, hF.trans' h2 ?_, fun g hg => ?_⟩
  · rintro i (h | h)
    · exact .inl (.inl h)
    · rcases hN i h with h | h
      · exact .inl (.inr h)
      · exact .inr h
  · rcases h3 g hg with h | h
    · exact hN g h
    · exact .inr (by omega)
theorem hex_get (m : Nat) (h : m < 16) : (ByteArray.mk #[48, 49, 50, 51, 52, 53, 54, 55, 56, 57, 97, 98, 99, 100, 101, 102])[m]'h = hexB m := by
  have : ∀ m : Fin 16, (ByteArray.mk #[48, 49, 50, 51, 52, 53, 54, 55, 56, 57, 97, 98, 99, 100, 101, 102])[m.1]'m.2 = hexB m.1 := by decide
  exact this ⟨m, h⟩
theorem and15 (n : Nat) (h : n < 32) : bits BinOp.and IntKind.i32 (n : Int) 15 = ((n % 16 : Nat) : Int) := by
  have : ∀ n : Fin 32, bits BinOp.and IntKind.i32 (n.1 : Int) 15 = ((n.1 % 16 : Nat) : Int) := by decide
  exact this ⟨n, h⟩
set_option maxRecDepth 100000 in
set_option maxHeartbeats 8000000 in
theorem writeCode_any (B : Nat) (w : World) (vi vb : Value) (nx ind : Int) (so : Bool) (op : Nat) (ad vo : Value) (bs : List UInt8) (N : Nat) (h : WAt B w vi vb nx ind so op ad vo bs) (hl : bs.length ≤ 99999999000) (hN : N < 32) :
    Calls Tryz.prog 127 #[.pointer (some ⟨B, 0, none⟩), .int .i32 (N : Int)] w fun e w' => e = .returned (.tuple #[]) ∧ WPost B w vi vb nx ind so op vo (bs ++ [92, 117, 48, 48, hexB (N / 16), hexB (N % 16)]) w' := by
  have H1 := hid (writeString_any B w vi vb nx ind so op ad vo bs [92, 117, 48, 48] h (by simp; omega))
  obtain ⟨p, hp⟩ : ∃ p, N / 16 = p := ⟨_, rfl⟩
  obtain ⟨q, hq⟩ : ∃ q, N % 16 = q := ⟨_, rfl⟩
  have hp16 : p < 16 := by omega
  have hq16 : q < 16 := by omega
  have t1 : (N : Int) / 16 = (p : Int) := by omega
  have t2 : bits BinOp.and IntKind.i32 (N : Int) 15 = (q : Int) := by rw [and15 N hN, hq]
  have g1 := hex_get p hp16
  have g2 := hex_get q hq16
  have x3 : (ByteArray.mk #[48, 49, 50, 51, 52, 53, 54, 55, 56, 57, 97, 98, 99, 100, 101, 102]).size = 16 := rfl
  have hp16z : (p : Int) < 16 := by omega
  have hq16z : (q : Int) < 16 := by omega
  rw [hp, hq]
  have H2 := hid (fun (w : World) (vo : Value) (bs : List UInt8) (c : UInt8) (h : WAt B w vi vb nx ind so op (.pointer (some ⟨B, 6, none⟩)) vo bs) (hl : bs.length ≤ 100000000000) => writeByte_any B w vi vb nx ind so op _ vo bs c h hl)
  obtain ⟨P1, hP1⟩ : ∃ P, hexB p = P := ⟨_, rfl⟩
  obtain ⟨P2, hP2⟩ : ∃ P, hexB q = P := ⟨_, rfl⟩
  rw [hP1] at g1 ⊢
  rw [hP2] at g2 ⊢
  clear h hp hq hP1 hP2
  go_enter Tryz.func127, Tryz.ntmps127
  go_wp2_with fail
  refine Calls.mono H1.out ?_
  rintro e w1 ⟨rfl, vo1, hW1, hF1, hN1⟩
  have K1 := hid (And.intro hF1 hN1)
  have HB1 := hid (fun k => H2.out (w1.drewN k) vo1 _ P1 ⟨hW1.blk, hW1.adr, hW1.row⟩ (by simp; omega))
  clear hW1 hF1 hN1
  go_wp2_with fail
  go_region_with (go_at_call 44; refine Calls.mono (HB1.out _) ?_; rintro e w2 ⟨rfl, hP⟩; have KP := hid hP; clear hP)
  all_goals
    have KQ := hid (WPost.trans (K1.out.1.drewN _) K1.out.2 KP.out)
    clear KP K1 HB1
    obtain ⟨vo2, hW2, hF2, hN2⟩ := KQ.out
    have K2 := hid (And.intro hF2 hN2)
    have HB2 := hid (fun k => H2.out (w2.drewN k) vo2 _ P2 ⟨hW2.blk, hW2.adr, hW2.row⟩ (by simp; omega))
    clear hW2 hF2 hN2 KQ
    go_wp2_with fail
    go_region_with (go_at_call 44; refine Calls.mono (HB2.out _) ?_; rintro e w3 ⟨rfl, hP⟩; have KR := hid hP; clear hP)
    all_goals
      have KS := hid (WPost.trans (K2.out.1.drewN _) K2.out.2 KR.out)
      clear KR K2 HB2
      go_wp2
      go_end0
      refine ⟨rfl, ?_⟩
      have := KS.out
      simpa using this
def quoteR (r : Nat) : List UInt8 :=
  if r = 34 ∨ r = 92 then 92 :: encR r else if r = 8 then [92, 98] else if r = 9 then [92, 116] else if r = 10 then [92, 110]
  else if r = 12 then [92, 102] else if r = 13 then [92, 114] else if r < 32 then [92, 117, 48, 48, hexB (r / 16), hexB (r % 16)] else encR r
set_option maxRecDepth 100000 in
set_option maxHeartbeats 8000000 in
theorem writeCharacter_any (B : Nat) (w : World) (vi vb : Value) (nx ind : Int) (so : Bool) (op : Nat) (ad vo : Value) (bs : List UInt8) (r : Nat) (h : WAt B w vi vb nx ind so op ad vo bs) (hl : bs.length ≤ 99999990000) (hr : r < 55296 ∨ (57344 ≤ r ∧ r ≤ 1114111)) :
    Calls Tryz.prog 72 #[.pointer (some ⟨B, 0, none⟩), .int .i32 (r : Int)] w fun e w' => e = .returned (.tuple #[]) ∧ WPost B w vi vb nx ind so op vo (bs ++ quoteR r) w' := by
  unfold quoteR
  by_cases h34 : r = 34 ∨ r = 92
  · rw [if_pos h34]
    by_cases h3 : r = 34
    · have e1 : ((r : Int) == 34) = true := by simp [h3]
      clear h3
      have H1 := hid (show Calls Tryz.prog 44 #[.pointer (some ⟨B, 6, none⟩), .int .u8 92] w _ from writeByte_any B w vi vb nx ind so op ad vo bs 92 h (by omega))
      have H2 := hid (fun (w : World) (vo : Value) (h : WAt B w vi vb nx ind so op (.pointer (some ⟨B, 6, none⟩)) vo (bs ++ [92])) => writeRune_any B w vi vb nx ind so op _ vo (bs ++ [92]) r h (by simp; omega) hr)
      obtain ⟨E, hE⟩ : ∃ E, encR r = E := ⟨_, rfl⟩
      rw [hE] at H2 ⊢
      clear h hr hE h34
      go_enter Tryz.func72, Tryz.ntmps72
      go_wp2_with fail
      refine Calls.mono H1.out ?_
      rintro e w1 ⟨rfl, vo1, hW1, hF1, hN1⟩
      have K1 := hid (And.intro hF1 hN1)
      have HB1 := hid (H2.out w1 vo1 hW1)
      clear hW1 hF1 hN1
      go_wp2_with fail
      refine Calls.mono HB1.out ?_
      rintro e w2 ⟨⟨k9, rfl⟩, hP⟩
      have KP := hid (WPost.trans K1.out.1 K1.out.2 hP)
      clear hP
      go_wp2
      go_end0
      exact ⟨rfl, by simpa using KP.out⟩
    · have e1 : ((r : Int) == 34) = false := beq_eq_false_iff_ne.2 (by omega)
      have e2 : ((r : Int) == 92) = true := by simp; omega
      clear h3
      have H1 := hid (show Calls Tryz.prog 44 #[.pointer (some ⟨B, 6, none⟩), .int .u8 92] w _ from writeByte_any B w vi vb nx ind so op ad vo bs 92 h (by omega))
      have H2 := hid (fun (w : World) (vo : Value) (h : WAt B w vi vb nx ind so op (.pointer (some ⟨B, 6, none⟩)) vo (bs ++ [92])) => writeRune_any B w vi vb nx ind so op _ vo (bs ++ [92]) r h (by simp; omega) hr)
      obtain ⟨E, hE⟩ : ∃ E, encR r = E := ⟨_, rfl⟩
      rw [hE] at H2 ⊢
      clear h hr hE h34
      go_enter Tryz.func72, Tryz.ntmps72
      go_wp2_with fail
      refine Calls.mono H1.out ?_
      rintro e w1 ⟨rfl, vo1, hW1, hF1, hN1⟩
      have K1 := hid (And.intro hF1 hN1)
      have HB1 := hid (H2.out w1 vo1 hW1)
      clear hW1 hF1 hN1
      go_wp2_with fail
      refine Calls.mono HB1.out ?_
      rintro e w2 ⟨⟨k9, rfl⟩, hP⟩
      have KP := hid (WPost.trans K1.out.1 K1.out.2 hP)
      clear hP
      go_wp2
      go_end0
      exact ⟨rfl, by simpa using KP.out⟩
  · rw [if_neg h34]
    have e1 : ((r : Int) == 34) = false := beq_eq_false_iff_ne.2 (by omega)
    have e2 : ((r : Int) == 92) = false := beq_eq_false_iff_ne.2 (by omega)
    clear h34
    by_cases h8 : r = 8
    · rw [if_pos h8]
      have e8 : ((r : Int) == 8) = true := by simp [h8]
      have H1 := hid (writeString_any B w vi vb nx ind so op ad vo bs [92, 98] h (by simp; omega))
      clear h hr h8
      go_enter Tryz.func72, Tryz.ntmps72
      go_wp2_with fail
      refine Calls.mono H1.out ?_
      rintro e w1 ⟨rfl, hP⟩
      have KP := hid hP
      clear hP
      go_wp2
      go_end0
      exact ⟨rfl, KP.out⟩
    rw [if_neg h8]
    have e8 : ((r : Int) == 8) = false := beq_eq_false_iff_ne.2 (by omega)
    clear h8
    by_cases h9 : r = 9
    · rw [if_pos h9]
      have e9 : ((r : Int) == 9) = true := by simp [h9]
      have H1 := hid (writeString_any B w vi vb nx ind so op ad vo bs [92, 116] h (by simp; omega))
      clear h hr h9
      go_enter Tryz.func72, Tryz.ntmps72
      go_wp2_with fail
      refine Calls.mono H1.out ?_
      rintro e w1 ⟨rfl, hP⟩
      have KP := hid hP
      clear hP
      go_wp2
      go_end0
      exact ⟨rfl, KP.out⟩
    rw [if_neg h9]
    have e9 : ((r : Int) == 9) = false := beq_eq_false_iff_ne.2 (by omega)
    clear h9
    by_cases h10 : r = 10
    · rw [if_pos h10]
      have e10 : ((r : Int) == 10) = true := by simp [h10]
      have H1 := hid (writeString_any B w vi vb nx ind so op ad vo bs [92, 110] h (by simp; omega))
      clear h hr h10
      go_enter Tryz.func72, Tryz.ntmps72
      go_wp2_with fail
      refine Calls.mono H1.out ?_
      rintro e w1 ⟨rfl, hP⟩
      have KP := hid hP
      clear hP
      go_wp2
      go_end0
      exact ⟨rfl, KP.out⟩
    rw [if_neg h10]
    have e10 : ((r : Int) == 10) = false := beq_eq_false_iff_ne.2 (by omega)
    clear h10
    by_cases h12 : r = 12
    · rw [if_pos h12]
      have e12 : ((r : Int) == 12) = true := by simp [h12]
      have H1 := hid (writeString_any B w vi vb nx ind so op ad vo bs [92, 102] h (by simp; omega))
      clear h hr h12
      go_enter Tryz.func72, Tryz.ntmps72
      go_wp2_with fail
      refine Calls.mono H1.out ?_
      rintro e w1 ⟨rfl, hP⟩
      have KP := hid hP
      clear hP
      go_wp2
      go_end0
      exact ⟨rfl, KP.out⟩
    rw [if_neg h12]
    have e12 : ((r : Int) == 12) = false := beq_eq_false_iff_ne.2 (by omega)
    clear h12
    by_cases h13 : r = 13
    · rw [if_pos h13]
      have e13 : ((r : Int) == 13) = true := by simp [h13]
      have H1 := hid (writeString_any B w vi vb nx ind so op ad vo bs [92, 114] h (by simp; omega))
      clear h hr h13
      go_enter Tryz.func72, Tryz.ntmps72
      go_wp2_with fail
      refine Calls.mono H1.out ?_
      rintro e w1 ⟨rfl, hP⟩
      have KP := hid hP
      clear hP
      go_wp2
      go_end0
      exact ⟨rfl, KP.out⟩
    rw [if_neg h13]
    have e13 : ((r : Int) == 13) = false := beq_eq_false_iff_ne.2 (by omega)
    clear h13
    by_cases h32 : r < 32
    · rw [if_pos h32]
      have e32 : decide ((r : Int) < 32) = true := decide_eq_true (by omega)
      have H1 := hid (writeCode_any B w vi vb nx ind so op ad vo bs r h (by omega) h32)
      generalize [92, 117, 48, 48, hexB (r / 16), hexB (r % 16)] = L6 at *
      clear h hr h32
      go_enter Tryz.func72, Tryz.ntmps72
      go_wp2_with fail
      refine Calls.mono H1.out ?_
      rintro e w1 ⟨rfl, hP⟩
      have KP := hid hP
      clear hP
      go_wp2
      go_end0
      exact ⟨rfl, KP.out⟩
    · rw [if_neg h32]
      have e32 : decide ((r : Int) < 32) = false := decide_eq_false (by omega)
      have H1 := hid (writeRune_any B w vi vb nx ind so op ad vo bs r h (by omega) hr)
      obtain ⟨E, hE⟩ : ∃ E, encR r = E := ⟨_, rfl⟩
      rw [hE] at H1 ⊢
      clear h hr h32 hE
      go_enter Tryz.func72, Tryz.ntmps72
      go_wp2_with fail
      refine Calls.mono H1.out ?_
      rintro e w1 ⟨⟨k9, rfl⟩, hP⟩
      have KP := hid hP
      clear hP
      go_wp2
      go_end0
      exact ⟨rfl, KP.out⟩
end Go.Proofs.YtmkkibaacclhnaaGreatDoor
