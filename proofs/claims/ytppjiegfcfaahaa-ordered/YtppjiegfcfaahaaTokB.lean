/-
  A step of the walk of the numbers, the part named TokB. No theorem of the row.
-/
import Derived.Test.YtppjiegfcfaahaaTok
namespace Go.Proofs.Ytppjiegfcfaahaa
open Go.RowKit

theorem dv_append (a b : List UInt8) : dv (a ++ b) = dv a ++ dv b := by simp [dv]
theorem dv_length (a : List UInt8) : (dv a).length = a.length := by simp [dv]
theorem dv_zeros (k : Nat) : dv (List.replicate k 48) = List.replicate k 0 := by simp [dv]
theorem ofNat_byte (m : Nat) (h : m < 10) : (UInt8.ofNat (48 + m)).toNat = 48 + m := UInt8.toNat_ofNat_of_lt' (by show _ < 256; omega)
theorem num_one (d : Nat) : num [d] = d := by simp [num]
theorem num_dgs (n : Nat) : num (dv (dgs n)) = n := by
  induction n using Nat.strongRecOn with
  | _ n ih =>
    by_cases h : n < 10
    · rw [dgs_lt h]
      show num [(UInt8.ofNat (48 + n)).toNat - 48] = n
      rw [ofNat_byte n h, num_one]; omega
    · rw [dgs_ge h, dv_append]
      show num (_ ++ [(UInt8.ofNat (48 + n % 10)).toNat - 48]) = n
      rw [num_snoc, ih (n / 10) (by omega), ofNat_byte _ (by omega)]; omega
theorem isD_dig (m : Nat) (h : m < 10) : isD (UInt8.ofNat (48 + m)) = true := by
  unfold isD; rw [ofNat_byte m h]; simp; omega
theorem AllD.append {a b : List UInt8} (ha : AllD a) (hb : AllD b) : AllD (a ++ b) := by
  intro c hc; rw [List.mem_append] at hc; rcases hc with hc | hc
  · exact ha c hc
  · exact hb c hc
theorem allD_zeros (k : Nat) : AllD (List.replicate k 48) := by
  intro c hc; rw [List.mem_replicate] at hc; rw [hc.2]; decide
theorem allD_nil : AllD [] := by intro c hc; cases hc
theorem allD_48 : AllD [48] := allD_zeros 1
theorem allD_dgs (n : Nat) : AllD (dgs n) := by
  induction n using Nat.strongRecOn with
  | _ n ih =>
    by_cases h : n < 10
    · rw [dgs_lt h]; intro c hc; rw [List.mem_singleton] at hc; rw [hc]; exact isD_dig n h
    · rw [dgs_ge h]
      exact (ih _ (by omega)).append (by intro c hc; rw [List.mem_singleton] at hc; rw [hc]; exact isD_dig _ (by omega))
theorem dgs_head (n : Nat) (h0 : n ≠ 0) : (dgs n).head? ≠ some 48 := by
  induction n using Nat.strongRecOn with
  | _ n ih =>
    by_cases h : n < 10
    · rw [dgs_lt h]
      intro he
      have he : UInt8.ofNat (48 + n) = 48 := Option.some.inj he
      have := congrArg UInt8.toNat he
      rw [ofNat_byte n h] at this
      have h48 : (48 : UInt8).toNat = 48 := rfl
      omega
    · rw [dgs_ge h, head_app (by intro h; have := dgs_pos (n / 10); rw [h] at this; simp at this)]
      exact ih _ (by omega) (by omega)
theorem AllD.digs {l : List UInt8} (h : AllD l) : Digs (dv l) := by
  intro d hd
  unfold dv at hd
  rw [List.mem_map] at hd
  obtain ⟨c, hc, rfl⟩ := hd
  have := h c hc
  unfold isD at this
  simp at this; omega
theorem AllD.take {l : List UInt8} (h : AllD l) (k : Nat) : AllD (l.take k) := fun c hc => h c (List.mem_of_mem_take hc)
theorem AllD.drop {l : List UInt8} (h : AllD l) (k : Nat) : AllD (l.drop k) := fun c hc => h c (List.mem_of_mem_drop hc)

theorem SameV.refl (c : Nat) (pw : Int) : SameV c pw c pw := rfl

/-- what a token says -/
structure Tok (t wh fr s ex : List UInt8) (en : Bool) : Prop where
  eq : t = wh ++ (frP fr ++ exP s ex)
  w : AllD wh
  f : AllD fr
  x : AllD ex
  sg : SgOk s en
  no : ex = [] → en = false
  w0 : wh ≠ []
  w1 : ¬ (wh.head? = some 48 ∧ 1 < wh.length)

theorem powI_nil (wh fr : List UInt8) : powI (ofL wh) (ofL fr) false (ofL []) = 0 := by
  unfold powI
  rw [dig_ofL]
  simp [dv, num]

theorem powI_dgs (wh fr : List UInt8) (k : Nat) (en : Bool) : powI (ofL wh) (ofL fr) en (ofL (dgs k)) = if en then -(k : Int) else k := by
  unfold powI
  rw [dig_ofL, num_dgs]

theorem frP_drop (l : List UInt8) (k : Nat) : frP (l.drop k) = if k < l.length then 46 :: l.drop k else [] := by
  unfold frP
  by_cases h : k < l.length
  · rw [if_neg (by rw [List.drop_eq_nil_iff]; omega), if_pos h]
  · rw [if_pos (by rw [List.drop_eq_nil_iff]; omega), if_neg h]

theorem lay_tok (D : Nat) (pw : Int) (hD : D ≠ 0) (hl : (dgs D).length ≤ 20) (h1 : -324 < ((dgs D).length : Int) + pw) (h2 : ((dgs D).length : Int) + pw < 310) :
    ∃ wh fr s ex en, Tok (layL (dgs D) pw) wh fr s ex en ∧ wh.length + fr.length ≤ 100 ∧ SameV D pw (num (dv wh ++ dv fr)) (powI (ofL wh) (ofL fr) en (ofL ex) - fr.length) := by
  have hnum := num_dgs D
  have hA := allD_dgs D
  have hH := dgs_head D hD
  have hp := dgs_pos D
  generalize dgs D = l at *
  have hne : l ≠ [] := by intro h; rw [h] at hp; simp at hp
  unfold layL
  by_cases c1 : (l.length : Int) + pw > 21 ∨ (l.length : Int) + pw < -5
  · rw [if_pos c1]
    have key : ∀ (en : Bool) (k : Nat), k ≤ 632 → (if en then -(k : Int) else k) = (l.length : Int) + pw - 1 →
        Tok (l.take 1 ++ (if 1 < l.length then 46 :: l.drop 1 else []) ++ (101 :: ((if en then [45] else [43]) ++ dgs k))) (l.take 1) (l.drop 1) (if en then [45] else [43]) (dgs k) en ∧ (l.take 1).length + (l.drop 1).length ≤ 100 ∧
        SameV D pw (num (dv (l.take 1) ++ dv (l.drop 1))) (powI (ofL (l.take 1)) (ofL (l.drop 1)) en (ofL (dgs k)) - (l.drop 1).length) := by
      intro en k hk hx
      have hk0 : dgs k ≠ [] := by intro h; have := dgs_pos k; rw [h] at this; simp at this
      refine ⟨⟨?_, hA.take 1, hA.drop 1, allD_dgs k, ?_, fun h => absurd h hk0, ?_, ?_⟩, ?_, ?_⟩
      · rw [frP_drop, exP, if_neg hk0, List.append_assoc]
      · cases en
        · exact .inr (.inl ⟨rfl, rfl⟩)
        · exact .inr (.inr ⟨rfl, rfl⟩)
      · simp [hne]
      · rw [List.length_take]; omega
      · rw [List.length_take, List.length_drop]; omega
      · rw [← dv_append, List.take_append_drop, hnum, powI_dgs _ _ _ _, hx, List.length_drop, show (l.length : Int) + pw - 1 - (l.length - 1 : Nat) = pw by omega]
        exact SameV.refl _ _
    unfold expL
    by_cases hx : (l.length : Int) + pw - 1 < 0
    · rw [if_pos hx]
      exact ⟨_, _, _, _, true, key true (-((l.length : Int) + pw - 1)).toNat (by omega) (by simp; omega)⟩
    · rw [if_neg hx]
      exact ⟨_, _, _, _, false, key false ((l.length : Int) + pw - 1).toNat (by omega) (by simp; omega)⟩
  · rw [if_neg c1]
    by_cases c2 : (l.length : Int) + pw ≤ 0
    · rw [if_pos c2]
      have hf0 : List.replicate (-((l.length : Int) + pw)).toNat 48 ++ l ≠ [] := by simp [hne]
      refine ⟨[48], List.replicate (-((l.length : Int) + pw)).toNat 48 ++ l, [], [], false, ⟨?_, allD_48, (allD_zeros _).append hA, allD_nil, .inl ⟨rfl, rfl⟩, fun _ => rfl, by simp, by simp⟩, by simp; omega, ?_⟩
      · rw [frP, if_neg hf0, exP, if_pos rfl]; simp
      · rw [powI_nil, dv_append, dv_zeros]
        rw [show dv [48] ++ (List.replicate (-((l.length : Int) + pw)).toNat 0 ++ dv l) = List.replicate ((-((l.length : Int) + pw)).toNat + 1) 0 ++ dv l from by rw [List.replicate_succ]; rfl]
        rw [num_append, num_zeros, Nat.zero_mul, Nat.zero_add, hnum, List.length_append, List.length_replicate, show (0 : Int) - (((-((l.length : Int) + pw)).toNat + l.length : Nat) : Int) = pw by omega]
        exact SameV.refl _ _
    · rw [if_neg c2]
      by_cases c3 : 0 ≤ pw
      · rw [if_pos c3]
        obtain ⟨k, rfl⟩ : ∃ k : Nat, pw = (k : Int) := ⟨pw.toNat, by omega⟩
        rw [show (k : Int).toNat = k by omega]
        refine ⟨l ++ List.replicate k 48, [], [], [], false, ⟨?_, hA.append (allD_zeros _), allD_nil, allD_nil, .inl ⟨rfl, rfl⟩, fun _ => rfl, by simp [hne], ?_⟩, by simp; omega, ?_⟩
        · simp [frP, exP]
        · rw [head_app hne]; exact fun h => hH h.1
        · rw [powI_nil, dv_append, dv_zeros]
          show SameV D k (num (dv l ++ List.replicate k 0 ++ [])) 0
          rw [List.append_nil, num_append, num_zeros, hnum, List.length_replicate, Nat.add_zero]
          unfold SameV
          rw [show (k : Int).toNat = k by omega, show (-(k : Int)).toNat = 0 by omega]
          show D * p10 k * p10 0 = D * p10 k * p10 0 * p10 0
          rw [show p10 0 = 1 from rfl, Nat.mul_one, Nat.mul_one]
      · rw [if_neg c3]
        obtain ⟨k, hk⟩ : ∃ k : Nat, (l.length : Int) + pw = k := ⟨((l.length : Int) + pw).toNat, by omega⟩
        rw [hk, show (k : Int).toNat = k by omega]
        refine ⟨l.take k, l.drop k, [], [], false, ⟨?_, hA.take k, hA.drop k, allD_nil, .inl ⟨rfl, rfl⟩, fun _ => rfl, ?_, ?_⟩, ?_, ?_⟩
        · rw [frP_drop, if_pos (by omega), exP, if_pos rfl]; simp
        · rw [Ne, List.take_eq_nil_iff]; simp [hne]; omega
        · intro h
          have := h.1
          rw [List.head?_take, if_neg (by omega)] at this
          exact hH this
        · rw [List.length_take, List.length_drop]; omega
        · rw [powI_nil, ← dv_append, List.take_append_drop, hnum, List.length_drop, show (0 : Int) - ((l.length - k : Nat) : Int) = pw by omega]
          exact SameV.refl _ _
end Go.Proofs.Ytppjiegfcfaahaa
