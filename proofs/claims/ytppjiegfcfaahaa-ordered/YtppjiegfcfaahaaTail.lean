/-
  A step of the walk of the numbers, the part named Tail. No theorem of the row.
-/
import Derived.Test.YtppjiegfcfaahaaWhole
namespace Go.Proofs.Ytppjiegfcfaahaa
open Go.RowKit

def z40 : List UInt8 := List.replicate 40 48
def tailL (l : List UInt8) : List UInt8 := if l.contains 101 then [] else if l.contains 46 then z40 else 46 :: z40

theorem contains_take (l : List UInt8) (k : Nat) (h : k < l.length) (c : UInt8) (n : Nat) (hc : c.toNat = n) : (l.take (k + 1)).contains c = ((l.take k).contains c || decide (l[k].toNat = n)) := by
  rw [List.take_succ_eq_append_getElem h, Bool.eq_iff_iff, Bool.or_eq_true, List.contains_iff_mem, List.contains_iff_mem, List.mem_append, List.mem_singleton, decide_eq_true_iff, ← hc, UInt8.toNat_inj]
  constructor
  · rintro (h | h)
    · exact .inl h
    · exact .inr h.symm
  · rintro (h | h)
    · exact .inl h
    · exact .inr h.symm

set_option maxRecDepth 100000 in
set_option maxHeartbeats 2000000 in
theorem tail_any (l : List UInt8) (w : World) (hl : l.length ≤ 1000) :
    Calls Try.prog 24 #[.string (ofL l)] w fun e w' => e = .returned (.string (ofL (tailL l))) ∧ w' = w := by
  have hsz := ofL_size l
  go_enter Try.func24, Try.ntmps24
  go_wp2
  go_loop [3, 4] (fun p i => ∃ (k : Nat) (pt : Bool), k ≤ l.length ∧ i = .int .i64 k ∧ p = .bool pt ∧ Hid (pt = (l.take k).contains 46) ∧ Hid ((l.take k).contains 101 = false)) (fun _ i => l.length - (intOf i).toNat)
  case atStart => exact ⟨0, false, by omega, rfl, rfl, rfl, rfl⟩
  case round =>
    obtain ⟨k, pt, hk, rfl, rfl, hp, he⟩ := hrel
    by_cases hlt : k < l.length
    · have hg : (ofL l)[k]'(by rw [hsz]; exact hlt) = l[k] := ofL_get l k _
      have c1 := contains_take l k hlt 101 101 rfl
      have c2 := contains_take l k hlt 46 46 rfl
      have C1 := hid c1
      have C2 := hid c2
      clear c1 c2
      by_cases h101 : l[k].toNat = 101
      · have hT : Hid (tailL l = []) := by
          have hm : l.contains 101 = true := by
            rw [List.contains_iff_mem]
            have : l[k] = 101 := UInt8.toNat_inj.1 (by rw [h101]; rfl)
            rw [← this]; exact List.getElem_mem hlt
          show tailL l = []
          unfold tailL; rw [if_pos hm]
        go_wp2
        go_ret
        exact ⟨by rw [hT.out]; rfl, rfl⟩
      · cases pt
        · by_cases h46 : l[k].toNat = 46
          · go_wp2
            go_round
            case rel => exact ⟨k + 1, true, by omega, by go_num, rfl, by show _ = _; exact (by rw [C2.out, decide_eq_true h46, Bool.or_true]), by show _ = _; exact (by rw [C1.out, decide_eq_false h101, Bool.or_false]; exact he.out)⟩
            case measure => simp [intOf]; omega
          · go_wp2
            go_round
            case rel => exact ⟨k + 1, false, by omega, by go_num, by rw [beq_eq_false_iff_ne.2 (by omega)], by show _ = _; exact (by rw [C2.out, decide_eq_false h46, Bool.or_false]; exact hp.out), by show _ = _; exact (by rw [C1.out, decide_eq_false h101, Bool.or_false]; exact he.out)⟩
            case measure => simp [intOf]; omega
        · go_wp2
          go_round
          case rel => exact ⟨k + 1, true, by omega, by go_num, rfl, by show _ = _; exact (by rw [C2.out, ← hp.out, Bool.true_or]), by show _ = _; exact (by rw [C1.out, decide_eq_false h101, Bool.or_false]; exact he.out)⟩
          case measure => simp [intOf]; omega
    · obtain rfl : k = l.length := by omega
      rw [List.take_length] at hp he
      cases pt
      · have hT : Hid (tailL l = 46 :: z40) := by
          show tailL l = _
          unfold tailL; rw [he.out, ← hp.out]; rfl
        go_wp2
        go_ret
        exact ⟨by rw [hT.out]; rfl, rfl⟩
      · have hT : Hid (tailL l = z40) := by
          show tailL l = _
          unfold tailL; rw [he.out, ← hp.out]; rfl
        go_wp2
        go_ret
        exact ⟨by rw [hT.out]; rfl, rfl⟩

theorem no_D {l : List UInt8} {c : UInt8} (h : AllD l) (hc : isD c = false) : c ∉ l := by
  intro hm
  rw [h c hm] at hc; cases hc

theorem tail_tok {t wh fr s ex : List UInt8} {en : Bool} (h : Tok t wh fr s ex en) : ∃ fr', Tok (t ++ tailL t) wh fr' s ex en ∧ (fr' = fr ∨ (ex = [] ∧ fr' = fr ++ z40)) := by
  have n1 := no_D (c := 101) h.w (by decide)
  have n2 := no_D (c := 46) h.w (by decide)
  have n3 := no_D (c := 101) h.f (by decide)
  by_cases hx : ex = []
  · have hz : exP s ex = [] := by rw [exP, if_pos hx]
    have hne : t.contains 101 = false := by
      rw [Bool.eq_false_iff]
      intro hc
      rw [List.contains_iff_mem, h.eq, hz, List.append_nil, List.mem_append] at hc
      rcases hc with hc | hc
      · exact n1 hc
      · unfold frP at hc
        split at hc
        · cases hc
        · rw [List.mem_cons] at hc
          rcases hc with hc | hc
          · revert hc; decide
          · exact n3 hc
    refine ⟨fr ++ z40, ⟨?_, h.w, h.f.append (allD_zeros _), h.x, h.sg, h.no, h.w0, h.w1⟩, .inr ⟨hx, rfl⟩⟩
    unfold tailL
    rw [hne, if_neg (by simp)]
    by_cases hf : fr = []
    · subst hf
      have h46 : t.contains 46 = false := by
        rw [Bool.eq_false_iff]
        intro hc
        rw [List.contains_iff_mem, h.eq, hz, frP, if_pos rfl, List.append_nil, List.append_nil] at hc
        exact n2 hc
      rw [h46, if_neg (by simp), h.eq, hz, frP, if_pos rfl]
      show _ = wh ++ (frP z40 ++ [])
      rw [frP, if_neg (by decide)]; simp
    · have h46 : t.contains 46 = true := by
        rw [List.contains_iff_mem, h.eq, frP, if_neg hf]
        simp
      rw [h46, if_pos rfl, hz]
      conv => lhs; rw [h.eq, hz, frP, if_neg hf]
      rw [frP, if_neg (by simp [hf])]
      simp
  · have hc : t.contains 101 = true := by
      rw [List.contains_iff_mem, h.eq, exP, if_neg hx]
      simp
    refine ⟨fr, ?_, .inl rfl⟩
    have : t ++ tailL t = t := by unfold tailL; rw [if_pos hc, List.append_nil]
    rw [this]; exact h

/-- noughts behind a point change nothing -/
theorem tail_same {wh fr fr' ex : List UInt8} {en : Bool} (hno : ex = [] → en = false) (h : fr' = fr ∨ (ex = [] ∧ fr' = fr ++ z40)) :
    SameV (num (dv wh ++ dv fr)) (powI (ofL wh) (ofL fr) en (ofL ex) - fr.length) (num (dv wh ++ dv fr')) (powI (ofL wh) (ofL fr') en (ofL ex) - fr'.length) := by
  rcases h with rfl | ⟨rfl, rfl⟩
  · exact SameV.refl _ _
  · have := hno rfl
    subst this
    rw [powI_nil, powI_nil, dv_append, ← List.append_assoc, show dv z40 = List.replicate 40 0 from dv_zeros 40, num_append _ (List.replicate 40 0), num_zeros, List.length_replicate, Nat.add_zero]
    have := SameV.shift (num (dv wh ++ dv fr)) 40 (0 - (fr.length : Int))
    rwa [show (0 : Int) - (fr.length : Int) - (40 : Nat) = 0 - ((fr ++ z40).length : Nat) by rw [List.length_append]; show _ = (0 : Int) - ((fr.length + 40 : Nat) : Int); omega] at this

end Go.Proofs.Ytppjiegfcfaahaa
