/-
  A step of the walk of the numbers, the part named Xab: the digits and the point of a printed token. No theorem of the row.
-/
import Derived.Test.YtmkkibaacclhnaaKep
namespace Go.Proofs.Ytmkkibaacclhnaa
open Go.RowKit

/-- one more byte, of which a digit is taken -/
def scan1 (d : List UInt8) (c : UInt8) : List UInt8 := if isD c = true ∧ (d ≠ [] ∨ c ≠ 48) then d ++ [c] else d
def scan (l : List UInt8) : List UInt8 := l.foldl scan1 []
theorem scan_snoc (l : List UInt8) (c : UInt8) : scan (l ++ [c]) = scan1 (scan l) c := by simp [scan]
theorem scan_len (l : List UInt8) : (scan l).length ≤ l.length := by
  have : ∀ (l d : List UInt8), (l.foldl scan1 d).length ≤ d.length + l.length := by
    intro l
    induction l with
    | nil => intro d; simp
    | cons c l ih =>
      intro d
      have h1 := ih (scan1 d c)
      have h2 : (scan1 d c).length ≤ d.length + 1 := by unfold scan1; split <;> simp
      simp only [List.foldl_cons, List.length_cons]
      omega
  have := this l []
  simpa [scan] using this
/-- without the noughts at the end -/
def strip (l : List UInt8) : List UInt8 := (l.reverse.dropWhile (fun c => decide (c = 48))).reverse
theorem strip_nil : strip [] = [] := rfl
theorem strip_zero (m : List UInt8) : strip (m ++ [48]) = strip m := by simp [strip]
theorem strip_no (m : List UInt8) (c : UInt8) (h : c ≠ 48) : strip (m ++ [c]) = m ++ [c] := by simp [strip, h]

/-- ahead of an e -/
def noE (l : List UInt8) : List UInt8 := l.takeWhile (fun c => decide (c ≠ 101))
theorem noE_at (l : List UInt8) (k : Nat) (h1 : ∀ c ∈ l.take k, c ≠ 101) (h2 : l.length ≤ k ∨ ∃ h : k < l.length, l[k] = 101) : noE l = l.take k := by
  induction l generalizing k with
  | nil => simp [noE]
  | cons x r ih =>
    cases k with
    | zero =>
      rcases h2 with h2 | ⟨h, h2⟩
      · simp at h2
      · simp at h2
        simp [noE, h2]
    | succ k =>
      have hx := h1 x (by simp)
      have := ih k (fun c hc => h1 c (by simp [hc])) (by
        rcases h2 with h2 | ⟨h, h2⟩
        · left; simpa using h2
        · right; exact ⟨by simpa using h, by simpa using h2⟩)
      unfold noE at this ⊢
      rw [List.takeWhile_cons, if_pos (by simp [hx]), this, List.take_succ_cons]

theorem toList_ofL_nil (m : List UInt8) : (ofL m).toList.isEmpty = decide (m = []) := by
  rw [ofL_toList]
  cases m <;> rfl

set_option maxRecDepth 100000 in
set_option maxHeartbeats 4000000 in
theorem digits_any (l : List UInt8) (w : World) (hl : l.length ≤ 1000) :
    Calls Try.prog 18 #[.string (ofL l)] w fun e w' => e = .returned (.string (ofL (strip (scan (noE l))))) ∧ w' = w := by
  have hsz := ofL_size l
  go_enter Try.func18, Try.ntmps18
  go_wp2
  go_loop [3, 4] (fun d i => ∃ k : Nat, k ≤ l.length ∧ i = .int .i64 k ∧ d = .string (ofL (scan (l.take k))) ∧ Hid (∀ c ∈ l.take k, c ≠ 101)) (fun _ i => l.length - (intOf i).toNat)
  case atStart => exact ⟨0, by omega, rfl, rfl, hid (by simp)⟩
  case round =>
    obtain ⟨k, hk, rfl, rfl, hE⟩ := hrel
    have hsl := scan_len (l.take k)
    rw [List.length_take_of_le hk] at hsl
    by_cases hlt : k < l.length
    · have hg : (ofL l)[k]'(by rw [hsz]; exact hlt) = l[k] := ofL_get l k _
      have htk := List.take_succ_eq_append_getElem hlt
      by_cases h101 : l[k] = 101
      · have HX := hid (noE_at l k hE.out (.inr ⟨hlt, h101⟩))
        have hx1 : l[k].toNat = 101 := by rw [h101]; rfl
        clear htk hE h101
        go_wp2
        go_loop [3] (fun d => ∃ m : List UInt8, d = .string (ofL m) ∧ m.length ≤ 1000 ∧ Hid (strip m = strip (scan (noE l)))) (fun d => match d with | .string s => s.size | _ => 0)
        case atStart => exact ⟨_, rfl, by omega, hid (by rw [HX.out])⟩
        case round =>
          obtain ⟨m, rfl, hm, hs⟩ := hrel
          rcases List.eq_nil_or_concat m with rfl | ⟨m', c, rfl⟩
          · have hne : (ofL []).toList.isEmpty = true := by rw [ofL_toList]; rfl
            go_wp2
            go_ret
            exact ⟨by rw [← hs.out]; rfl, rfl⟩
          · rw [List.concat_eq_append] at hs hm ⊢
            have hz : (ofL (m' ++ [c])).size = m'.length + 1 := by rw [ofL_size]; simp
            have hne : (ofL (m' ++ [c])).toList.isEmpty = false := by rw [ofL_toList]; simp
            have hg : (ofL (m' ++ [c]))[m'.length]'(by omega) = c := by rw [ofL_get]; simp
            have hx : (ofL (m' ++ [c])).extract 0 m'.length = ofL m' := by rw [ofL_extract]; simp
            have hml : m'.length ≤ 1000 := by simp at hm; omega
            by_cases hc : c = 48
            · subst hc
              have HS := hid (show strip m' = strip (scan (noE l)) from by rw [← hs.out, strip_zero])
              clear hs hm
              go_wp2
              go_round
              case rel => exact ⟨m', rfl, hml, HS.out⟩
              case measure => simp [ofL_size, hz]
            · have hcn : ((c.toNat : Int) == 48) = false := beq_eq_false_iff_ne.2 (by have := toNat_ne hc; simp at this; omega)
              have HS := hid (show strip (scan (noE l)) = m' ++ [c] from by rw [← hs.out, strip_no _ _ hc])
              clear hs
              go_wp2
              go_ret
              exact ⟨by rw [HS.out]; rfl, rfl⟩

      · have hn1 : ((l[k].toNat : Int) != 101) = true := by rw [bne_iff_ne]; have := toNat_ne h101; simp at this; omega
        have hE2 : Hid (∀ c ∈ l.take (k + 1), c ≠ 101) := by
          rw [Hid, htk]
          intro c hc
          rcases List.mem_append.1 hc with hc | hc
          · exact hE.out c hc
          · simp at hc; subst hc; exact h101
        have hsn : Hid (scan (l.take (k + 1)) = scan1 (scan (l.take k)) l[k]) := by rw [Hid, htk, scan_snoc]
        have hex : (ofL l).extract k (k + 1) = ofL [l[k]] := by rw [ofL_extract, htk, List.drop_append, List.length_take_of_le hk]; simp
        have happ : ofL (scan (l.take k)) ++ ofL [l[k]] = ofL (scan (l.take k) ++ [l[k]]) := by apply ByteArray.ext; simp [ofL]
        have hne := toList_ofL_nil (scan (l.take k))
        have hz := ofL_size (scan (l.take k))
        have hz1 : (ofL [l[k]]).size = 1 := rfl
        clear hE h101 htk
        generalize scan (l.take k) = d at *
        generalize hcc : l[k] = c at *
        by_cases hd : isD c = true
        · obtain ⟨ha, hb⟩ := (isD_iff c).1 hd
          by_cases hdn : d = []
          · rw [decide_eq_true hdn] at hne
            by_cases h48 : c = 48
            · have HR := hid (show scan1 d c = d from if_neg (by rintro ⟨_, h | h⟩; exact h hdn; exact h h48))
              have hx48 : ((c.toNat : Int) != 48) = false := by rw [h48]; rfl
              clear hd hdn h48 hcc
              go_wp2
              go_round
              case rel => exact ⟨k + 1, by omega, by go_num, by rw [hsn.out, HR.out], hE2⟩
              case measure => simp [intOf]; omega
            · have HR := hid (show scan1 d c = d ++ [c] from if_pos ⟨hd, .inr h48⟩)
              have hx48 : ((c.toNat : Int) != 48) = true := by rw [bne_iff_ne]; have := toNat_ne h48; simp at this; omega
              clear hd hdn h48 hcc
              go_wp2
              go_round
              case rel => exact ⟨k + 1, by omega, by go_num, by rw [hsn.out, HR.out], hE2⟩
              case measure => simp [intOf]; omega
          · rw [decide_eq_false hdn] at hne
            have HR := hid (show scan1 d c = d ++ [c] from if_pos ⟨hd, .inl hdn⟩)
            clear hd hdn hcc
            go_wp2
            go_round
            case rel => exact ⟨k + 1, by omega, by go_num, by rw [hsn.out, HR.out], hE2⟩
            case measure => simp [intOf]; omega
        · have HR := hid (show scan1 d c = d from if_neg (by rintro ⟨h, _⟩; exact hd h))
          have hr := mt (isD_iff c).2 hd
          by_cases ha : 48 ≤ c.toNat
          · have hb : 57 < c.toNat := by omega
            clear hd hcc hr
            go_wp2
            go_round
            case rel => exact ⟨k + 1, by omega, by go_num, by rw [hsn.out, HR.out], hE2⟩
            case measure => simp [intOf]; omega
          · clear hd hcc hr
            go_wp2
            go_round
            case rel => exact ⟨k + 1, by omega, by go_num, by rw [hsn.out, HR.out], hE2⟩
            case measure => simp [intOf]; omega
    · obtain rfl : k = l.length := by omega
      have HX := hid (noE_at l l.length hE.out (.inl (Nat.le_refl _)))
      rw [List.take_length] at HX hsl ⊢
      clear hE
      go_wp2
      go_loop [3] (fun d => ∃ m : List UInt8, d = .string (ofL m) ∧ m.length ≤ 1000 ∧ Hid (strip m = strip (scan (noE l)))) (fun d => match d with | .string s => s.size | _ => 0)
      case atStart => exact ⟨_, rfl, by omega, hid (by rw [HX.out])⟩
      case round =>
        obtain ⟨m, rfl, hm, hs⟩ := hrel
        rcases List.eq_nil_or_concat m with rfl | ⟨m', c, rfl⟩
        · have hne : (ofL []).toList.isEmpty = true := by rw [ofL_toList]; rfl
          go_wp2
          go_ret
          exact ⟨by rw [← hs.out]; rfl, rfl⟩
        · rw [List.concat_eq_append] at hs hm ⊢
          have hz : (ofL (m' ++ [c])).size = m'.length + 1 := by rw [ofL_size]; simp
          have hne : (ofL (m' ++ [c])).toList.isEmpty = false := by rw [ofL_toList]; simp
          have hg : (ofL (m' ++ [c]))[m'.length]'(by omega) = c := by rw [ofL_get]; simp
          have hx : (ofL (m' ++ [c])).extract 0 m'.length = ofL m' := by rw [ofL_extract]; simp
          have hml : m'.length ≤ 1000 := by simp at hm; omega
          by_cases hc : c = 48
          · subst hc
            have HS := hid (show strip m' = strip (scan (noE l)) from by rw [← hs.out, strip_zero])
            clear hs hm
            go_wp2
            go_round
            case rel => exact ⟨m', rfl, hml, HS.out⟩
            case measure => simp [ofL_size, hz]
          · have hcn : ((c.toNat : Int) == 48) = false := beq_eq_false_iff_ne.2 (by have := toNat_ne hc; simp at this; omega)
            have HS := hid (show strip (scan (noE l)) = m' ++ [c] from by rw [← hs.out, strip_no _ _ hc])
            clear hs
            go_wp2
            go_ret
            exact ⟨by rw [HS.out]; rfl, rfl⟩

end Go.Proofs.Ytmkkibaacclhnaa

namespace Go.Proofs.Ytmkkibaacclhnaa
open Go.RowKit

/-- what of a token is known of its point: whether one came, the digits ahead of it, whether a digit that is not 0 came -/
structure Wh where
  seen : Bool
  ahead : Int
  first : Bool
def wh1 (x : Wh) (c : UInt8) : Wh :=
  if c = 46 then ⟨true, x.ahead, x.first⟩ else if c = 45 then x else if c ≠ 48 ∨ x.first = true then ⟨x.seen, if x.seen then x.ahead else x.ahead + 1, true⟩ else if x.seen = true then ⟨x.seen, x.ahead - 1, x.first⟩ else x
def whs (l : List UInt8) : Wh := l.foldl wh1 ⟨false, 0, false⟩
theorem whs_snoc (l : List UInt8) (c : UInt8) : whs (l ++ [c]) = wh1 (whs l) c := by simp [whs]
theorem wh1_bd (x : Wh) (c : UInt8) : x.ahead - 1 ≤ (wh1 x c).ahead ∧ (wh1 x c).ahead ≤ x.ahead + 1 := by
  unfold wh1
  by_cases h1 : c = 46
  · rw [if_pos h1]; simp only; omega
  · rw [if_neg h1]
    by_cases h2 : c = 45
    · rw [if_pos h2]; omega
    · rw [if_neg h2]
      by_cases h3 : c ≠ 48 ∨ x.first = true
      · rw [if_pos h3]; simp only; split <;> omega
      · rw [if_neg h3]
        by_cases h4 : x.seen = true
        · rw [if_pos h4]; simp only; omega
        · rw [if_neg h4]; omega
theorem whs_bd (l : List UInt8) : -(l.length : Int) ≤ (whs l).ahead ∧ (whs l).ahead ≤ l.length := by
  have : ∀ (l : List UInt8) (x : Wh), x.ahead - l.length ≤ (l.foldl wh1 x).ahead ∧ (l.foldl wh1 x).ahead ≤ x.ahead + l.length := by
    intro l
    induction l with
    | nil => intro x; simp
    | cons c l ih =>
      intro x
      have h1 := ih (wh1 x c)
      have h2 := wh1_bd x c
      simp only [List.foldl_cons, List.length_cons]
      omega
  have := this l ⟨false, 0, false⟩
  simp only [whs]
  simp only at this
  omega

set_option maxRecDepth 100000 in
set_option maxHeartbeats 8000000 in
theorem where_plain (pre l : List UInt8) (w : World) (hl : l.length ≤ 1000) (hpl : l = pre ++ []) (hE : ∀ c ∈ pre, c ≠ 101) : 
    Calls Try.prog 19 #[.string (ofL l)] w fun e w' => e = .returned (.int .i64 ((whs pre).ahead - 1)) ∧ w' = w := by
  have hsz := ofL_size l
  go_enter Try.func19, Try.ntmps19
  go_wp2
  go_loop [4, 5, 6, 7] (fun se ah fi i => ∃ k : Nat, k ≤ pre.length ∧ i = .int .i64 k ∧ se = .bool (whs (pre.take k)).seen ∧ ah = .int .i64 (whs (pre.take k)).ahead ∧ fi = .bool (whs (pre.take k)).first) (fun _ _ _ i => l.length - (intOf i).toNat)
  case atStart => exact ⟨0, by omega, rfl, rfl, rfl, rfl⟩
  case round =>
    obtain ⟨k, hk, rfl, rfl, rfl, rfl⟩ := hrel
    have hbd := whs_bd (pre.take k)
    rw [List.length_take_of_le hk] at hbd
    by_cases hlt : k < pre.length
    ·
      have hgl : l[k]'(by rw [hpl]; simp; omega) = pre[k] := by
        simp only [hpl]
        rw [List.getElem_append_left hlt]
      have hlk : k < l.length := by rw [hpl]; simp; omega
      have hg : (ofL l)[k]'(by rw [hsz]; exact hlk) = pre[k] := (ofL_get l k _).trans hgl
      have hc1 := hE _ (List.getElem_mem hlt)
      have hsn : Hid (whs (pre.take (k + 1)) = wh1 (whs (pre.take k)) pre[k]) := by rw [Hid, List.take_succ_eq_append_getElem hlt, whs_snoc]
      have n101 : ((pre[k].toNat : Int) == 101) = false := beq_eq_false_iff_ne.2 (by have := toNat_ne hc1; simp at this; omega)
      clear hgl hpl
      generalize whs (pre.take k) = x at *
      obtain ⟨se, ah, fi⟩ := x
      simp only at hbd
      generalize hcc : pre[k] = c at *
      clear hE
      by_cases h46 : c = 46
      · subst h46
        have HR := hid (show wh1 ⟨se, ah, fi⟩ 46 = ⟨true, ah, fi⟩ from if_pos rfl)
        clear hcc hc1
        go_wp2
        go_round
        case rel => exact ⟨k + 1, by omega, by go_num, by rw [hsn.out, HR.out], by rw [hsn.out, HR.out], by rw [hsn.out, HR.out]⟩
        case measure => simp [intOf]; omega
      · have n46 : ((c.toNat : Int) == 46) = false := beq_eq_false_iff_ne.2 (by have := toNat_ne h46; simp at this; omega)
        by_cases h45 : c = 45
        · subst h45
          have HR := hid (show wh1 ⟨se, ah, fi⟩ 45 = ⟨se, ah, fi⟩ from by unfold wh1; rw [if_neg (by decide), if_pos rfl])
          clear hcc hc1 h46
          go_wp2
          go_round
          case rel => exact ⟨k + 1, by omega, by go_num, by rw [hsn.out, HR.out], by rw [hsn.out, HR.out], by rw [hsn.out, HR.out]⟩
          case measure => simp [intOf]; omega
        · have n45 : ((c.toNat : Int) == 45) = false := beq_eq_false_iff_ne.2 (by have := toNat_ne h45; simp at this; omega)
          by_cases h48 : c = 48
          · subst h48
            cases fi
            · cases se
              · have HR := hid (show wh1 ⟨false, ah, false⟩ 48 = ⟨false, ah, false⟩ from by unfold wh1; rw [if_neg (by decide), if_neg (by decide), if_neg (by simp), if_neg (by simp)])
                clear hcc hc1 h46 h45
                go_wp2
                go_round
                case rel => exact ⟨k + 1, by omega, by go_num, by rw [hsn.out, HR.out], by rw [hsn.out, HR.out], by rw [hsn.out, HR.out]⟩
                case measure => simp [intOf]; omega
              · have HR := hid (show wh1 ⟨true, ah, false⟩ 48 = ⟨true, ah - 1, false⟩ from by unfold wh1; rw [if_neg (by decide), if_neg (by decide), if_neg (by simp), if_pos rfl])
                clear hcc hc1 h46 h45
                go_wp2
                go_round
                case rel => exact ⟨k + 1, by omega, by go_num, by rw [hsn.out, HR.out], by rw [hsn.out, HR.out], by rw [hsn.out, HR.out]⟩
                case measure => simp [intOf]; omega
            · cases se
              · have HR := hid (show wh1 ⟨false, ah, true⟩ 48 = ⟨false, ah + 1, true⟩ from by unfold wh1; rw [if_neg (by decide), if_neg (by decide), if_pos (.inr rfl)]; rfl)
                clear hcc hc1 h46 h45
                go_wp2
                go_round
                case rel => exact ⟨k + 1, by omega, by go_num, by rw [hsn.out, HR.out], by rw [hsn.out, HR.out], by rw [hsn.out, HR.out]⟩
                case measure => simp [intOf]; omega
              · have HR := hid (show wh1 ⟨true, ah, true⟩ 48 = ⟨true, ah, true⟩ from by unfold wh1; rw [if_neg (by decide), if_neg (by decide), if_pos (.inr rfl)]; rfl)
                clear hcc hc1 h46 h45
                go_wp2
                go_round
                case rel => exact ⟨k + 1, by omega, by go_num, by rw [hsn.out, HR.out], by rw [hsn.out, HR.out], by rw [hsn.out, HR.out]⟩
                case measure => simp [intOf]; omega
          · have n48 : ((c.toNat : Int) != 48) = true := by rw [bne_iff_ne]; have := toNat_ne h48; simp at this; omega
            cases se
            · have HR := hid (show wh1 ⟨false, ah, fi⟩ c = ⟨false, ah + 1, true⟩ from by unfold wh1; rw [if_neg h46, if_neg h45, if_pos (.inl h48)]; rfl)
              clear hcc hc1 h46 h45 h48
              go_wp2
              go_round
              case rel => exact ⟨k + 1, by omega, by go_num, by rw [hsn.out, HR.out], by rw [hsn.out, HR.out], by rw [hsn.out, HR.out]⟩
              case measure => simp [intOf]; omega
            · have HR := hid (show wh1 ⟨true, ah, fi⟩ c = ⟨true, ah, true⟩ from by unfold wh1; rw [if_neg h46, if_neg h45, if_pos (.inl h48)]; rfl)
              clear hcc hc1 h46 h45 h48
              go_wp2
              go_round
              case rel => exact ⟨k + 1, by omega, by go_num, by rw [hsn.out, HR.out], by rw [hsn.out, HR.out], by rw [hsn.out, HR.out]⟩
              case measure => simp [intOf]; omega
    · obtain rfl : k = pre.length := by omega
      have hll : l.length = pre.length := by rw [hpl]; simp
      rw [List.take_length] at hbd ⊢
      clear hE hpl
      go_wp2
      go_ret
      exact ⟨rfl, rfl⟩

set_option maxRecDepth 100000 in
set_option maxHeartbeats 8000000 in
theorem where_exp (pre l : List UInt8) (sg : UInt8) (ex : List UInt8) (w : World) (hl : l.length ≤ 1000) (hpl : l = pre ++ 101 :: sg :: ex) (hE : ∀ c ∈ pre, c ≠ 101) (hx : AllD ex) (hxl : ex.length ≤ 8) (v : Int) (hv : Hid (v = if sg = 45 then -(num (dv ex) : Int) else num (dv ex))) : 
    Calls Try.prog 19 #[.string (ofL l)] w fun e w' => e = .returned (.int .i64 (v + (whs pre).ahead - 1)) ∧ w' = w := by
  have hsz := ofL_size l
  go_enter Try.func19, Try.ntmps19
  go_wp2
  go_loop [4, 5, 6, 7] (fun se ah fi i => ∃ k : Nat, k ≤ pre.length ∧ i = .int .i64 k ∧ se = .bool (whs (pre.take k)).seen ∧ ah = .int .i64 (whs (pre.take k)).ahead ∧ fi = .bool (whs (pre.take k)).first) (fun _ _ _ i => l.length - (intOf i).toNat)
  case atStart => exact ⟨0, by omega, rfl, rfl, rfl, rfl⟩
  case round =>
    obtain ⟨k, hk, rfl, rfl, rfl, rfl⟩ := hrel
    have hbd := whs_bd (pre.take k)
    rw [List.length_take_of_le hk] at hbd
    by_cases hlt : k < pre.length
    ·
      have hgl : l[k]'(by rw [hpl]; simp; omega) = pre[k] := by
        simp only [hpl]
        rw [List.getElem_append_left hlt]
      have hlk : k < l.length := by rw [hpl]; simp; omega
      have hg : (ofL l)[k]'(by rw [hsz]; exact hlk) = pre[k] := (ofL_get l k _).trans hgl
      have hc1 := hE _ (List.getElem_mem hlt)
      have hsn : Hid (whs (pre.take (k + 1)) = wh1 (whs (pre.take k)) pre[k]) := by rw [Hid, List.take_succ_eq_append_getElem hlt, whs_snoc]
      have n101 : ((pre[k].toNat : Int) == 101) = false := beq_eq_false_iff_ne.2 (by have := toNat_ne hc1; simp at this; omega)
      clear hgl hpl
      generalize whs (pre.take k) = x at *
      obtain ⟨se, ah, fi⟩ := x
      simp only at hbd
      generalize hcc : pre[k] = c at *
      clear hE
      by_cases h46 : c = 46
      · subst h46
        have HR := hid (show wh1 ⟨se, ah, fi⟩ 46 = ⟨true, ah, fi⟩ from if_pos rfl)
        clear hcc hc1
        go_wp2
        go_round
        case rel => exact ⟨k + 1, by omega, by go_num, by rw [hsn.out, HR.out], by rw [hsn.out, HR.out], by rw [hsn.out, HR.out]⟩
        case measure => simp [intOf]; omega
      · have n46 : ((c.toNat : Int) == 46) = false := beq_eq_false_iff_ne.2 (by have := toNat_ne h46; simp at this; omega)
        by_cases h45 : c = 45
        · subst h45
          have HR := hid (show wh1 ⟨se, ah, fi⟩ 45 = ⟨se, ah, fi⟩ from by unfold wh1; rw [if_neg (by decide), if_pos rfl])
          clear hcc hc1 h46
          go_wp2
          go_round
          case rel => exact ⟨k + 1, by omega, by go_num, by rw [hsn.out, HR.out], by rw [hsn.out, HR.out], by rw [hsn.out, HR.out]⟩
          case measure => simp [intOf]; omega
        · have n45 : ((c.toNat : Int) == 45) = false := beq_eq_false_iff_ne.2 (by have := toNat_ne h45; simp at this; omega)
          by_cases h48 : c = 48
          · subst h48
            cases fi
            · cases se
              · have HR := hid (show wh1 ⟨false, ah, false⟩ 48 = ⟨false, ah, false⟩ from by unfold wh1; rw [if_neg (by decide), if_neg (by decide), if_neg (by simp), if_neg (by simp)])
                clear hcc hc1 h46 h45
                go_wp2
                go_round
                case rel => exact ⟨k + 1, by omega, by go_num, by rw [hsn.out, HR.out], by rw [hsn.out, HR.out], by rw [hsn.out, HR.out]⟩
                case measure => simp [intOf]; omega
              · have HR := hid (show wh1 ⟨true, ah, false⟩ 48 = ⟨true, ah - 1, false⟩ from by unfold wh1; rw [if_neg (by decide), if_neg (by decide), if_neg (by simp), if_pos rfl])
                clear hcc hc1 h46 h45
                go_wp2
                go_round
                case rel => exact ⟨k + 1, by omega, by go_num, by rw [hsn.out, HR.out], by rw [hsn.out, HR.out], by rw [hsn.out, HR.out]⟩
                case measure => simp [intOf]; omega
            · cases se
              · have HR := hid (show wh1 ⟨false, ah, true⟩ 48 = ⟨false, ah + 1, true⟩ from by unfold wh1; rw [if_neg (by decide), if_neg (by decide), if_pos (.inr rfl)]; rfl)
                clear hcc hc1 h46 h45
                go_wp2
                go_round
                case rel => exact ⟨k + 1, by omega, by go_num, by rw [hsn.out, HR.out], by rw [hsn.out, HR.out], by rw [hsn.out, HR.out]⟩
                case measure => simp [intOf]; omega
              · have HR := hid (show wh1 ⟨true, ah, true⟩ 48 = ⟨true, ah, true⟩ from by unfold wh1; rw [if_neg (by decide), if_neg (by decide), if_pos (.inr rfl)]; rfl)
                clear hcc hc1 h46 h45
                go_wp2
                go_round
                case rel => exact ⟨k + 1, by omega, by go_num, by rw [hsn.out, HR.out], by rw [hsn.out, HR.out], by rw [hsn.out, HR.out]⟩
                case measure => simp [intOf]; omega
          · have n48 : ((c.toNat : Int) != 48) = true := by rw [bne_iff_ne]; have := toNat_ne h48; simp at this; omega
            cases se
            · have HR := hid (show wh1 ⟨false, ah, fi⟩ c = ⟨false, ah + 1, true⟩ from by unfold wh1; rw [if_neg h46, if_neg h45, if_pos (.inl h48)]; rfl)
              clear hcc hc1 h46 h45 h48
              go_wp2
              go_round
              case rel => exact ⟨k + 1, by omega, by go_num, by rw [hsn.out, HR.out], by rw [hsn.out, HR.out], by rw [hsn.out, HR.out]⟩
              case measure => simp [intOf]; omega
            · have HR := hid (show wh1 ⟨true, ah, fi⟩ c = ⟨true, ah, true⟩ from by unfold wh1; rw [if_neg h46, if_neg h45, if_pos (.inl h48)]; rfl)
              clear hcc hc1 h46 h45 h48
              go_wp2
              go_round
              case rel => exact ⟨k + 1, by omega, by go_num, by rw [hsn.out, HR.out], by rw [hsn.out, HR.out], by rw [hsn.out, HR.out]⟩
              case measure => simp [intOf]; omega
    · obtain rfl : k = pre.length := by omega
      have hll : l.length = pre.length + 2 + ex.length := by rw [hpl]; simp; omega
      rw [List.take_length] at hbd ⊢
      have hg0 : (ofL l)[pre.length]'(by rw [hsz]; omega) = 101 := by rw [ofL_get]; simp [hpl]
      have hg1 : (ofL l)[pre.length + 1]'(by rw [hsz]; omega) = sg := by rw [ofL_get]; simp [hpl]
      have hgx : ∀ j (hj : j < ex.length), (ofL l)[pre.length + 2 + j]'(by rw [hsz]; omega) = ex[j] := by
        intro j hj
        rw [ofL_get]
        simp only [hpl]
        rw [List.getElem_append_right (by omega)]
        simp [show pre.length + 2 + j - pre.length = j + 2 by omega]
      have HGX := hid hgx
      have hnum := num_lt (dv ex) (by
        intro d hd
        rw [dv, List.mem_map] at hd
        obtain ⟨c, hc, rfl⟩ := hd
        have := (isD_iff c).1 (hx c hc)
        omega)
      clear hE hpl hgx
      go_wp2
      go_loop [8, 9] (fun n i => ∃ j : Nat, j ≤ ex.length ∧ i = .int .i64 ((pre.length + 2 + j : Nat) : Int) ∧ n = .int .i64 (num (dv (ex.take j)) : Nat)) (fun _ i => l.length - (intOf i).toNat)
      case atStart => exact ⟨0, by omega, by go_num, rfl⟩
      case round =>
        obtain ⟨j, hj, rfl, rfl⟩ := hrel
        have hnb : num (dv (ex.take j)) < 1000000000 := by
          have h1 := num_lt (dv (ex.take j)) (by
            intro d hd
            rw [dv, List.mem_map] at hd
            obtain ⟨c, hc, rfl⟩ := hd
            have := (isD_iff c).1 (hx c (List.mem_of_mem_take hc))
            omega)
          have h2 : (dv (ex.take j)).length = j := by simp [dv]; omega
          rw [h2] at h1
          have h3 := p10_le j 8 (by omega)
          have h4 : p10 8 = 100000000 := rfl
          omega
        by_cases hjl : j < ex.length
        · have hgj := HGX.out j hjl
          obtain ⟨ha, hb⟩ := (isD_iff _).1 (hx _ (List.getElem_mem hjl))
          have hst : Hid (num (dv (ex.take (j + 1))) = num (dv (ex.take j)) * 10 + (ex[j].toNat - 48)) := by
            rw [Hid, List.take_succ_eq_append_getElem hjl, dv_append]
            exact num_snoc _ _
          generalize num (dv (ex.take j)) = n at *
          generalize hcc : ex[j] = c at *
          clear hcc
          have hjk : pre.length + 2 + j < l.length := by omega
          go_wp2
          go_round
          case rel => exact ⟨j + 1, by omega, by go_num, by rw [hst.out]; go_num⟩
          case measure => simp [intOf]; omega
        · obtain rfl : j = ex.length := by omega
          rw [List.take_length] at hnb ⊢
          by_cases h45 : sg = 45
          · have hs45 : ((sg.toNat : Int) == 45) = true := by rw [h45]; rfl
            have HR := hid (show v = -(num (dv ex) : Int) from hv.out.trans (if_pos h45))
            clear h45
            go_wp2
            go_ret
            exact ⟨by rw [HR.out]; rfl, rfl⟩
          · have hs45 : ((sg.toNat : Int) == 45) = false := beq_eq_false_iff_ne.2 (by have := toNat_ne h45; simp at this; omega)
            have HR := hid (show v = (num (dv ex) : Int) from hv.out.trans (if_neg h45))
            clear h45
            go_wp2
            go_ret
            exact ⟨by rw [HR.out]; rfl, rfl⟩
end Go.Proofs.Ytmkkibaacclhnaa

namespace Go.Proofs.Ytmkkibaacclhnaa
open Go.RowKit

def scanF (d l : List UInt8) : List UInt8 := l.foldl scan1 d
theorem scanF_app (d a b : List UInt8) : scanF d (a ++ b) = scanF (scanF d a) b := by simp [scanF]
theorem scan_F (l : List UInt8) : scan l = scanF [] l := rfl
theorem scan1_no (d : List UInt8) (c : UInt8) (h : isD c = false) : scan1 d c = d := if_neg (by rintro ⟨h1, _⟩; rw [h] at h1; cases h1)
theorem scanF_dig (d l : List UInt8) (hd : d ≠ []) (hl : AllD l) : scanF d l = d ++ l := by
  induction l generalizing d with
  | nil => simp [scanF]
  | cons c r ih =>
    have e : scan1 d c = d ++ [c] := if_pos ⟨hl c List.mem_cons_self, .inl hd⟩
    show scanF (scan1 d c) r = _
    rw [e, ih _ (by simp) (fun x hx => hl x (List.mem_cons_of_mem _ hx))]
    simp
theorem scanF_first (l : List UInt8) (hl : AllD l) (hh : l.head? ≠ some 48) : scanF [] l = l := by
  cases l with
  | nil => rfl
  | cons c r =>
    have e : scan1 [] c = [c] := if_pos ⟨hl c List.mem_cons_self, .inr (by rintro rfl; exact hh rfl)⟩
    show scanF (scan1 [] c) r = _
    rw [e, scanF_dig _ _ (by simp) (fun x hx => hl x (List.mem_cons_of_mem _ hx))]
    rfl
theorem scanF_zeros (k : Nat) : scanF [] (List.replicate k 48) = [] := by
  induction k with
  | zero => rfl
  | succ k ih =>
    rw [List.replicate_succ]
    show scanF (scan1 [] 48) (List.replicate k 48) = []
    rw [show scan1 [] 48 = [] from if_neg (by simp)]
    exact ih
theorem scanF_sg (neg : Bool) (l : List UInt8) : scanF [] (sgP neg ++ l) = scanF [] l := by
  cases neg
  · rfl
  · show scanF (scan1 [] 45) l = _
    rw [scan1_no _ _ (by decide)]

theorem strip_zeros (l : List UInt8) (k : Nat) (h : l.getLast? ≠ some 48) : strip (l ++ List.replicate k 48) = l := by
  induction k with
  | zero =>
    rw [List.replicate_zero, List.append_nil]
    rcases List.eq_nil_or_concat l with rfl | ⟨i, x, rfl⟩
    · rfl
    · rw [List.concat_eq_append] at h ⊢
      exact strip_no _ _ (by rintro rfl; apply h; simp)
  | succ k ih =>
    rw [List.replicate_succ', ← List.append_assoc, strip_zero]
    exact ih

theorem noE_of (a b : List UInt8) (ha : ∀ c ∈ a, c ≠ 101) (hb : b = [] ∨ b.head? = some 101) : noE (a ++ b) = a := by
  have := noE_at (a ++ b) a.length (by rw [List.take_left']; exact ha; rfl) (by
    rcases hb with rfl | hb
    · left; simp
    · right
      cases b with
      | nil => cases hb
      | cons x b =>
        simp at hb
        exact ⟨by simp, by simp [hb]⟩)
  rw [this, List.take_left']
  rfl
theorem AllD.noE {l : List UInt8} (h : AllD l) : ∀ c ∈ l, c ≠ 101 := by
  intro c hc e
  have := h c hc
  rw [e] at this
  cases this
theorem sgP_noE (neg : Bool) : ∀ c ∈ sgP neg, c ≠ 101 := by cases neg <;> simp [sgP]

def whF (x : Wh) (l : List UInt8) : Wh := l.foldl wh1 x
theorem whF_app (x : Wh) (a b : List UInt8) : whF x (a ++ b) = whF (whF x a) b := by simp [whF]
theorem whs_F (l : List UInt8) : whs l = whF ⟨false, 0, false⟩ l := rfl
theorem whF_sg (neg : Bool) (x : Wh) (l : List UInt8) : whF x (sgP neg ++ l) = whF x l := by
  cases neg
  · rfl
  · rfl
theorem isD_no {c : UInt8} (h : isD c = true) : c ≠ 46 ∧ c ≠ 45 := ⟨isD_ne h (by decide), isD_ne h (by decide)⟩
theorem whF_dig (s : Bool) (a : Int) (l : List UInt8) (hl : AllD l) : whF ⟨s, a, true⟩ l = ⟨s, if s then a else a + l.length, true⟩ := by
  induction l generalizing a with
  | nil => cases s <;> simp [whF]
  | cons c r ih =>
    have hc := isD_no (hl c List.mem_cons_self)
    have e : wh1 ⟨s, a, true⟩ c = ⟨s, if s then a else a + 1, true⟩ := by
      unfold wh1
      rw [if_neg hc.1, if_neg hc.2, if_pos (.inr rfl)]
    show whF (wh1 ⟨s, a, true⟩ c) r = _
    rw [e, ih _ (fun x hx => hl x (List.mem_cons_of_mem _ hx))]
    cases s
    · simp; omega
    · simp
theorem whF_first (s : Bool) (a : Int) (l : List UInt8) (hl : AllD l) (h0 : l ≠ []) (hh : l.head? ≠ some 48) : whF ⟨s, a, false⟩ l = ⟨s, if s then a else a + l.length, true⟩ := by
  cases l with
  | nil => exact absurd rfl h0
  | cons c r =>
    have hc := isD_no (hl c List.mem_cons_self)
    have e : wh1 ⟨s, a, false⟩ c = ⟨s, if s then a else a + 1, true⟩ := by
      unfold wh1
      rw [if_neg hc.1, if_neg hc.2, if_pos (.inl (by rintro rfl; exact hh rfl))]
    show whF (wh1 ⟨s, a, false⟩ c) r = _
    rw [e, whF_dig _ _ _ (fun x hx => hl x (List.mem_cons_of_mem _ hx))]
    cases s
    · simp; omega
    · simp
theorem whF_zeros (a : Int) (k : Nat) : whF ⟨true, a, false⟩ (List.replicate k 48) = ⟨true, a - k, false⟩ := by
  induction k generalizing a with
  | zero => simp [whF]
  | succ k ih =>
    rw [List.replicate_succ]
    have e : wh1 ⟨true, a, false⟩ 48 = ⟨true, a - 1, false⟩ := by
      unfold wh1
      rw [if_neg (by decide), if_neg (by decide), if_neg (by simp), if_pos rfl]
    show whF (wh1 ⟨true, a, false⟩ 48) (List.replicate k 48) = _
    rw [e, ih]
    simp; omega
theorem whF_pt (s : Bool) (a : Int) (f : Bool) (l : List UInt8) : whF ⟨s, a, f⟩ (46 :: l) = whF ⟨true, a, f⟩ l := rfl

theorem dgs_len1 (n : Nat) (h : n < 10) : (dgs n).length = 1 := by rw [dgs_lt h]; rfl
theorem dgs_len2 (n : Nat) (h : n < 100) : (dgs n).length ≤ 2 := by
  by_cases h1 : n < 10
  · rw [dgs_len1 n h1]; omega
  · rw [dgs_ge h1, List.length_append, dgs_len1 _ (by omega)]; simp
theorem dgs_len3 (n : Nat) (h : n < 1000) : (dgs n).length ≤ 3 := by
  by_cases h1 : n < 10
  · rw [dgs_len1 n h1]; omega
  · rw [dgs_ge h1, List.length_append]
    have := dgs_len2 (n / 10) (by omega)
    simp; omega

/-- a printed token, by what stands ahead of an e -/
theorem lay_look (neg : Bool) (l : List UInt8) (pw : Int) (hA : AllD l) (h0 : l ≠ []) (hh : l.head? ≠ some 48) (hz : l.getLast? ≠ some 48) (hl : l.length ≤ 17) (h1 : -324 < (l.length : Int) + pw) (h2 : (l.length : Int) + pw < 310) :
    strip (scan (noE (sgP neg ++ layL l pw))) = l ∧ (sgP neg ++ layL l pw).length ≤ 25 ∧
    (((∀ c ∈ sgP neg ++ layL l pw, c ≠ 101) ∧ (whs (sgP neg ++ layL l pw)).ahead = l.length + pw) ∨
     (∃ pre sg ex, sgP neg ++ layL l pw = pre ++ 101 :: sg :: ex ∧ (∀ c ∈ pre, c ≠ 101) ∧ AllD ex ∧ ex.length ≤ 8 ∧ (if sg = 45 then -(num (dv ex) : Int) else num (dv ex)) + (whs pre).ahead = l.length + pw)) := by
  have hsg := sgP_len neg
  have hp : 0 < l.length := by cases l with | nil => exact absurd rfl h0 | cons => simp
  unfold layL
  by_cases c1 : (l.length : Int) + pw > 21 ∨ (l.length : Int) + pw < -5
  · rw [if_pos c1]
    have hk1 : l.take 1 ≠ [] := by simp [h0]
    have hh1 : (l.take 1).head? ≠ some 48 := by rw [List.head?_take, if_neg (by omega)]; exact hh
    have hl1 : (l.take 1).length = 1 := by rw [List.length_take]; omega
    obtain ⟨mm, hmm⟩ : ∃ mm, (if 1 < l.length then 46 :: l.drop 1 else []) = mm := ⟨_, rfl⟩
    have hmA : ∀ c ∈ mm, c ≠ 101 := by
      intro c hc
      rw [← hmm] at hc
      split at hc
      · rcases List.mem_cons.1 hc with rfl | hc
        · decide
        · exact (hA.drop 1).noE c hc
      · cases hc
    have hms : scanF (l.take 1) mm = l := by
      rw [← hmm]
      split
      · show scanF (scan1 (l.take 1) 46) (l.drop 1) = l
        rw [scan1_no _ _ (by decide), scanF_dig _ _ hk1 (hA.drop 1), List.take_append_drop]
      · show l.take 1 = l
        rw [List.take_of_length_le (by omega)]
    have hmw : (whF ⟨false, 1, true⟩ mm).ahead = 1 := by
      rw [← hmm]
      split
      · rw [whF_pt, whF_dig _ _ _ (hA.drop 1)]; rfl
      · rfl
    have hml : mm.length ≤ l.length := by
      rw [← hmm]
      split
      · simp; omega
      · simp
    have hno : ∀ c ∈ sgP neg ++ (l.take 1 ++ mm), c ≠ 101 := by
      intro c hc
      simp only [List.mem_append] at hc
      rcases hc with hc | hc | hc
      · exact sgP_noE neg c hc
      · exact (hA.take 1).noE c hc
      · exact hmA c hc
    have hwp : (whs (sgP neg ++ (l.take 1 ++ mm))).ahead = 1 := by
      rw [whs_F, whF_sg, whF_app, whF_first _ _ _ (hA.take 1) hk1 hh1, hl1]
      exact hmw
    have hsp : strip (scan (sgP neg ++ (l.take 1 ++ mm))) = l := by
      rw [scan_F, scanF_sg, scanF_app, scanF_first _ (hA.take 1) hh1, hms]
      have := strip_zeros l 0 hz
      simpa using this
    have key : ∀ (sg : UInt8) (q : Nat), q < 1000 → (if sg = 45 then -(q : Int) else q) + 1 = l.length + pw → ∀ Z, Z = sgP neg ++ (l.take 1 ++ mm ++ ([101, sg] ++ dgs q)) →
        strip (scan (noE Z)) = l ∧ Z.length ≤ 25 ∧ (((∀ c ∈ Z, c ≠ 101) ∧ (whs Z).ahead = l.length + pw) ∨
          (∃ pre sg ex, Z = pre ++ 101 :: sg :: ex ∧ (∀ c ∈ pre, c ≠ 101) ∧ AllD ex ∧ ex.length ≤ 8 ∧ (if sg = 45 then -(num (dv ex) : Int) else num (dv ex)) + (whs pre).ahead = l.length + pw)) := by
      intro sg q hq hx Z hZ
      have e : Z = (sgP neg ++ (l.take 1 ++ mm)) ++ 101 :: sg :: dgs q := by rw [hZ]; simp
      have hq3 := dgs_len3 q hq
      refine ⟨?_, ?_, .inr ⟨sgP neg ++ (l.take 1 ++ mm), sg, dgs q, e, hno, allD_dgs q, by omega, ?_⟩⟩
      · rw [e, noE_of _ _ hno (.inr rfl)]; exact hsp
      · rw [hZ]; simp only [List.length_append, List.length_cons, List.length_nil]
        rw [← hmm]
        split
        · simp only [List.length_cons, List.length_drop, List.length_take]; omega
        · simp only [List.length_nil, List.length_take]; omega
      · rw [num_dgs, hwp]; exact hx
    unfold expL
    rw [hmm]
    by_cases hx : (l.length : Int) + pw - 1 < 0
    · rw [if_pos hx]
      exact key 45 (-((l.length : Int) + pw - 1)).toNat (by omega) (by rw [if_pos rfl]; omega) _ rfl
    · rw [if_neg hx]
      exact key 43 ((l.length : Int) + pw - 1).toNat (by omega) (by rw [if_neg (by decide)]; omega) _ rfl
  · rw [if_neg c1]
    by_cases c2 : (l.length : Int) + pw ≤ 0
    · rw [if_pos c2]
      obtain ⟨k, hk⟩ : ∃ k : Nat, (-((l.length : Int) + pw)).toNat = k := ⟨_, rfl⟩
      rw [hk]
      have hno : ∀ c ∈ sgP neg ++ ([48, 46] ++ List.replicate k 48 ++ l), c ≠ 101 := by
        intro c hc
        simp only [List.mem_append] at hc
        rcases hc with hc | (hc | hc) | hc
        · exact sgP_noE neg c hc
        · simp at hc; rcases hc with rfl | rfl <;> decide
        · exact (allD_zeros k).noE c hc
        · exact hA.noE c hc
      refine ⟨?_, ?_, .inl ⟨hno, ?_⟩⟩
      · rw [← List.append_nil (sgP neg ++ _), noE_of _ [] hno (.inl rfl), scan_F, scanF_sg, List.append_assoc, scanF_app, scanF_app]
        rw [show scanF [] [48, 46] = [] from by decide, scanF_zeros, scanF_first l hA hh]
        have := strip_zeros l 0 hz
        simpa using this
      · simp; omega
      · rw [whs_F, whF_sg, List.append_assoc, whF_app, whF_app, show whF ⟨false, 0, false⟩ [48, 46] = ⟨true, 0, false⟩ from rfl, whF_zeros, whF_first _ _ l hA h0 hh]
        simp
        omega
    · rw [if_neg c2]
      by_cases c3 : 0 ≤ pw
      · rw [if_pos c3]
        obtain ⟨k, rfl⟩ : ∃ k : Nat, pw = (k : Int) := ⟨pw.toNat, by omega⟩
        rw [show (k : Int).toNat = k by omega]
        have hno : ∀ c ∈ sgP neg ++ (l ++ List.replicate k 48), c ≠ 101 := by
          intro c hc
          simp only [List.mem_append] at hc
          rcases hc with hc | hc | hc
          · exact sgP_noE neg c hc
          · exact hA.noE c hc
          · exact (allD_zeros k).noE c hc
        refine ⟨?_, ?_, .inl ⟨hno, ?_⟩⟩
        · rw [← List.append_nil (sgP neg ++ _), noE_of _ [] hno (.inl rfl), scan_F, scanF_sg, scanF_app, scanF_first l hA hh, scanF_dig _ _ h0 (allD_zeros k)]
          exact strip_zeros l k hz
        · simp; omega
        · rw [whs_F, whF_sg, whF_app, whF_first _ _ l hA h0 hh, whF_dig _ _ _ (allD_zeros k)]
          simp
      · rw [if_neg c3]
        obtain ⟨k, hk⟩ : ∃ k : Nat, (l.length : Int) + pw = k := ⟨((l.length : Int) + pw).toNat, by omega⟩
        rw [hk, show (k : Int).toNat = k by omega, show l.take k ++ [46] ++ l.drop k = l.take k ++ 46 :: l.drop k by simp]
        have hno : ∀ c ∈ sgP neg ++ (l.take k ++ 46 :: l.drop k), c ≠ 101 := by
          intro c hc
          simp only [List.mem_append, List.mem_cons] at hc
          rcases hc with hc | hc | rfl | hc
          · exact sgP_noE neg c hc
          · exact (hA.take k).noE c hc
          · decide
          · exact (hA.drop k).noE c hc
        have hkt : l.take k ≠ [] := by rw [Ne, List.take_eq_nil_iff]; simp [h0]; omega
        have hht : (l.take k).head? ≠ some 48 := by rw [List.head?_take, if_neg (by omega)]; exact hh
        refine ⟨?_, ?_, .inl ⟨hno, ?_⟩⟩
        · rw [← List.append_nil (sgP neg ++ _), noE_of _ [] hno (.inl rfl), scan_F, scanF_sg, scanF_app, scanF_first _ (hA.take k) hht]
          show strip (scanF (scan1 (l.take k) 46) (l.drop k)) = l
          rw [scan1_no _ _ (by decide), scanF_dig _ _ hkt (hA.drop k), List.take_append_drop]
          have := strip_zeros l 0 hz
          simpa using this
        · simp; omega
        · rw [whs_F, whF_sg, whF_app, whF_first _ _ _ (hA.take k) hkt hht, whF_pt, whF_dig _ _ _ (hA.drop k)]
          simp
          omega
end Go.Proofs.Ytmkkibaacclhnaa
