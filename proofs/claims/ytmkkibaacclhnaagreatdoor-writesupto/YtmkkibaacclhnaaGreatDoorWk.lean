/-
  A step of the walk, the part named Wk. No theorem of the row.
-/
import Derived.Test.YtmkkibaacclhnaaGreatDoorWh
import Derived.Test.YtmkkibaacclhnaaGreatDoorSc
namespace Go.Proofs.YtmkkibaacclhnaaGreatDoor
open Go.RowKit

theorem PtAt.start {w0 w : World} {blk n cap : Nat} {R : Nat → Nat → Prop} {zs : List Nat} {s : Nat} {l : Bks} (h : PtAt w0 w blk n cap R zs s l) : MgAt w0 w blk n cap R zs s 0 [] l :=
  ⟨h.z, rfl, fun p hp => (by cases hp), fun p hp => (by cases hp), h.fu, h.ok, h.d⟩
set_option maxRecDepth 100000 in
set_option maxHeartbeats 16000000 in
theorem stable_any (w0 w : World) (blk n cap bx : Nat) (D : Nat → Prop) (cf : Nat → Nat → Int) (R : Nat → Nat → Prop) (tr : ∀ x y z, R x y → R y z → R x z) (zs : List Nat) (h : DR w0 w blk n cap zs) (hz : zs.Pairwise (Cf cf R)) (hD : ∀ x, x ∈ zs → D x)
    (hC : CmpAt w0 blk #[.pointer (some ⟨bx, 0, none⟩)] D cf) (hn : n ≤ 10000000) :
    Calls Tryz.prog 173 #[.slice (some ⟨blk, 0, none⟩) n cap, .int .i64 (n : Int), .func (.func 129) #[] #[.pointer (some ⟨bx, 0, none⟩)]] w fun e w' => e = .returned (.tuple #[]) ∧ ∃ Z, Z.Perm zs ∧ Z.Pairwise R ∧ DR w0 w' blk n cap Z := by
  have H0 := hid (show InsAt w0 w blk n cap R zs 0 [] zs from ⟨rfl, rfl, fun p hp => (by cases hp), fun p hp => (by cases hp), h⟩)
  have HI1 := hid (fun (w : World) (a b : Nat) (done : Bks) (Zr : List Nat) (h : InsAt w0 w blk n cap R zs a done Zr) (hb : a + 20 = b) (hbn : b ≤ n) => h.next tr hC hn hz hD hb hbn)
  have HI2 := hid (fun (w : World) (a : Nat) (done : Bks) (Zr : List Nat) (h : InsAt w0 w blk n cap R zs a done Zr) (hb : n < a + 20) => h.last tr hC hn hz hD hb)
  have HM1 := hid (fun (w : World) (s a b : Nat) (done rest : Bks) (h : MgAt w0 w blk n cap R zs s a done rest) (h0 : 0 < s) (hb : a + 2 * s = b) (hbn : b ≤ n) => h.next tr hC hn hz hD h0 hb hbn)
  have HM2 := hid (fun (w : World) (s a : Nat) (done rest : Bks) (h : MgAt w0 w blk n cap R zs s a done rest) (h0 : 0 < s) (hb : n < a + 2 * s) (hm : a + s < n) => h.last tr hC hn hz hD h0 hb hm)
  clear h hz hD hC tr
  go_enter Tryz.func173, Tryz.ntmps173
  go_wp2
  go_loopw [7, 8] (fun s t wr => ∃ (a b : Nat) (done : Bks) (Zr : List Nat), a + 20 = b ∧ a ≤ n ∧ s = .int .i64 (a : Int) ∧ t = .int .i64 (b : Int) ∧ Hid (InsAt w0 wr blk n cap R zs a done Zr)) (fun s _ _ => n + 1 - (intOf s).toNat)
  case atStart => exact ⟨0, 20, [], zs, by omega, by omega, by go_num, by go_num, H0⟩
  case round =>
    clear H0
    obtain ⟨a, b, done, Zr, hab, han, rfl, rfl, hI⟩ := hrel
    by_cases hbn : b ≤ n
    · have hbz : (b : Int) ≤ (n : Int) := by omega
      have H5 := hid (HI1.out wr a b done Zr hI.out hab hbn)
      go_wp2_with (first | (go_at_call 202; refine Calls.mono H5.out ?_; rintro x w2 ⟨rfl, done', Zr', hd⟩; have HD := hid hd; clear hd) | fail)
      go_roundw
      case rel => exact ⟨b, b + 20, done', Zr', by omega, by omega, rfl, by go_num, HD⟩
      case measure => simp [intOf]; omega
    · have hbz : ¬ ((b : Int) ≤ (n : Int)) := by omega
      have H5 := hid (HI2.out wr a done Zr hI.out (by omega))
      clear hI
      go_wp2_with (first | (go_at_call 202; refine Calls.mono H5.out ?_; rintro x w2 ⟨rfl, l, hd⟩; have HD := hid hd; clear hd) | fail)
      clear H5 HI1 HI2
      go_loopw [6] (fun s wr => ∃ (s0 : Nat) (l : Bks), 20 ≤ s0 ∧ s0 ≤ 40000000 ∧ s = .int .i64 (s0 : Int) ∧ Hid (PtAt w0 wr blk n cap R zs s0 l)) (fun s _ => n - (intOf s).toNat)
      case atStart => exact ⟨20, l, by omega, by omega, by go_num, HD⟩
      case round =>
        clear HD
        obtain ⟨s0, l, hs1, hs2, rfl, hP⟩ := hrel
        by_cases hsn : s0 < n
        · have hsz : (s0 : Int) < (n : Int) := by omega
          have H0 := hid hP.out.start
          obtain ⟨d, hd⟩ : ∃ d, 2 * s0 = d := ⟨_, rfl⟩
          have hdz : 2 * (s0 : Int) = (d : Int) := by omega
          have hdz2 : (s0 : Int) * 2 = (d : Int) := by omega
          have HDD := hid hd
          clear hP hd
          go_wp2
          go_loopw [7, 8] (fun s t wr => ∃ (a b : Nat) (done rest : Bks), a + d = b ∧ a ≤ n ∧ s = .int .i64 (a : Int) ∧ t = .int .i64 (b : Int) ∧ Hid (MgAt w0 wr blk n cap R zs s0 a done rest)) (fun s _ _ => n + 1 - (intOf s).toNat)
          case atStart => exact ⟨0, d, [], l, by omega, by omega, by go_num, by go_num, H0⟩
          case round =>
            clear H0
            obtain ⟨a2, b2, done2, rest2, hab2, han2, rfl, rfl, hM⟩ := hrel
            have hms : (a2 : Int) + (s0 : Int) = ((a2 + s0 : Nat) : Int) := by omega
            by_cases hbn2 : b2 ≤ n
            · have hbz2 : (b2 : Int) ≤ (n : Int) := by omega
              have H6 := hid (HM1.out wr s0 a2 b2 done2 rest2 hM.out (by omega) (by have := HDD.out; omega) hbn2)
              have hd20 : 20 ≤ d := by have := HDD.out; omega
              generalize a2 + s0 = mm at *
              have hdn : d ≤ 80000000 := by have := HDD.out; omega
              go_wp2_with (first | (go_at_call 203; refine Calls.mono H6.out ?_; rintro x w2 ⟨rfl, done', rest', hd⟩; have HD := hid hd; clear hd) | fail)
              go_roundw
              case rel => exact ⟨b2, b2 + d, done', rest', by omega, by omega, rfl, by go_num, HD⟩
              case measure => simp [intOf]; omega
            · have hbz2 : ¬ ((b2 : Int) ≤ (n : Int)) := by omega
              by_cases hmn : a2 + s0 < n
              · have hmz : ((a2 + s0 : Nat) : Int) < (n : Int) := by omega
                have H6 := hid (HM2.out wr s0 a2 done2 rest2 hM.out (by omega) (by have := HDD.out; omega) hmn)
                generalize a2 + s0 = mm at *
                go_wp2_with (first | (go_at_call 203; refine Calls.mono H6.out ?_; rintro x w2 ⟨rfl, l', hd⟩; have HD := hid hd; clear hd) | fail)
                go_roundw
                case rel => exact ⟨d, l', by have := HDD.out; omega, by have := HDD.out; omega, rfl, hid (by have := HD.out; rw [HDD.out] at this; exact this)⟩
                case measure => have := HDD.out; simp [intOf]; omega
              · have hmz : ¬ (((a2 + s0 : Nat) : Int) < (n : Int)) := by omega
                obtain ⟨l', hl'⟩ := hM.out.none (by omega) (by have := HDD.out; omega) hmn
                have HD := hid hl'
                clear hl'
                generalize a2 + s0 = mm at *
                go_wp2
                go_roundw
                case rel => exact ⟨d, l', by have := HDD.out; omega, by have := HDD.out; omega, rfl, hid (by have := HD.out; rw [HDD.out] at this; exact this)⟩
                case measure => have := HDD.out; simp [intOf]; omega
        · have hsz : ¬ ((s0 : Int) < (n : Int)) := by omega
          have hone := hP.out.fu.one hP.out.ok (by rw [hP.out.d.len]; omega) (by omega)
          have HO := hid hone
          clear hone
          go_wp2
          go_end0
          exact ⟨rfl, cat l, by rw [hP.out.z]; exact HO.out.1, HO.out.2, hP.out.d⟩
set_option maxRecDepth 100000 in
set_option maxHeartbeats 16000000 in
theorem sortStable_any (w0 w : World) (blk n cap bx : Nat) (D : Nat → Prop) (cf : Nat → Nat → Int) (R : Nat → Nat → Prop) (tr : ∀ x y z, R x y → R y z → R x z) (zs : List Nat) (h : DR w0 w blk n cap zs) (hz : zs.Pairwise (Cf cf R)) (hD : ∀ x, x ∈ zs → D x)
    (hC : CmpAt w0 blk #[.pointer (some ⟨bx, 0, none⟩)] D cf) (hn : n ≤ 10000000) :
    Calls Tryz.prog 128 #[.slice (some ⟨blk, 0, none⟩) n cap, .func (.func 129) #[] #[.pointer (some ⟨bx, 0, none⟩)]] w fun e w' => e = .returned (.tuple #[]) ∧ ∃ Z, Z.Perm zs ∧ Z.Pairwise R ∧ DR w0 w' blk n cap Z := by
  have H := hid (stable_any w0 w blk n cap bx D cf R tr zs h hz hD hC hn)
  clear h hz hD hC tr
  go_enter Tryz.func128, Tryz.ntmps128
  go_wp2_with (first | (go_at_call 173; refine Calls.mono H.out ?_; rintro x w2 ⟨rfl, hd⟩; have HD := hid hd; clear hd) | fail)
  go_end0
  exact ⟨rfl, HD.out⟩
end Go.Proofs.YtmkkibaacclhnaaGreatDoor

namespace Go.Proofs.YtmkkibaacclhnaaGreatDoor
open Go.RowKit

/-- a text is ahead of another one -/
def ltB : List UInt8 → List UInt8 → Bool
  | [], [] => false
  | [], _ :: _ => true
  | _ :: _, [] => false
  | a :: x, b :: y => if a < b then true else if b < a then false else ltB x y
theorem ltB_cmp (x y : List UInt8) : Lib.compareBytes x y < 0 ↔ ltB x y = true := by
  induction x generalizing y with
  | nil => cases y <;> simp [Lib.compareBytes, ltB]
  | cons a x ih =>
    cases y with
    | nil => simp [Lib.compareBytes, ltB]
    | cons b y =>
      simp only [Lib.compareBytes, ltB]
      split
      · simp
      · split
        · simp
        · exact ih y
theorem ltB_trans {x y z : List UInt8} (h1 : ltB x y = true) (h2 : ltB y z = true) : ltB x z = true := by
  induction x generalizing y z with
  | nil =>
    cases z with
    | nil => cases y <;> simp [ltB] at h1 h2
    | cons c z => simp [ltB]
  | cons a x ih =>
    cases y with
    | nil => simp [ltB] at h1
    | cons b y =>
      cases z with
      | nil => simp [ltB] at h2
      | cons c z =>
        simp only [ltB] at h1 h2 ⊢
        by_cases h3 : a < b
        · by_cases h4 : b < c
          · rw [if_pos (UInt8.lt_trans h3 h4)]
          · rw [if_neg h4] at h2
            by_cases h5 : c < b
            · rw [if_pos h5] at h2; cases h2
            · have : b = c := UInt8.le_antisymm (UInt8.not_lt.1 h5) (UInt8.not_lt.1 h4)
              subst this
              rw [if_pos h3]
        · rw [if_neg h3] at h1
          by_cases h4 : b < a
          · rw [if_pos h4] at h1; cases h1
          · rw [if_neg h4] at h1
            have : a = b := UInt8.le_antisymm (UInt8.not_lt.1 h4) (UInt8.not_lt.1 h3)
            subst this
            by_cases h5 : a < c
            · rw [if_pos h5]
            · rw [if_neg h5] at h2 ⊢
              by_cases h6 : c < a
              · rw [if_pos h6] at h2; cases h2
              · rw [if_neg h6] at h2 ⊢
                exact ih h1 h2
theorem ltB_total (x y : List UInt8) : ltB x y = true ∨ x = y ∨ ltB y x = true := by
  induction x generalizing y with
  | nil => cases y <;> simp [ltB]
  | cons a x ih =>
    cases y with
    | nil => simp [ltB]
    | cons b y =>
      simp only [ltB]
      by_cases h3 : a < b
      · simp [h3]
      · by_cases h4 : b < a
        · simp [h4]
        · have : a = b := UInt8.le_antisymm (UInt8.not_lt.1 h4) (UInt8.not_lt.1 h3)
          subst this
          simp only [h3, if_false]
          rcases ih y with h | h | h
          · exact .inl h
          · exact .inr (.inl (by rw [h]))
          · exact .inr (.inr h)
theorem ltB_irrefl (x : List UInt8) : ltB x x = false := by
  induction x with
  | nil => rfl
  | cons a x ih =>
    simp only [ltB]
    rw [if_neg (UInt8.lt_irrefl a), if_neg (UInt8.lt_irrefl a)]
    exact ih
/-- by the keys, and those alike by their places -/
def KO (key : Nat → List UInt8) (x y : Nat) : Prop := ltB (key x) (key y) = true ∨ (key x = key y ∧ x < y)
theorem KO.tr (key : Nat → List UInt8) (x y z : Nat) (h1 : KO key x y) (h2 : KO key y z) : KO key x z := by
  rcases h1 with h1 | ⟨h1, h1'⟩ <;> rcases h2 with h2 | ⟨h2, h2'⟩
  · exact .inl (ltB_trans h1 h2)
  · exact .inl (by rw [← h2]; exact h1)
  · exact .inl (by rw [h1]; exact h2)
  · exact .inr ⟨h1.trans h2, by omega⟩
theorem KO.irrefl (key : Nat → List UInt8) (x : Nat) : ¬ KO key x x := by
  rintro (h | ⟨_, h⟩)
  · rw [ltB_irrefl] at h; cases h
  · omega
theorem KO.cf (key : Nat → List UInt8) (x y : Nat) (h : x < y) : Cf (fun a b => Lib.compareBytes (key a) (key b)) (KO key) x y := by
  refine ⟨fun hc => .inl ((ltB_cmp _ _).1 hc), fun hc => ?_⟩
  have hc : ¬ ltB (key y) (key x) = true := fun h' => hc ((ltB_cmp _ _).2 h')
  rcases ltB_total (key x) (key y) with h1 | h1 | h1
  · exact .inl h1
  · exact .inr ⟨h1, h⟩
  · exact absurd h1 hc
/-- one list alone is in order -/
theorem sorted_one {R : Nat → Nat → Prop} (tr : ∀ x y z, R x y → R y z → R x z) (ir : ∀ x, ¬ R x x) {a b : List Nat} (hp : a.Perm b) (h1 : a.Pairwise R) (h2 : b.Pairwise R) : a = b := by
  induction a generalizing b with
  | nil => exact hp.nil_eq
  | cons x a ih =>
    cases b with
    | nil => exact absurd hp.symm.nil_eq (by simp)
    | cons y b =>
      have hxy : x = y := by
        by_cases he : x = y
        · exact he
        · exfalso
          have hx : x ∈ y :: b := hp.mem_iff.1 (by simp)
          have hy : y ∈ x :: a := hp.mem_iff.2 (by simp)
          have hx : x ∈ b := by
            rcases List.mem_cons.1 hx with h | h
            · exact absurd h he
            · exact h
          have hy : y ∈ a := by
            rcases List.mem_cons.1 hy with h | h
            · exact absurd h.symm he
            · exact h
          exact ir x (tr _ _ _ ((List.pairwise_cons.1 h1).1 y hy) ((List.pairwise_cons.1 h2).1 x hx))
      subst hxy
      rw [ih (List.Perm.cons_inv hp) (List.pairwise_cons.1 h1).2 (List.pairwise_cons.1 h2).2]
end Go.Proofs.YtmkkibaacclhnaaGreatDoor

namespace Go.Proofs.YtmkkibaacclhnaaGreatDoor
open Go.RowKit

def uGo : Nat → List UInt8 → Bool
  | _, [] => true
  | 0, _ :: _ => false
  | f + 1, c :: r => if c.toNat < 128 then uGo f r else
      if beginsV [c] = 0 ∨ (c :: r).length < beginsV [c] then false
      else if beginsV ((c :: r).take (beginsV [c])) = 0 then false
      else uGo f ((c :: r).drop (beginsV ((c :: r).take (beginsV [c]))))
def isU (s : List UInt8) : Bool := uGo s.length s
theorem uGo_up (f g : Nat) (s : List UInt8) (h1 : s.length ≤ f) (h2 : s.length ≤ g) : uGo f s = uGo g s := by
  induction f generalizing g s with
  | zero =>
    have : s = [] := List.eq_nil_of_length_eq_zero (by omega)
    subst this
    cases g <;> rfl
  | succ f ih =>
    cases s with
    | nil => cases g <;> rfl
    | cons c r =>
      cases g with
      | zero => simp at h2
      | succ g =>
        simp only [List.length_cons] at h1 h2
        rw [uGo, uGo]
        by_cases hc : c.toNat < 128
        · rw [if_pos hc, if_pos hc]; exact ih g r (by omega) (by omega)
        · rw [if_neg hc, if_neg hc]
          split
          · rfl
          · split
            · rfl
            · rename_i hz
              have hl : ((c :: r).drop (beginsV ((c :: r).take (beginsV [c])))).length ≤ r.length := by
                rw [List.length_drop, List.length_cons]; omega
              exact ih g _ (by omega) (by omega)
theorem begins_or (c : UInt8) (r : List UInt8) : beginsV (c :: r) = 0 ∨ beginsV (c :: r) = begSize c.toNat := by
  show begN c.toNat r = 0 ∨ begN c.toNat r = _
  unfold begN
  split
  · exact .inl rfl
  · split
    · exact .inl rfl
    · unfold begOk
      split
      · exact .inl rfl
      · exact .inr rfl
theorem begins_le (c : UInt8) (r : List UInt8) : beginsV (c :: r) ≤ 4 := by
  rcases begins_or c r with h | h
  · omega
  · rw [h]
    unfold begSize
    repeat (first | omega | split)
set_option maxRecDepth 100000 in
set_option maxHeartbeats 16000000 in
theorem isUtf8_any (l : List UInt8) (w : World) (hl : l.length ≤ 100000000) :
    Calls Tryz.prog 131 #[.string (ofL l)] w fun x w' => x = .returned (.bool (isU l)) ∧ Fr (fun _ => False) w w' := by
  have hsz := ofL_size l
  have HBG := hid (fun (c : UInt8) (r : List UInt8) (w : World) (hr : r.length ≤ 1000000000) => begins_any c r w hr)
  obtain ⟨U, hU⟩ : ∃ U, isU l = U := ⟨_, rfl⟩
  have H0 := hid (show uGo l.length l = U from hU)
  rw [hU]
  clear hU
  go_enter Tryz.func131, Tryz.ntmps131
  go_wp2
  go_loopw [3] (fun s wr => ∃ (at_ : Nat), at_ ≤ l.length ∧ s = .int .i64 (at_ : Int) ∧ Hid (uGo l.length (l.drop at_) = U) ∧ Hid (Fr (fun _ => False) w wr)) (fun s _ => l.length - (intOf s).toNat)
  case atStart => exact ⟨0, by omega, rfl, H0, hid (Fr.refl _ _)⟩
  case round =>
    clear H0
    obtain ⟨k, hk, rfl, hG, hF⟩ := hrel
    by_cases hlt : k < l.length
    · obtain ⟨f, hf⟩ : ∃ f, l.length = f + 1 := ⟨l.length - 1, by omega⟩
      have hdr : l.drop k = l[k] :: l.drop (k + 1) := List.drop_eq_getElem_cons hlt
      have hg : (ofL l)[k]'(by rw [hsz]; exact hlt) = l[k] := ofL_get l k _
      rw [hdr] at hG
      have hG1 := hG.out
      have hr : (l.drop (k + 1)).length = l.length - (k + 1) := by simp
      have he1 : (ofL l).extract k (k + 1) = ofL [l[k]] := by
        rw [ofL_extract, List.drop_take, hdr]
        congr 1
        rw [show k + 1 - k = 1 by omega]
        rfl
      have HE2 := hid (show ∀ n, (ofL l).extract k (k + n) = ofL ((l[k] :: l.drop (k + 1)).take n) from fun n => by
        rw [ofL_extract, List.drop_take, hdr, show k + n - k = n by omega])
      have HDR := hid (show ∀ n, (l[k] :: l.drop (k + 1)).drop n = l.drop (k + n) from fun n => by rw [← hdr, List.drop_drop])
      generalize l[k] = c at *
      have HUP := hid (show ∀ n, l.length ≤ k + n + f → uGo f (l.drop (k + n)) = uGo l.length (l.drop (k + n)) from fun n h => uGo_up _ _ _ (by simp; omega) (by simp))
      have hG2 : uGo (f + 1) (c :: l.drop (k + 1)) = U := by rw [← hf]; exact hG1
      rw [uGo] at hG2
      obtain ⟨N, hN⟩ : ∃ N, c.toNat = N := ⟨_, rfl⟩
      rw [hN] at hG2
      have hkz : (k : Int) < (l.length : Int) := by omega
      have hw1 : IntKind.i64.wrap ((k : Int) + 1) = (k : Int) + 1 := IntWalk.i64_in _ (by omega)
      have z1 : ((k : Int) + 1).toNat = k + 1 := by omega
      have z2 : (k : Int) + 1 ≤ (l.length : Int) := by omega
      have hc256 : N < 256 := by rw [← hN]; exact c.toNat_lt
      clear hdr hG hG1
      by_cases hc : N < 128
      · rw [if_pos hc] at hG2
        have hcz : decide ((N : Int) < 128) = true := decide_eq_true (by omega)
        have HGG := hid (show uGo l.length (l.drop (k + 1)) = U from by rw [← HUP.out 1 (by omega)]; exact hG2)
        clear hG2 hf hr
        go_wp2
        go_roundw
        case rel => exact ⟨k + 1, by omega, by go_num, HGG, hF⟩
        case measure => simp [intOf]; omega
      · rw [if_neg hc] at hG2
        have hcz : decide ((N : Int) < 128) = false := decide_eq_false (by omega)
        have HB1 := hid (fun w => HBG.out c [] w (by simp))
        obtain ⟨n1, hn1⟩ : ∃ n1, beginsV [c] = n1 := ⟨_, rfl⟩
        rw [hn1] at HB1 hG2
        rw [show (c :: l.drop (k + 1)).length = l.length - k by rw [List.length_cons, hr]; omega] at hG2
        have hn14 : n1 ≤ 4 := by rw [← hn1]; exact begins_le _ _
        have HN1 := hid (show n1 = 0 ∨ n1 = begSize c.toNat from by rw [← hn1]; exact begins_or _ _)
        have hw2 : IntKind.i64.wrap ((k : Int) + (n1 : Int)) = (k : Int) + (n1 : Int) := IntWalk.i64_in _ (by omega)
        clear hn1
        by_cases h0 : n1 = 0 ∨ l.length - k < n1
        · rw [if_pos h0] at hG2
          have HGG := hid hG2
          by_cases h00 : n1 = 0
          · subst h00
            clear hG2 hf hr h0
            go_wp2_with (first | (go_at_call 175; refine Calls.mono (HB1.out _) ?_; rintro x w2 ⟨rfl, hf2⟩; have HF2 := hid (hF.out.trans hf2); clear hf2) | fail)
            go_ret
            exact ⟨by have hu := HGG.out; subst hu; rfl, HF2.out⟩
          · have z3 : ¬ ((n1 : Int) = 0) := by omega
            have z4 : (l.length : Int) < (k : Int) + (n1 : Int) := by omega
            clear hG2 hf hr h0
            go_wp2_with (first | (go_at_call 175; refine Calls.mono (HB1.out _) ?_; rintro x w2 ⟨rfl, hf2⟩; have HF2 := hid (hF.out.trans hf2); clear hf2) | fail)
            go_ret
            exact ⟨by have hu := HGG.out; subst hu; rfl, HF2.out⟩
        · rw [if_neg h0] at hG2
          have z3 : ¬ ((n1 : Int) = 0) := by omega
          have he2 := HE2.out n1
          obtain ⟨n0, hn0⟩ : ∃ n0, n1 = n0 + 1 := ⟨n1 - 1, by omega⟩
          have ht : (c :: l.drop (k + 1)).take n1 = c :: (l.drop (k + 1)).take n0 := by rw [hn0]; rfl
          rw [ht] at hG2 he2
          have HB2 := hid (fun w => HBG.out c ((l.drop (k + 1)).take n0) w (by simp; omega))
          obtain ⟨n2, hn2⟩ : ∃ n2, beginsV (c :: (l.drop (k + 1)).take n0) = n2 := ⟨_, rfl⟩
          rw [hn2] at HB2 hG2
          have hn12 : n2 ≤ n1 := by
            rcases begins_or c ((l.drop (k + 1)).take n0) with h | h
            · omega
            · have := HN1.out; omega
          obtain ⟨e, he⟩ : ∃ e, k + n1 = e := ⟨_, rfl⟩
          obtain ⟨q, hq⟩ : ∃ q, k + n2 = q := ⟨_, rfl⟩
          rw [he] at he2
          have hez : (k : Int) + (n1 : Int) = (e : Int) := by omega
          have hqz : (k : Int) + (n2 : Int) = (q : Int) := by omega
          have z4 : decide ((l.length : Int) < (e : Int)) = false := decide_eq_false (by omega)
          have z3b : ((n1 : Int) == 0) = false := beq_eq_false_iff_ne.2 z3
          have z5 : (e : Int) ≤ (l.length : Int) := by omega
          have z6 : (k : Int) ≤ (e : Int) := by omega
          have z7 : e ≤ l.length := by omega
          have z8 : k ≤ e := by omega
          have hq2 : q ≤ l.length := by omega
          generalize (l.drop (k + 1)).take n0 = tl at *
          generalize ofL (c :: tl) = S2 at *
          generalize ofL [c] = S1 at *
          rw [HDR.out, hq] at hG2
          have HUQ := hid (fun (h : 0 < n2) => (show uGo f (l.drop q) = uGo l.length (l.drop q) from by rw [← hq]; exact HUP.out n2 (by omega)))
          have HQ := hid hq
          have hkq : 0 < n2 → k < q := fun h => by omega
          by_cases h2 : n2 = 0
          · subst h2
            rw [if_pos rfl] at hG2
            have HGG := hid hG2
            clear hG2 hf hr h0 hn2 ht hn0 he hq hn12 hkq hw2 HUQ HUP HDR HE2 HN1 HBG hqz hn14 hc256
            go_wp2_with (first | (go_at_call 175; first | (refine Calls.mono (HB1.out _) ?_; rintro x w2 ⟨rfl, hf2⟩; have HF2 := hid (hF.out.trans hf2); clear hf2 HB1) | (refine Calls.mono (HB2.out _) ?_; rintro x w3 ⟨rfl, hf3⟩; have HF3 := hid (HF2.out.trans hf3); clear hf3)) | fail)
            go_ret
            exact ⟨by have hu := HGG.out; subst hu; rfl, HF3.out⟩
          · rw [if_neg h2] at hG2
            have HGG := hid (show uGo l.length (l.drop q) = U from by rw [← HUQ.out (by omega)]; exact hG2)
            have z9 : ¬ ((n2 : Int) = 0) := by omega
            have hkq2 : k < q := hkq (by omega)
            clear hG2 hf hr h0 hn2 ht hn0 he hq hn12 hkq hw2 HUQ HUP HDR HE2 HN1 HBG hn14 hc256
            go_wp2_with (first | (go_at_call 175; first | (refine Calls.mono (HB1.out _) ?_; rintro x w2 ⟨rfl, hf2⟩; have HF2 := hid (hF.out.trans hf2); clear hf2 HB1) | (refine Calls.mono (HB2.out _) ?_; rintro x w3 ⟨rfl, hf3⟩; have HF3 := hid (HF2.out.trans hf3); clear hf3)) | fail)
            go_roundw
            case rel => exact ⟨q, by omega, by go_num, HGG, HF3⟩
            case measure => simp [intOf]; omega
    · obtain rfl : k = l.length := by omega
      have hnz : ¬ ((l.length : Int) < (l.length : Int)) := by omega
      have hG1 : true = U := by have := hG.out; rw [List.drop_length] at this; rw [← this]; cases l.length <;> rfl
      have HGG := hid hG1
      clear hG1
      go_wp2
      go_ret
      exact ⟨by have hu := HGG.out; subst hu; rfl, hF.out⟩
end Go.Proofs.YtmkkibaacclhnaaGreatDoor
