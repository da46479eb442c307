/-
  A step of the walk of the parser, the part named Qj: the law Pieces. No theorem of the row.
-/
import Derived.Test.YtmkkibaacclhnaaQi
namespace Go.Proofs.Ytmkkibaacclhnaa
open Go.RowKit

/-- what is said of a piece, by what is said of the whole -/
theorem psFin_piece (d : Nat) (l : List UInt8) (N : Nat) : (errOf (psRun (ps0 d) l) ≠ 0 ∧ (psFin (psRun (ps0 d) l)).2.2 < N → errOf (psRun (ps0 d) (l.take N)) = errOf (psRun (ps0 d) l)) ∧
    (¬ (errOf (psRun (ps0 d) l) ≠ 0 ∧ (psFin (psRun (ps0 d) l)).2.2 < N) → errOf (psRun (ps0 d) (l.take N)) = 0) := by
  cases hx : psRun (ps0 d) l with
  | error x =>
    obtain ⟨n, c⟩ := x
    obtain ⟨h0, h1, h2, h3⟩ := psRun_err hx
    have hc0 : (ps0 d).came = 0 := rfl
    obtain ⟨h4, h5⟩ := h3 N
    refine ⟨fun h => ?_, fun h => ?_⟩
    · rw [h4 (by have : c < N := h.2; omega)]
    · obtain ⟨s', hs⟩ := h5 (by
        have : ¬ c < N := fun hh => h ⟨h0, hh⟩
        omega)
      rw [hs]
      rfl
  | ok s =>
    obtain ⟨s', hs⟩ := psRun_take hx N
    rw [hs]
    exact ⟨fun h => rfl, fun h => rfl⟩
/-- what is said of the whole -/
theorem psFin_whole (d : Nat) (l : List UInt8) : (errOf (psRun (ps0 d) l) = 0 → (psFin (psRun (ps0 d) l)).2.2 = l.length ∧ ((psFin (psRun (ps0 d) l)).2.1 = 0 ∨ (psFin (psRun (ps0 d) l)).2.1 = 6 ∨ (psFin (psRun (ps0 d) l)).2.1 = 7)) ∧
    (errOf (psRun (ps0 d) l) ≠ 0 → (psFin (psRun (ps0 d) l)).2.2 < l.length ∧ (psFin (psRun (ps0 d) l)).2.1 = errOf (psRun (ps0 d) l)) := by
  cases hx : psRun (ps0 d) l with
  | error x =>
    obtain ⟨n, c⟩ := x
    obtain ⟨h0, h1, h2, h3⟩ := psRun_err hx
    have hc0 : (ps0 d).came = 0 := rfl
    exact ⟨fun h => absurd h h0, fun _ => ⟨by show c < _; omega, rfl⟩⟩
  | ok s =>
    have hc := psRun_came hx
    have hc0 : (ps0 d).came = 0 := rfl
    exact ⟨fun _ => ⟨by show s.came = _; omega, psEnd_err s⟩, fun h => absurd rfl h⟩
theorem rd_at (B d : Nat) (w : World) (h : w.heap[B]? = some (.cells (psCells (ps0 d) nilS nilS nilS nilS) 75 (0, 0))) : Rd B (fun i => i = B) w w (psRun (ps0 d) []) := by
  refine ⟨nilS, nilS, nilS, nilS, ⟨⟨h, row_nil _ 81 4, row_nil _ 3 1, row_nil _ 5 1, row_nil _ 5 1, .inl rfl⟩, Fr.refl _ _, ?_⟩, fun _ => rfl, fun _ _ => rfl⟩
  intro i hi
  rcases hi with rfl | hi | hi | hi | hi
  · exact .inl rfl
  all_goals cases hi
theorem Rd.fr {B : Nat} {S : Nat → Prop} {w0 w : World} {R : Except (Nat × Nat) Ps} (h : Rd B S w0 w R) : Fr S w0 w := by
  revert h
  cases R with
  | ok s => rintro ⟨_, _, _, _, hC, _⟩; exact hC.fr
  | error x => obtain ⟨n, c⟩ := x; rintro ⟨_, hF⟩; exact hF

set_option maxRecDepth 100000 in
set_option maxHeartbeats 16000000 in
theorem pieces_any (l : List UInt8) (dp : Int) (pa : Option Addr) (n cap : Nat) (z : Nat → Int) (w : World) (hl : l.length ≤ 1300000) (h1 : -9223372036854775808 ≤ dp) (h2 : dp < 9223372036854775808)
    (hn : n ≤ 2000000) (hpa : 0 < n → ∃ ad, pa = some ad) (hblk : ∀ ad, pa = some ad → 0 < n → ad.block < w.heap.size)
    (hel : ∀ j ad, j < n → pa = some ad → w.cell? (ad.add j) = some (.int .i64 (z j))) (hz : ∀ j, j < n → -9223372036854775808 ≤ z j ∧ z j < 9223372036854775808) :
    Calls Try.prog 7 #[.string (ofL l), .int .i64 dp, .slice pa n cap] w fun e w' => e = .returned (.bool true) ∧ Fr (fun _ => False) w w' := by
  have HC := hid (And.intro h1 h2)
  have HPA := hid hpa
  have HBL := hid hblk
  have HEL := hid hel
  have HZ := hid hz
  have hsz := ofL_size l
  clear h1 h2 hpa hblk hel hz
  go_enter Try.func7, Try.ntmps7
  go_wp2_with fail
  refine (known_any _).mono ?_
  rintro e w1 ⟨rfl, hF1⟩
  have H1 := hid hF1
  clear hF1
  go_wp2_with fail
  refine Calls.mono (show Calls Try.prog 22 #[.int .i64 dp, .int .i64 20] _ _ from pick_gen dp 20 _ HC.out.1 HC.out.2 (by omega) (by omega)) ?_
  rintro e w2 ⟨x, hx, rfl, rfl⟩
  go_wp2_with fail
  obtain ⟨d, hd⟩ : ∃ d, 1 + x = d := ⟨_, rfl⟩
  have hd1 : 1 ≤ d := by omega
  have hd2 : d ≤ 1000 := by omega
  have hdx : (1 : Int) + (x : Int) = (d : Int) := by omega
  rw [hdx]
  clear hd hx hdx
  refine Calls.mono (newParser_any d hd1 hd2 _) ?_
  rintro e w3 ⟨rfl, hw3⟩
  have HW3 := hid hw3
  clear hw3
  go_wp2_with fail
  refine Calls.mono (newParser_any d hd1 hd2 _) ?_
  rintro e w4 ⟨rfl, hw4⟩
  have hs3 : w3.heap.size = w2.heap.size + 1 := by rw [HW3.out]; simp
  have hs4 : w4.heap.size = w3.heap.size + 1 := by rw [hw4]; simp
  have hq4 : w4.heap[w3.heap.size]? = some (.cells (psCells (ps0 d) nilS nilS nilS nilS) 75 (0, 0)) := by rw [hw4]; exact heap_alloc_new _ _
  have hp4 : w4.heap[w2.heap.size]? = some (.cells (psCells (ps0 d) nilS nilS nilS nilS) 75 (0, 0)) := by rw [hw4, heap_alloc_old _ _ (by omega), HW3.out]; exact heap_alloc_new _ _
  have H4 := hid (show Fr (fun _ => False) w w4 from by rw [hw4, HW3.out]; exact (H1.out.alloc _).alloc _)
  have HS3 := hid (And.intro hs3 hs4)
  have HQ4 := hid hq4
  have HR4 := hid (rd_at w2.heap.size d w4 hp4)
  clear hw4 HW3 hq4 hp4 hs3 hs4
  go_wp2_with fail
  refine Calls.mono (feed_any w2.heap.size d (fun i => i = w2.heap.size) w4 w4 [] l hd1 hd2 (by simp; omega) HR4.out) ?_
  rw [List.nil_append]
  rintro e w5 ⟨rfl, hR5⟩
  have HR5 := hid hR5
  clear hR5
  obtain ⟨g, hg⟩ : ∃ g, errOf (psRun (ps0 d) l) = g := ⟨_, rfl⟩
  obtain ⟨r, hr⟩ : ∃ r, psFin (psRun (ps0 d) l) = r := ⟨_, rfl⟩
  have hwh := psFin_whole d l
  have hpc := psFin_piece d l
  have hat := psFin_at d l
  have hln := psFin_len d l hd1 hd2
  rw [hr] at hat hln
  rw [hr, hg] at hwh
  simp only [hr, hg] at hpc
  rw [hg]
  have HPC := hid hpc
  have HWH := hid hwh
  have HAT := hid hat
  have HLN := hid hln
  have HR := hid hr
  clear hpc hwh hat hln hg
  go_wp2_with fail
  refine Calls.mono (close_any w2.heap.size d (fun i => i = w2.heap.size) w4 w5 l hd1 hd2 (by omega) (.inl rfl) HR5.out) ?_
  rw [HR.out]
  clear hr
  obtain ⟨it, hh, at'⟩ := r
  simp only at HPC HWH HAT HLN
  rintro e w6 ⟨V, rfl, p1, p2, p3⟩
  have HP := hid (And.intro p1 (And.intro p2 p3))
  have HRq := hid (rd_at w3.heap.size d w6 (p3.heap HQ4.out (by have := HS3.out; omega)))
  clear p1 p2 p3
  simp only
  go_wp2
  go_loopw [17, 18] (fun fr i wr => ∃ (f k : Nat), f ≤ l.length ∧ k ≤ n + 1 ∧ Hid (k = n + 1 → f = l.length) ∧ fr = .int .i64 f ∧ i = .int .i64 k ∧ Hid (Rd w3.heap.size (fun i => i = w3.heap.size) w6 wr (psRun (ps0 d) (l.take f)))) (fun _ i _ => n + 1 - (intOf i).toNat)
  case atStart => exact ⟨0, 0, by omega, by omega, hid (fun h => by omega), rfl, rfl, HRq⟩
  case round =>
    obtain ⟨f, k, hf, hk1, hlast, rfl, rfl, hRd⟩ := hrel
    by_cases hk : k ≤ n
    · by_cases hkn : k < n
      · obtain ⟨ad, rfl⟩ := HPA.out (by omega)
        have hcell : wr.cell? (ad.add k) = some (.int .i64 (z k)) := by
          have hb := HBL.out ad rfl (by omega)
          have hb4 := H4.out.size
          have hs := HS3.out
          have h6 := HP.out.2.2
          have hq := hRd.out.fr
          have hbl : (ad.add k).block = ad.block := by unfold Addr.add; split <;> rfl
          have h1s := H1.out.size
          have h6s := h6.size
          have e1 := H4.out.cell (p := ad.add k) (by rw [hbl]; exact hb) id
          have e2 := h6.cell (p := ad.add k) (by rw [hbl]; omega) (by rw [hbl]; omega)
          have e3 := hq.cell (p := ad.add k) (by rw [hbl]; omega) (by rw [hbl]; omega)
          exact ((e3.trans e2).trans e1).trans (HEL.out k ad hkn rfl)
        obtain ⟨hz1, hz2⟩ := HZ.out k hkn
        go_wp2_with fail
        refine Calls.mono (show Calls Try.prog 22 #[.int .i64 (z k), .int .i64 7] _ _ from pick_gen (z k) 7 _ hz1 hz2 (by omega) (by omega)) ?_
        rintro e w7 ⟨p, hp, rfl, rfl⟩
        clear hcell hz1 hz2
        go_wp2_with fail
        obtain ⟨N, hN⟩ : ∃ N, min l.length (f + p) = N := ⟨_, rfl⟩
        have hNi : min (l.length : Int) ((f : Int) + (p : Int)) = (N : Int) := by omega
        rw [hNi]
        have hx : (ofL l).extract f (N : Int).toNat = ofL ((l.take N).drop f) := by rw [ofL_extract, Int.toNat_natCast]
        rw [hx]
        clear hx hNi
        refine Calls.mono (feed_any w3.heap.size d (fun i => i = w3.heap.size) w6 w7 (l.take f) ((l.take N).drop f) hd1 hd2 (by rw [List.length_take, List.length_drop, List.length_take]; omega) hRd.out) ?_
        rw [show l.take f ++ (l.take N).drop f = l.take N by rw [show l.take f = (l.take N).take f by rw [List.take_take, Nat.min_eq_left (by omega)], List.take_append_drop]]
        rintro e w8 ⟨rfl, hR7⟩
        have HR7 := hid hR7
        clear hR7
        obtain ⟨y1, y2⟩ := HPC.out N
        by_cases hg0 : g = 0
        · rw [y2 (fun h => h.1 hg0)]
          have hgi : ((g : Int) != 0) = false := by rw [hg0]; rfl
          clear y1 y2 hg0
          go_wp2
          go_roundw
          case rel => exact ⟨N, k + 1, by omega, by omega, hid (fun h => by omega), rfl, by go_num, HR7⟩
          case measure => (simp [intOf] <;> omega)
        · have hgi : ((g : Int) != 0) = true := bne_iff_ne.2 (by omega)
          by_cases hgN : at' < N
          · rw [y1 ⟨hg0, hgN⟩]
            clear y1 y2
            go_wp2
            go_roundw
            case rel => exact ⟨N, k + 1, by omega, by omega, hid (fun h => by omega), rfl, by go_num, HR7⟩
            case measure => (simp [intOf] <;> omega)
          · rw [y2 (fun h => hgN h.2)]
            clear y1 y2
            go_wp2
            go_roundw
            case rel => exact ⟨N, k + 1, by omega, by omega, hid (fun h => by omega), rfl, by go_num, HR7⟩
            case measure => (simp [intOf] <;> omega)
      · obtain rfl : k = n := by omega
        go_wp2_with fail
        obtain ⟨N, hN⟩ : ∃ N, l.length = N := ⟨_, rfl⟩
        have hx : (ofL l).extract f l.length = ofL ((l.take N).drop f) := by rw [ofL_extract, hN]
        rw [hx]
        clear hx
        refine Calls.mono (feed_any w3.heap.size d (fun i => i = w3.heap.size) w6 wr (l.take f) ((l.take N).drop f) hd1 hd2 (by rw [List.length_take, List.length_drop, List.length_take]; omega) hRd.out) ?_
        rw [show l.take f ++ (l.take N).drop f = l.take N by rw [show l.take f = (l.take N).take f by rw [List.take_take, Nat.min_eq_left (by omega)], List.take_append_drop]]
        rintro e w7 ⟨rfl, hR7⟩
        have HR7 := hid hR7
        clear hR7
        obtain ⟨y1, y2⟩ := HPC.out N
        by_cases hg0 : g = 0
        · rw [y2 (fun h => h.1 hg0)]
          have hgi : ((g : Int) != 0) = false := by rw [hg0]; rfl
          clear y1 y2 hg0
          go_wp2
          go_roundw
          case rel => exact ⟨N, k + 1, by omega, by omega, hid (fun h => by omega), rfl, by go_num, HR7⟩
          case measure => (simp [intOf] <;> omega)
        · have hgi : ((g : Int) != 0) = true := bne_iff_ne.2 (by omega)
          by_cases hgN : at' < N
          · rw [y1 ⟨hg0, hgN⟩]
            clear y1 y2
            go_wp2
            go_roundw
            case rel => exact ⟨N, k + 1, by omega, by omega, hid (fun h => by omega), rfl, by go_num, HR7⟩
            case measure => (simp [intOf] <;> omega)
          · rw [y2 (fun h => hgN h.2)]
            clear y1 y2
            go_wp2
            go_roundw
            case rel => exact ⟨N, k + 1, by omega, by omega, hid (fun h => by omega), rfl, by go_num, HR7⟩
            case measure => (simp [intOf] <;> omega)
    · have hk2 : k = n + 1 := by omega
      obtain rfl := hlast.out hk2
      rw [List.take_length] at hRd
      go_wp2_with fail
      refine Calls.mono (close_any w3.heap.size d (fun i => i = w3.heap.size) w6 wr l hd1 hd2 (by omega) (.inl rfl) hRd.out) ?_
      rw [HR.out]
      rintro e w7 ⟨U, rfl, q1, q2, q3⟩
      have HQ := hid (And.intro q1 q3)
      clear q1 q2 q3
      simp only
      go_wp2_with fail
      have hVn : ∀ i, V.ownBlock = some i → ¬ i = w3.heap.size := by
        intro i hi
        have := HS3.out
        rcases HP.out.2.1 i hi with h | h
        · omega
        · omega
      refine Calls.mono (same_any it V U w7 (by have := HLN.out; omega) (rowFr HP.out.1 HQ.out.2 hVn) HQ.out.1) ?_
      rintro e w8 ⟨rfl, hF8⟩
      have HF := hid (show Fr (fun _ => False) w w8 from by
        have h1s := H1.out.size
        have hs := HS3.out
        refine ((H4.out.trans' HP.out.2.2 (fun i h => .inr (by omega))).trans' HQ.out.2 (fun i h => .inr (by omega))).trans hF8)
      clear hF8 hVn
      obtain ⟨y1, y2⟩ := HWH.out
      by_cases hg0 : g = 0
      · obtain ⟨y3, y4⟩ := y1 hg0
        clear y1 y2
        subst hg0
        rw [y3]
        rcases y4 with y4 | y4 | y4
        · subst y4
          go_wp2
          go_ret
          exact ⟨rfl, HF.out⟩
        · subst y4
          go_wp2
          go_ret
          exact ⟨rfl, HF.out⟩
        · subst y4
          go_wp2
          go_ret
          exact ⟨rfl, HF.out⟩
      · obtain ⟨y3, y4⟩ := y2 hg0
        clear y1 y2
        subst y4
        have hgi : ((hh : Int) != 0) = true := bne_iff_ne.2 (by omega)
        have hgj : ((hh : Int) == 0) = false := beq_eq_false_iff_ne.2 (by omega)
        go_wp2
        go_ret
        exact ⟨rfl, HF.out⟩
end Go.Proofs.Ytmkkibaacclhnaa
