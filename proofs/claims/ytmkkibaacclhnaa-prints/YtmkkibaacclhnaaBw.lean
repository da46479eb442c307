/-
  A step of the walk of the numbers, the part named Bw: the first digits of a number, by the document's answer. No theorem of the row.
-/
import Derived.Test.YtmkkibaacclhnaaBr
import Derived.Test.YtmkkibaacclhnaaBt
namespace Go.Proofs.Ytmkkibaacclhnaa
open Go.RowKit

/-- a fraction against a number -/
theorem fag_V (v : Value) (A B L m n E : Nat) (N e : Int) (w : World) (hm : m < 9218868437227405312) (hn : (manE m).1 = n) (hE : (manE m).2 = E) (hN : N = (n : Int)) (he : e = (E : Int) - 1074) (hL : L ≤ 10000000) (hf : FracAt w v A B L) :
    Calls Try.prog 54 #[v, .int .u64 N, .int .i64 e] w fun r w' => r = .returned (.int .i64 (bcmp (A * p2 1074) (B * V m))) ∧ Fr (fun _ => False) w w' := by
  have hb := man_less m hm
  rw [hn, hE] at hb
  refine (fagainst_int v A B L N n e w hN hL (by omega) (by omega) (by omega) hf).mono ?_
  rintro r w' ⟨rfl, hF⟩
  refine ⟨?_, hF⟩
  rw [bcmp_two A (B * n) E 1074 e (by omega), manE_V m, hn, hE, Nat.mul_assoc]

/-- 10^X is not above the number -/
def TenLe (m : Nat) (X : Int) : Prop := p10 X.toNat * p2 1074 ≤ p10 (-X).toNat * V m
end Go.Proofs.Ytmkkibaacclhnaa
