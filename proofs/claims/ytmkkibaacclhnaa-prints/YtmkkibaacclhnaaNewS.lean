/-
  A step of the walk of the numbers, the part named NewS. No theorem of the row.
-/
import Derived.Test.YtmkkibaacclhnaaSetP
namespace Go.Proofs.Ytmkkibaacclhnaa
open Go.RowKit

/-- of bits that are a number, not 0, without a sign: the mantissa, and the power of two counted from 2^-1074 -/
def manE (n : Nat) : Nat × Nat := if n / 4503599627370496 = 0 then (n, 0) else (4503599627370496 + n % 4503599627370496, n / 4503599627370496 - 1)
/-- the room below, in quarters -/
def lowQ (n : Nat) : Nat := if (manE n).1 = 4503599627370496 ∧ 0 < (manE n).2 then 1 else 2
/-- the factors ahead of setPower -/
def upF (E : Nat) : Nat := p2 (E - 1074)
def dnF (E : Nat) : Nat := p2 (1074 - E)

theorem newNatural_sa {S A : Nat → Prop} {w0 w : World} {l : List (Nat × Nat)} (n : Nat) (hn : n < 18446744073709551616) (h : Sx S A w0 w l) :
    Calls Try.prog 80 #[.int .u64 n] w fun e w' => ∃ b, e = .returned (.pointer (some ⟨b, 0, none⟩)) ∧ Sx S A w0 w' ((b, n) :: l) ∧ KeepA A w w' := by
  refine (newNatural_sx n hn h).mono ?_
  rintro e w' ⟨b, rfl, hx, hb, hF⟩
  exact ⟨b, rfl, hx, fun i hi => hF.block i (h.inA i hi) id⟩

end Go.Proofs.Ytmkkibaacclhnaa
