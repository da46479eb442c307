/-
  DERIVED. GIVEN WITH THE SEED: THE CARDS: each row of YtmkkibaacclhnaaGreatDoorRows.lean that lists a variable, with what it lists TIED to the program's text (the seventh form; the later family's looks); each row that meets fmt, with fmt's text TOLD by the authors' own Lean function (tested against real Go, not proved from fmt's source: count such statements apart). THE CARD IS WHAT COUNTS. Prove the row's statement (the work); the ties are given (YtmkkibaacclhnaaGreatDoorTie.lean); close each card by the builder's one call (the guide's Derived/Test/ToyasCard.lean, 'card_holds'). Laid BY PROGRAM, IN A SANDBOX (cutbox-door.mjs). By AI agents, Wed Nov 11 2026. No macro, syntax, notation, axiom, sorry.
-/
import Derived.Test.YtmkkibaacclhnaaGreatDoorRows
import GoSem.ClaimSeven
namespace Go.Proofs.YtmkkibaacclhnaaGreatDoor
namespace Rows

/-- THE TIED CARD OF 'decantlaw.Writes'. -/
def writesCard : Claim7 := { stood := { row := writesRow, standIns := [], harness := (true, "bae37b4afc60c7d3c5d4967ec8bdbdd910f28e26ba46a32832921d8523de58c3"), looks := true }, kinds := [], alts := [], goes := true, laidByText := true, laidKinds := [.data, .pinned], laidTests := true, laidLooks := .later }
def WritesCardSaid : Prop := Claim7.holds Tryz.pinned (.plain (OpenSpec.ofChange writesSpec)) writesCard

/-- THE TIED CARD OF 'decantkeep.Back'. -/
def backCard : Claim7 := { stood := { row := backRow, standIns := [], harness := (true, "bae37b4afc60c7d3c5d4967ec8bdbdd910f28e26ba46a32832921d8523de58c3"), looks := true }, kinds := [], alts := [], goes := true, laidByText := true, laidKinds := [.data, .pinned], laidTests := true, laidLooks := .later }
def BackCardSaid : Prop := Claim7.holds Tryz.pinned (.plain (OpenSpec.ofChange backSpec)) backCard

/-- THE TIED CARD OF 'decantlaw.Formats'. -/
def formatsCard : Claim7 := { stood := { row := formatsRow, standIns := [], harness := (true, "bae37b4afc60c7d3c5d4967ec8bdbdd910f28e26ba46a32832921d8523de58c3"), looks := true }, kinds := [], alts := [], goes := true, laidByText := true, laidKinds := [.data, .pinned], laidTests := true, laidLooks := .later }
def FormatsCardSaid : Prop := Claim7.holds Tryz.pinned (.plain (OpenSpec.ofChange formatsSpec)) formatsCard

/-- THE TIED CARD OF 'decantlaw.All'. -/
def allCard : Claim7 := { stood := { row := allRow, standIns := [], harness := (true, "bae37b4afc60c7d3c5d4967ec8bdbdd910f28e26ba46a32832921d8523de58c3"), looks := true }, kinds := [], alts := [], goes := true, laidByText := true, laidKinds := [.data, .pinned], laidTests := true, laidLooks := .later }
def AllCardSaid : Prop := Claim7.holds Tryz.pinned (.plain (OpenSpec.ofChange allSpec)) allCard

/-- THE SECOND FORM's CARD OF 'decantlaw.Writes'. -/
def writesUptoCard : Claim7 := { stood := { row := writesUptoRow, standIns := [], harness := (true, "bae37b4afc60c7d3c5d4967ec8bdbdd910f28e26ba46a32832921d8523de58c3"), looks := true }, kinds := [], alts := [], goes := true, laidByText := true, laidKinds := [.data, .pinned], laidTests := true, laidLooks := .later }
def WritesUptoCardSaid : Prop := Claim7.holds Tryz.pinned (.plain (OpenSpec.upto writesSpec)) writesUptoCard

/-- THE SECOND FORM's CARD OF 'decantkeep.Back'. -/
def backUptoCard : Claim7 := { stood := { row := backUptoRow, standIns := [], harness := (true, "bae37b4afc60c7d3c5d4967ec8bdbdd910f28e26ba46a32832921d8523de58c3"), looks := true }, kinds := [], alts := [], goes := true, laidByText := true, laidKinds := [.data, .pinned], laidTests := true, laidLooks := .later }
def BackUptoCardSaid : Prop := Claim7.holds Tryz.pinned (.plain (OpenSpec.upto backSpec)) backUptoCard

/-- THE SECOND FORM's CARD OF 'decantlaw.Formats'. -/
def formatsUptoCard : Claim7 := { stood := { row := formatsUptoRow, standIns := [], harness := (true, "bae37b4afc60c7d3c5d4967ec8bdbdd910f28e26ba46a32832921d8523de58c3"), looks := true }, kinds := [], alts := [], goes := true, laidByText := true, laidKinds := [.data, .pinned], laidTests := true, laidLooks := .later }
def FormatsUptoCardSaid : Prop := Claim7.holds Tryz.pinned (.plain (OpenSpec.upto formatsSpec)) formatsUptoCard

/-- THE SECOND FORM's CARD OF 'decantlaw.All'. -/
def allUptoCard : Claim7 := { stood := { row := allUptoRow, standIns := [], harness := (true, "bae37b4afc60c7d3c5d4967ec8bdbdd910f28e26ba46a32832921d8523de58c3"), looks := true }, kinds := [], alts := [], goes := true, laidByText := true, laidKinds := [.data, .pinned], laidTests := true, laidLooks := .later }
def AllUptoCardSaid : Prop := Claim7.holds Tryz.pinned (.plain (OpenSpec.upto allSpec)) allUptoCard
end Rows
end Go.Proofs.YtmkkibaacclhnaaGreatDoor
