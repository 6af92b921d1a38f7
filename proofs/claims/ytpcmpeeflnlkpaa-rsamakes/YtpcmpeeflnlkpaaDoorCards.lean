/-
  DERIVED. GIVEN WITH THE SEED: THE CARDS: each row of YtpcmpeeflnlkpaaDoorRows.lean that lists a variable, with what it lists TIED to the program's text (the seventh form; the later family's looks); each row that meets fmt, with fmt's text TOLD by the authors' own Lean function (tested against real Go, not proved from fmt's source: count such statements apart). THE CARD IS WHAT COUNTS. Prove the row's statement (the work); the ties are given (YtpcmpeeflnlkpaaDoorTie.lean); close each card by the builder's one call (the guide's Derived/Test/ToyasCard.lean, 'card_holds'). Laid BY PROGRAM, IN A SANDBOX (cutbox-door.mjs). By AI agents, Wed Nov 11 2026. No macro, syntax, notation, axiom, sorry.
-/
import Derived.Test.YtpcmpeeflnlkpaaDoorRows
import GoSem.ClaimSeven
namespace Go.Proofs.YtpcmpeeflnlkpaaDoor
namespace Rows

/-- THE TIED CARD OF 'lanyardlaw07.RsaMakes'. -/
def rsaMakesCard : Claim7 := { stood := { row := rsaMakesRow, standIns := [], harness := (true, "a1d6ff0e4ab6f501e1f722265ef74482adfaf705d30aec2cec170db24d14cd9f"), looks := false }, kinds := [], alts := [], laidByText := true, laidKinds := [.data], laidTests := true, laidLooks := .later }
def RsaMakesCardSaid : Prop := Claim7.holds Tryd.pinned (.plain (OpenSpec.ofChange rsaMakesSpec)) rsaMakesCard

/-- THE SECOND FORM's CARD OF 'lanyardlaw07.RsaMakes'. -/
def rsaMakesUptoCard : Claim7 := { stood := { row := rsaMakesUptoRow, standIns := [], harness := (true, "a1d6ff0e4ab6f501e1f722265ef74482adfaf705d30aec2cec170db24d14cd9f"), looks := false }, kinds := [], alts := [], laidByText := true, laidKinds := [.data], laidTests := true, laidLooks := .later }
def RsaMakesUptoCardSaid : Prop := Claim7.holds Tryd.pinned (.plain (OpenSpec.upto rsaMakesSpec)) rsaMakesUptoCard
end Rows
end Go.Proofs.YtpcmpeeflnlkpaaDoor
