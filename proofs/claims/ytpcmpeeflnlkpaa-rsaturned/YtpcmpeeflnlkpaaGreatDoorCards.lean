/-
  DERIVED. GIVEN WITH THE SEED: THE CARDS: each row of YtpcmpeeflnlkpaaGreatDoorRows.lean that lists a variable, with what it lists TIED to the program's text (the seventh form; the later family's looks); each row that meets fmt, with fmt's text TOLD by the authors' own Lean function (tested against real Go, not proved from fmt's source: count such statements apart). THE CARD IS WHAT COUNTS. Prove the row's statement (the work); the ties are given (YtpcmpeeflnlkpaaGreatDoorTie.lean); close each card by the builder's one call (the guide's Derived/Test/ToyasCard.lean, 'card_holds'). Laid BY PROGRAM, IN A SANDBOX (cutbox-door.mjs). By AI agents, Wed Nov 11 2026. No macro, syntax, notation, axiom, sorry.
-/
import Derived.Test.YtpcmpeeflnlkpaaGreatDoorRows
import GoSem.ClaimSeven
namespace Go.Proofs.YtpcmpeeflnlkpaaGreatDoor
namespace Rows

/-- THE TIED CARD OF 'lanyardlaw07.RsaSigns'. -/
def rsaSignsCard : Claim7 := { stood := { row := rsaSignsRow, standIns := [], harness := (true, "d7d48d00155a9ccd67936ac01d9bb3dd18f206e3041a27526d8d3093cf6b4aec"), looks := false }, kinds := [], alts := [], laidByText := true, laidKinds := [.data], laidTests := true, laidLooks := .later }
def RsaSignsCardSaid : Prop := Claim7.holds Tryz.pinned (.plain (OpenSpec.ofChange rsaSignsSpec)) rsaSignsCard

/-- THE TIED CARD OF 'lanyardlaw07.RsaVerifies'. -/
def rsaVerifiesCard : Claim7 := { stood := { row := rsaVerifiesRow, standIns := [], harness := (true, "d7d48d00155a9ccd67936ac01d9bb3dd18f206e3041a27526d8d3093cf6b4aec"), looks := false }, kinds := [], alts := [], laidByText := true, laidKinds := [.data], laidTests := true, laidLooks := .later }
def RsaVerifiesCardSaid : Prop := Claim7.holds Tryz.pinned (.plain (OpenSpec.ofChange rsaVerifiesSpec)) rsaVerifiesCard

/-- THE TIED CARD OF 'lanyardlaw07.RsaTurned'. -/
def rsaTurnedCard : Claim7 := { stood := { row := rsaTurnedRow, standIns := [], harness := (true, "d7d48d00155a9ccd67936ac01d9bb3dd18f206e3041a27526d8d3093cf6b4aec"), looks := false }, kinds := [], alts := [], laidByText := true, laidKinds := [.data], laidTests := true, laidLooks := .later }
def RsaTurnedCardSaid : Prop := Claim7.holds Tryz.pinned (.plain (OpenSpec.ofChange rsaTurnedSpec)) rsaTurnedCard

/-- THE TIED CARD OF 'lanyardlaw07.RsaKeys'. -/
def rsaKeysCard : Claim7 := { stood := { row := rsaKeysRow, standIns := [], harness := (true, "d7d48d00155a9ccd67936ac01d9bb3dd18f206e3041a27526d8d3093cf6b4aec"), looks := false }, kinds := [], alts := [], laidByText := true, laidKinds := [.data], laidTests := true, laidLooks := .later }
def RsaKeysCardSaid : Prop := Claim7.holds Tryz.pinned (.plain (OpenSpec.ofChange rsaKeysSpec)) rsaKeysCard

/-- THE SECOND FORM's CARD OF 'lanyardlaw07.RsaSigns'. -/
def rsaSignsUptoCard : Claim7 := { stood := { row := rsaSignsUptoRow, standIns := [], harness := (true, "d7d48d00155a9ccd67936ac01d9bb3dd18f206e3041a27526d8d3093cf6b4aec"), looks := false }, kinds := [], alts := [], laidByText := true, laidKinds := [.data], laidTests := true, laidLooks := .later }
def RsaSignsUptoCardSaid : Prop := Claim7.holds Tryz.pinned (.plain (OpenSpec.upto rsaSignsSpec)) rsaSignsUptoCard

/-- THE SECOND FORM's CARD OF 'lanyardlaw07.RsaVerifies'. -/
def rsaVerifiesUptoCard : Claim7 := { stood := { row := rsaVerifiesUptoRow, standIns := [], harness := (true, "d7d48d00155a9ccd67936ac01d9bb3dd18f206e3041a27526d8d3093cf6b4aec"), looks := false }, kinds := [], alts := [], laidByText := true, laidKinds := [.data], laidTests := true, laidLooks := .later }
def RsaVerifiesUptoCardSaid : Prop := Claim7.holds Tryz.pinned (.plain (OpenSpec.upto rsaVerifiesSpec)) rsaVerifiesUptoCard

/-- THE SECOND FORM's CARD OF 'lanyardlaw07.RsaTurned'. -/
def rsaTurnedUptoCard : Claim7 := { stood := { row := rsaTurnedUptoRow, standIns := [], harness := (true, "d7d48d00155a9ccd67936ac01d9bb3dd18f206e3041a27526d8d3093cf6b4aec"), looks := false }, kinds := [], alts := [], laidByText := true, laidKinds := [.data], laidTests := true, laidLooks := .later }
def RsaTurnedUptoCardSaid : Prop := Claim7.holds Tryz.pinned (.plain (OpenSpec.upto rsaTurnedSpec)) rsaTurnedUptoCard

/-- THE SECOND FORM's CARD OF 'lanyardlaw07.RsaKeys'. -/
def rsaKeysUptoCard : Claim7 := { stood := { row := rsaKeysUptoRow, standIns := [], harness := (true, "d7d48d00155a9ccd67936ac01d9bb3dd18f206e3041a27526d8d3093cf6b4aec"), looks := false }, kinds := [], alts := [], laidByText := true, laidKinds := [.data], laidTests := true, laidLooks := .later }
def RsaKeysUptoCardSaid : Prop := Claim7.holds Tryz.pinned (.plain (OpenSpec.upto rsaKeysSpec)) rsaKeysUptoCard
end Rows
end Go.Proofs.YtpcmpeeflnlkpaaGreatDoor
