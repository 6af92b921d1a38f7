/-
  DERIVED. GIVEN WITH THE SEED: THE CARDS: each row of YtbepjlhknmhmeaaDoorRows.lean that lists a variable, with what it lists TIED to the program's text (the seventh form; the later family's looks); each row that meets fmt, with fmt's text TOLD by the authors' own Lean function (tested against real Go, not proved from fmt's source: count such statements apart). THE CARD IS WHAT COUNTS. Prove the row's statement (the work); the ties are given (YtbepjlhknmhmeaaDoorTie.lean); close each card by the builder's one call (the guide's Derived/Test/ToyasCard.lean, 'card_holds'). Laid BY PROGRAM, IN A SANDBOX (cutbox-door.mjs). By AI agents, Wed Nov 11 2026. No macro, syntax, notation, axiom, sorry.
-/
import Derived.Test.YtbepjlhknmhmeaaDoorRows
import GoSem.ClaimSeven
namespace Go.Proofs.YtbepjlhknmhmeaaDoor
namespace Rows

/-- THE TIED CARD OF 'lanyardlaw10.MomentPrints'. -/
def momentPrintsCard : Claim7 := { stood := { row := momentPrintsRow, standIns := [], harness := (true, "8e5aa27f4f4d75be8929838aade81ae1889f7c73b75b6c20f5aace98b6aae536"), looks := true }, kinds := [], alts := [], laidByText := true, laidKinds := [.data, .data, .data, .data, .data, .pinned], laidTests := true, laidLooks := .later }
def MomentPrintsCardSaid : Prop := Claim7.holds Tryd.pinned (.plain (OpenSpec.ofChange momentPrintsSpec)) momentPrintsCard

/-- THE TIED CARD OF 'lanyardlaw10.MomentDays'. -/
def momentDaysCard : Claim7 := { stood := { row := momentDaysRow, standIns := [], harness := (true, "8e5aa27f4f4d75be8929838aade81ae1889f7c73b75b6c20f5aace98b6aae536"), looks := true }, kinds := [], alts := [], laidByText := true, laidKinds := [.data, .data, .data, .data, .data, .pinned], laidTests := true, laidLooks := .later }
def MomentDaysCardSaid : Prop := Claim7.holds Tryd.pinned (.plain (OpenSpec.ofChange momentDaysSpec)) momentDaysCard

/-- THE TIED CARD OF 'lanyardlaw10.MomentAdds'. -/
def momentAddsCard : Claim7 := { stood := { row := momentAddsRow, standIns := [], harness := (true, "8e5aa27f4f4d75be8929838aade81ae1889f7c73b75b6c20f5aace98b6aae536"), looks := true }, kinds := [], alts := [], laidByText := true, laidKinds := [.data, .data, .data, .data, .data, .pinned], laidTests := true, laidLooks := .later }
def MomentAddsCardSaid : Prop := Claim7.holds Tryd.pinned (.plain (OpenSpec.ofChange momentAddsSpec)) momentAddsCard

/-- THE TIED CARD OF 'lanyardlaw10.MomentOrders'. -/
def momentOrdersCard : Claim7 := { stood := { row := momentOrdersRow, standIns := [], harness := (true, "8e5aa27f4f4d75be8929838aade81ae1889f7c73b75b6c20f5aace98b6aae536"), looks := true }, kinds := [], alts := [], laidByText := true, laidKinds := [.data, .data, .data, .data, .data, .pinned], laidTests := true, laidLooks := .later }
def MomentOrdersCardSaid : Prop := Claim7.holds Tryd.pinned (.plain (OpenSpec.ofChange momentOrdersSpec)) momentOrdersCard

/-- THE TIED CARD OF 'lanyardlaw10.MomentShifts'. -/
def momentShiftsCard : Claim7 := { stood := { row := momentShiftsRow, standIns := [], harness := (true, "8e5aa27f4f4d75be8929838aade81ae1889f7c73b75b6c20f5aace98b6aae536"), looks := true }, kinds := [], alts := [], laidByText := true, laidKinds := [.data, .data, .data, .data, .data, .pinned], laidTests := true, laidLooks := .later }
def MomentShiftsCardSaid : Prop := Claim7.holds Tryd.pinned (.plain (OpenSpec.ofChange momentShiftsSpec)) momentShiftsCard

/-- THE SECOND FORM's CARD OF 'lanyardlaw10.MomentPrints'. -/
def momentPrintsUptoCard : Claim7 := { stood := { row := momentPrintsUptoRow, standIns := [], harness := (true, "8e5aa27f4f4d75be8929838aade81ae1889f7c73b75b6c20f5aace98b6aae536"), looks := true }, kinds := [], alts := [], laidByText := true, laidKinds := [.data, .data, .data, .data, .data, .pinned], laidTests := true, laidLooks := .later }
def MomentPrintsUptoCardSaid : Prop := Claim7.holds Tryd.pinned (.plain (OpenSpec.upto momentPrintsSpec)) momentPrintsUptoCard

/-- THE SECOND FORM's CARD OF 'lanyardlaw10.MomentDays'. -/
def momentDaysUptoCard : Claim7 := { stood := { row := momentDaysUptoRow, standIns := [], harness := (true, "8e5aa27f4f4d75be8929838aade81ae1889f7c73b75b6c20f5aace98b6aae536"), looks := true }, kinds := [], alts := [], laidByText := true, laidKinds := [.data, .data, .data, .data, .data, .pinned], laidTests := true, laidLooks := .later }
def MomentDaysUptoCardSaid : Prop := Claim7.holds Tryd.pinned (.plain (OpenSpec.upto momentDaysSpec)) momentDaysUptoCard

/-- THE SECOND FORM's CARD OF 'lanyardlaw10.MomentAdds'. -/
def momentAddsUptoCard : Claim7 := { stood := { row := momentAddsUptoRow, standIns := [], harness := (true, "8e5aa27f4f4d75be8929838aade81ae1889f7c73b75b6c20f5aace98b6aae536"), looks := true }, kinds := [], alts := [], laidByText := true, laidKinds := [.data, .data, .data, .data, .data, .pinned], laidTests := true, laidLooks := .later }
def MomentAddsUptoCardSaid : Prop := Claim7.holds Tryd.pinned (.plain (OpenSpec.upto momentAddsSpec)) momentAddsUptoCard

/-- THE SECOND FORM's CARD OF 'lanyardlaw10.MomentOrders'. -/
def momentOrdersUptoCard : Claim7 := { stood := { row := momentOrdersUptoRow, standIns := [], harness := (true, "8e5aa27f4f4d75be8929838aade81ae1889f7c73b75b6c20f5aace98b6aae536"), looks := true }, kinds := [], alts := [], laidByText := true, laidKinds := [.data, .data, .data, .data, .data, .pinned], laidTests := true, laidLooks := .later }
def MomentOrdersUptoCardSaid : Prop := Claim7.holds Tryd.pinned (.plain (OpenSpec.upto momentOrdersSpec)) momentOrdersUptoCard

/-- THE SECOND FORM's CARD OF 'lanyardlaw10.MomentShifts'. -/
def momentShiftsUptoCard : Claim7 := { stood := { row := momentShiftsUptoRow, standIns := [], harness := (true, "8e5aa27f4f4d75be8929838aade81ae1889f7c73b75b6c20f5aace98b6aae536"), looks := true }, kinds := [], alts := [], laidByText := true, laidKinds := [.data, .data, .data, .data, .data, .pinned], laidTests := true, laidLooks := .later }
def MomentShiftsUptoCardSaid : Prop := Claim7.holds Tryd.pinned (.plain (OpenSpec.upto momentShiftsSpec)) momentShiftsUptoCard
end Rows
end Go.Proofs.YtbepjlhknmhmeaaDoor
