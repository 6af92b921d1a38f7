/-
  Facts of this program that the cards want: no knob of its own, its types laid out, where the variable that a search reads comes from.
-/
import Derived.Test.YtnkefpopkaagaaaDoorTie
import Derived.Test.YtnkefpopkaagaaaDoorShelf
import Derived.ProofKit
import Derived.OpenShut
import Derived.Lay
namespace Go.Proofs.YtnkefpopkaagaaaDoor
open Go.RowKit
set_option maxRecDepth 100000

theorem own : ownKnob Tryd.prog.godebug = none := by kernel_rfl
theorem laidOut : laidOutB Tryd.prog = true := by kernel_rfl
theorem maxLen_of {w : World} (h : w.ShapedOpen Tryd.prog) : ∃ m : Int, w.cell? ⟨1, 0, none⟩ = some (.int .i64 m) := Tryd.laysM145.s1_3 w h
end Go.Proofs.YtnkefpopkaagaaaDoor
