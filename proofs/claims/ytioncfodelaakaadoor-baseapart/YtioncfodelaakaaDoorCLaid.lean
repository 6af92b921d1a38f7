/-
  A world for the witness, in which the library's two tables lie as the rows list them.
-/
import Derived.Test.YtioncfodelaakaaDoorTie
import Derived.ProofKit
import Derived.OpenShut
import Derived.Lib.LaidTab
namespace Go.Proofs.YtioncfodelaakaaDoor
open Go.RowKit

theorem own : ownKnob Tryd.prog.godebug = none := by kernel_rfl
theorem laidOut : laidOutB Tryd.prog = true := by kernel_rfl
def layCells (c : Array Value) : Obj → Obj
  | .cells _ t frozen => .cells c t frozen
  | o => o
def firstC : Array Value := (Go.Pinned.utf8FirstZ.map fun n : Nat => Value.int .u8 (n : Int)).toArray
def rangesC : Array Value := (([128, 191, 160, 191, 128, 159, 144, 191, 128, 143] ++ List.replicate 22 0).map fun n : Nat => Value.int .u8 (n : Int)).toArray
def layTabs (w : World) : World := { w with heap := (w.heap.modify 1 (layCells firstC)).modify 2 (layCells rangesC) }
end Go.Proofs.YtioncfodelaakaaDoor
