/-
  Package hash: a cell of an array by value.
-/
import Derived.Test.YtgehgcnaoapbbaaDoorKMacs
import Derived.Laws.PanicsMore
namespace Go.Proofs.YtgehgcnaoapbbaaDoor
open Go.RowKit Ch
set_option maxRecDepth 100000
theorem index32 (C : Array Value) (i : Nat) (v : Value) (w : World) (hi : i < 32) (h : C[i]? = some v) : (Instr.index 54 (.agg C) (.int .i64 (i : Int))).run Tryd.prog w = .ok v w := by
  have e2 : (Go.sizeOf 5).run Tryd.prog w = .ok 1 w := by kernel_rfl
  have hu := run_underlying (w := w) Tryd.underlying54
  simp [Instr.index, hu, asIntOf, Go.part, e2, h, go_sem]
  exact fun h2 => absurd h2 (by omega)
end Go.Proofs.YtgehgcnaoapbbaaDoor
