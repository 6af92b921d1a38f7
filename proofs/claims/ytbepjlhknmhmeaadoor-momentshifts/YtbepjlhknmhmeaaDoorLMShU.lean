/-
  The law MomentShifts, of a byte as it came in.
-/
import Derived.Test.YtbepjlhknmhmeaaDoorLMShifts
namespace Go.Proofs.YtbepjlhknmhmeaaDoor
open Go.RowKit Ch
set_option maxRecDepth 100000

theorem lmShifts_all (ms mi a : Int) (w : World) (h : Laid10 w) (ha : (Lit.int .u8 a).wf = true) : Calls Tryd.prog 7 #[.int .i64 ms, .int .i64 mi, .int .u8 a] w fun e w' => e = .returned (.bool true) ∧ Below w.heap.size w w' := by
  obtain ⟨h0, h1⟩ := wf_u8 ha
  have e : a = ((UInt8.ofNat a.toNat).toNat : Int) := by rw [UInt8.toNat_ofNat']; omega
  rw [e]
  exact lmShifts_any ms mi _ w h
end Go.Proofs.YtbepjlhknmhmeaaDoor
