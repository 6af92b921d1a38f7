/-
  Facts of this program that the cards of layer 5 want: no knob of its own, its types laid out, the rounds' words as they lie.
-/
import Derived.Test.YtpcmpeeflnlkpaaDoorTie
import Derived.Test.YtpcmpeeflnlkpaaDoorKMix
import Derived.ProofKit
import Derived.OpenShut
import Derived.Lay
import Derived.Lib.LaidTab
namespace Go.Proofs.YtpcmpeeflnlkpaaDoor
open Go.RowKit Ch
set_option maxRecDepth 100000

theorem own : ownKnob Tryd.prog.godebug = none := by kernel_rfl
theorem laidOut : laidOutB Tryd.prog = true := by kernel_rfl
theorem gRound : Tryd.prog.globalNamed "lanyard/hash.roundWords" = some 3 := by kernel_rfl
theorem gRoundType : (Tryd.prog.globals[3]?).map (·.type) = some 109 := by kernel_rfl
theorem ktab_of {W : World} (h : laidMetH Tryd.prog [("lanyard/hash.roundWords", Rows.laid_lanyard_hash_roundWords)] W) : KTab W := by
  have h : laidMet Tryd.prog [("lanyard/hash.roundWords", Lib.tabData .u32 (roundK.map fun n : Nat => (n : Int)))] W := h
  have ht := Lib.tabIs_of_head gRound gRoundType Tryd.underlying109 Tryd.underlying87 (by kernel_rfl) (by kernel_rfl) h
  unfold Lib.TabIs World.var? at ht
  rw [gRound, Option.bind_some] at ht
  split at ht
  · rename_i c t fr hh
    obtain rfl := Option.some.inj ht
    refine ⟨_, t, fr, hh, fun i hi => ?_⟩
    rw [List.getElem?_toArray, List.getElem?_map, List.getElem?_map]
    have hl : i < roundK.length := hi
    unfold atN
    rw [List.getElem?_eq_getElem hl]
    rfl
  · cases ht
end Go.Proofs.YtpcmpeeflnlkpaaDoor
