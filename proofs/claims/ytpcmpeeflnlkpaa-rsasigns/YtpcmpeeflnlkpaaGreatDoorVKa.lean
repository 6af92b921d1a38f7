
/-
  The document's words, reckoned: the state at first, the rounds' words.
-/
import Derived.Test.YtpcmpeeflnlkpaaGreatDoorVBelowEtc
namespace Go.Proofs.YtpcmpeeflnlkpaaGreatDoor
open Go.RowKit Ch
set_option maxRecDepth 100000

theorem words_h : ((prK 310).take 8).map (fun p => rootN p false) = beginS.l := by decide +kernel
theorem words_k0 : (((prK 310).drop 0).take 8).map (fun p => rootN p true) = (roundK.drop 0).take 8 := by decide +kernel
theorem words_k1 : (((prK 310).drop 8).take 8).map (fun p => rootN p true) = (roundK.drop 8).take 8 := by decide +kernel
theorem words_k2 : (((prK 310).drop 16).take 8).map (fun p => rootN p true) = (roundK.drop 16).take 8 := by decide +kernel
theorem words_k3 : (((prK 310).drop 24).take 8).map (fun p => rootN p true) = (roundK.drop 24).take 8 := by decide +kernel
end Go.Proofs.YtpcmpeeflnlkpaaGreatDoor
