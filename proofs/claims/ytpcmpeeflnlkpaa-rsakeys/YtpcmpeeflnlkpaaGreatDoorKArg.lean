
/-
  A [][]byte that came in, told by its texts.
-/
import Derived.Test.YtpcmpeeflnlkpaaGreatDoorKSumEtc
namespace Go.Proofs.YtpcmpeeflnlkpaaGreatDoor
open Go.ChangeShapes Go.WideShapes Go.ChangeAt Go.RowKit Ch
set_option maxRecDepth 100000

theorem cellsSl : Tryz.prog.cellsOf 22 = 1 := by kernel_rfl
theorem slice_cells {H : Type} {enc : TypeId × Value → H} {W : World} {base : Nat} {sp : Nat → Bool} {held : Bool} {n : Nat} {cs : List Value} {x : DataW H × List MemPlace}
    (h : DataW.trod enc Tryz.prog W base sp held n 22 cs = some x) : ∃ (u : Value) (t : ByteArray), cs = [u] ∧ IsBytes W u t := by
  have h' := h
  rcases DataW.trod_slice Tryz.underlying22 h with ⟨hcs, _⟩ | ⟨y, ln, cp, elems, rest, m, _, hcs, _⟩
  · subst hcs
    obtain ⟨s, hs, hb⟩ := bytes_arg (a := none) (len := 0) (cap := 0) (d := x.1) (p := x.2) ⟨n, h'⟩
    exact ⟨_, s, rfl, hb⟩
  · subst hcs
    obtain ⟨s, hs, hb⟩ := bytes_arg (a := some y) (len := ln) (cap := cp) (d := x.1) (p := x.2) ⟨n, h'⟩
    exact ⟨_, s, rfl, hb⟩
end Go.Proofs.YtpcmpeeflnlkpaaGreatDoor
