
/-
  A key that came in, told by its bytes.
-/
import Derived.Test.YtpcmpeeflnlkpaaGreatDoorKArg
namespace Go.Proofs.YtpcmpeeflnlkpaaGreatDoor
open Go.ChangeShapes Go.WideShapes Go.ChangeAt Go.RowKit Ch
set_option maxRecDepth 100000

theorem okWide_key {P : Program} {w : World} {r : Reach} {base : Nat} {t : TypeId} {v : Value} {fs : Array Field} (ht : P.underlying t = some (.struct fs)) (h : Value.okWide P w r base t v) : ∃ cs, v = .agg cs ∧ cs.size = P.cellsOf t := by
  simp only [Value.okWide, ht] at h
  obtain ⟨cs, h1, h2, _⟩ := h
  exact ⟨cs, h1, h2⟩
theorem key_arg {H : Type} {enc : TypeId × Value → H} {W : World} {cs : Array Value} {d : DataW H} {p : List MemPlace} {base : Nat} {sp : Nat → Bool} {held : Bool} (hsz : cs.size = 3)
    (h : DataW.Trod enc Tryz.prog W base sp held 25 (.agg cs) d p) : ∃ x y z s t u, cs = #[x, y, z] ∧ IsBytes W x s ∧ IsBytes W y t ∧ IsBytes W z u := by
  obtain ⟨fuel, hf⟩ := h
  obtain ⟨xs, m, _, _, _, hl, hel⟩ := DataW.trod_struct Tryz.underlying25 hf
  have hlen : xs.length = 3 := hl
  have key : ∀ i, i < 3 → DataW.trod enc Tryz.prog W base sp held m 22 ((cs.toList.drop i).take (Tryz.prog.cellsOf 22)) = xs[i]? → ∃ u t, cs[i]? = some u ∧ IsBytes W u t := fun i hi h1 => by
    rw [cellsSl, List.getElem?_eq_getElem (by omega)] at h1
    obtain ⟨u, t, hu, hut⟩ := slice_cells h1
    refine ⟨u, t, ?_, hut⟩
    have h2 : ((cs.toList.drop i).take 1)[0]? = some u := by rw [hu]; rfl
    simpa using h2
  obtain ⟨x, s, e0, i0⟩ := key 0 (by omega) (hel 0 _ rfl)
  obtain ⟨y, t, e1, i1⟩ := key 1 (by omega) (hel 1 _ rfl)
  obtain ⟨z, u, e2, i2⟩ := key 2 (by omega) (hel 2 _ rfl)
  refine ⟨x, y, z, s, t, u, ?_, i0, i1, i2⟩
  apply Array.ext_getElem?
  intro i
  rcases i with _ | _ | _ | i
  · simpa using e0
  · simpa using e1
  · simpa using e2
  · rw [Array.getElem?_eq_none (by omega)]
    simp
end Go.Proofs.YtpcmpeeflnlkpaaGreatDoor
