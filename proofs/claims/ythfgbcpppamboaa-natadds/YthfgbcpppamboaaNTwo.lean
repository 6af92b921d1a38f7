/-
  A [2][]byte that came in, told by its texts.
-/
import Derived.Test.YthfgbcpppamboaaLNAdds
import Derived.OpenShut
namespace Go.Proofs.Ythfgbcpppamboaa
open Go.ChangeShapes Go.WideShapes Go.ChangeAt Go.RowKit Ch
set_option maxRecDepth 100000

theorem cellsSl : Try.prog.cellsOf 22 = 1 := by kernel_rfl
theorem slice_cells {H : Type} {enc : TypeId × Value → H} {W : World} {base : Nat} {sp : Nat → Bool} {held : Bool} {n : Nat} {cs : List Value} {x : DataW H × List MemPlace}
    (h : DataW.trod enc Try.prog W base sp held n 22 cs = some x) : ∃ (u : Value) (t : ByteArray), cs = [u] ∧ IsBytes W u t := by
  have h' := h
  rcases DataW.trod_slice Try.underlying22 h with ⟨hcs, _⟩ | ⟨y, ln, cp, elems, rest, m, _, hcs, _⟩
  · subst hcs
    obtain ⟨s, hs, hb⟩ := bytes_arg (a := none) (len := 0) (cap := 0) (d := x.1) (p := x.2) ⟨n, h'⟩
    exact ⟨_, s, rfl, hb⟩
  · subst hcs
    obtain ⟨s, hs, hb⟩ := bytes_arg (a := some y) (len := ln) (cap := cp) (d := x.1) (p := x.2) ⟨n, h'⟩
    exact ⟨_, s, rfl, hb⟩
theorem okWide_two {P : Program} {w : World} {r : Reach} {base : Nat} {t : TypeId} {v : Value} {n : Nat} {e : TypeId} (ht : P.underlying t = some (.array n e)) (h : Value.okWide P w r base t v) : ∃ cs, v = .agg cs ∧ cs.size = P.cellsOf t := by
  simp only [Value.okWide, ht] at h
  obtain ⟨cs, h1, h2, _⟩ := h
  exact ⟨cs, h1, h2⟩
theorem two_arg {H : Type} {enc : TypeId × Value → H} {W : World} {cs : Array Value} {d : DataW H} {p : List MemPlace} {base : Nat} {sp : Nat → Bool} {held : Bool} (hsz : cs.size = 2)
    (h : DataW.Trod enc Try.prog W base sp held 42 (.agg cs) d p) : ∃ x y cx cy s t, cs = #[.slice x s.size cx, .slice y t.size cy] ∧ IsBytes W (.slice x s.size cx) s ∧ IsBytes W (.slice y t.size cy) t := by
  obtain ⟨fuel, hf⟩ := h
  obtain ⟨xs, m, _, _, _, hl, hel⟩ := DataW.trod_array Try.underlying42 hf
  have key : ∀ i, i < 2 → ∃ u t, cs[i]? = some u ∧ IsBytes W u t := fun i hi => by
    have h1 := hel i hi
    rw [cellsSl, Nat.mul_one, List.getElem?_eq_getElem (by omega)] at h1
    obtain ⟨u, t, hu, hut⟩ := slice_cells h1
    refine ⟨u, t, ?_, hut⟩
    have h2 : ((cs.toList.drop i).take 1)[0]? = some u := by
      have : (Value.agg cs).cells.toList = cs.toList := rfl
      rw [this] at hu
      rw [hu]; rfl
    simpa using h2
  obtain ⟨u0, s, h0, hs⟩ := key 0 (by omega)
  obtain ⟨u1, t, h1, ht⟩ := key 1 (by omega)
  obtain ⟨x, cx, rfl, _⟩ := id hs
  obtain ⟨y, cy, rfl, _⟩ := id ht
  refine ⟨x, y, cx, cy, s, t, ?_, hs, ht⟩
  apply Array.ext_getElem?
  intro i
  rcases i with _ | _ | i
  · simpa using h0
  · simpa using h1
  · rw [Array.getElem?_eq_none (by omega)]
    simp
end Go.Proofs.Ythfgbcpppamboaa
