/-
  A key that came in, told by its bytes.
-/
import Derived.Test.YthdoginhbhdmbaaXArg
namespace Go.Proofs.Ythdoginhbhdmbaa
open Go.ChangeShapes Go.WideShapes Go.ChangeAt Go.RowKit Ch
set_option maxRecDepth 100000

theorem okWide_key {P : Program} {w : World} {r : Reach} {base : Nat} {t : TypeId} {v : Value} {fs : Array Field} (ht : P.underlying t = some (.struct fs)) (h : Value.okWide P w r base t v) : ∃ cs, v = .agg cs ∧ cs.size = P.cellsOf t := by
  simp only [Value.okWide, ht] at h
  obtain ⟨cs, h1, h2, _⟩ := h
  exact ⟨cs, h1, h2⟩
theorem key_arg {H : Type} {enc : TypeId × Value → H} {W : World} {cs : Array Value} {d : DataW H} {p : List MemPlace} {base : Nat} {sp : Nat → Bool} {held : Bool} (hsz : cs.size = 3)
    (h : DataW.Trod enc Try.prog W base sp held 36 (.agg cs) d p) : ∃ x y z cx cy cz sN sE sD, cs = #[.slice x sN.size cx, .slice y sE.size cy, .slice z sD.size cz] ∧ IsBytes W (.slice x sN.size cx) sN ∧ IsBytes W (.slice y sE.size cy) sE ∧ IsBytes W (.slice z sD.size cz) sD := by
  obtain ⟨fuel, hf⟩ := h
  obtain ⟨xs, m, _, _, _, hl, hel⟩ := DataW.trod_struct Try.underlying36 hf
  have hlen : xs.length = 3 := hl
  have key : ∀ i, i < 3 → DataW.trod enc Try.prog W base sp held m 24 ((cs.toList.drop i).take (Try.prog.cellsOf 24)) = xs[i]? → ∃ (bl : List UInt8) (y : Option Addr) (c : Nat), cs[i]? = some (.slice y bl.length c) ∧ IsBytes W (.slice y bl.length c) ⟨bl.toArray⟩ := fun i hi h1 => by
    rw [cellsSlc, List.getElem?_eq_getElem (by omega)] at h1
    obtain ⟨bl, y, c, ht, hb⟩ := slc_cells h1
    refine ⟨bl, y, c, ?_, hb⟩
    have h2 : ((cs.toList.drop i).take 1)[0]? = some (.slice y bl.length c) := by rw [ht]; rfl
    simpa using h2
  obtain ⟨b0, y0, c0, e0, i0⟩ := key 0 (by omega) (hel 0 _ rfl)
  obtain ⟨b1, y1, c1, e1, i1⟩ := key 1 (by omega) (hel 1 _ rfl)
  obtain ⟨b2, y2, c2, e2, i2⟩ := key 2 (by omega) (hel 2 _ rfl)
  have hz : ∀ l : List UInt8, (⟨l.toArray⟩ : ByteArray).size = l.length := fun l => size_of_list l
  refine ⟨y0, y1, y2, c0, c1, c2, ⟨b0.toArray⟩, ⟨b1.toArray⟩, ⟨b2.toArray⟩, ?_, by rw [hz]; exact i0, by rw [hz]; exact i1, by rw [hz]; exact i2⟩
  rw [hz, hz, hz]
  apply Array.ext_getElem?
  intro i
  rcases i with _ | _ | _ | i
  · simpa using e0
  · simpa using e1
  · simpa using e2
  · rw [Array.getElem?_eq_none (by omega)]
    simp
end Go.Proofs.Ythdoginhbhdmbaa
