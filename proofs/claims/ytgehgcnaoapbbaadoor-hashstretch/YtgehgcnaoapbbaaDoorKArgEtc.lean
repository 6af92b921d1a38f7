/-
  A [][]byte that came in, told by its texts.
  A [2][]byte that came in, told by its texts.
-/
import Derived.Test.YtgehgcnaoapbbaaDoorKWordEtc
namespace Go.Proofs.YtgehgcnaoapbbaaDoor
open Go.ChangeShapes Go.WideShapes Go.ChangeAt Go.RowKit Ch
set_option maxRecDepth 100000

theorem cellsSl : Tryd.prog.cellsOf 23 = 1 := by kernel_rfl
theorem list_ofS {α : Type} {P : Nat → α → Prop} : ∀ n : Nat, (∀ i, i < n → ∃ x, P i x) → ∃ l : List α, l.length = n ∧ ∀ i x, l[i]? = some x → P i x
  | 0, _ => ⟨[], rfl, fun i x h => by simp at h⟩
  | n + 1, h => by
    obtain ⟨l, hl, hp⟩ := list_ofS n (fun i hi => h i (by omega))
    obtain ⟨x, hx⟩ := h n (by omega)
    refine ⟨l ++ [x], by simp [hl], fun i y hy => ?_⟩
    rcases Nat.lt_or_ge i l.length with h' | h'
    · rw [List.getElem?_append_left h'] at hy
      exact hp i y hy
    · rw [List.getElem?_append_right h'] at hy
      have : i - l.length = 0 := by
        rcases Nat.eq_zero_or_pos (i - l.length) with h2 | h2
        · exact h2
        · rw [List.getElem?_eq_none (by simp; omega)] at hy; cases hy
      rw [this] at hy
      simp at hy
      obtain rfl : i = n := by omega
      rw [← hy]
      exact hx
theorem slice_cells {H : Type} {enc : TypeId × Value → H} {W : World} {base : Nat} {sp : Nat → Bool} {held : Bool} {n : Nat} {cs : List Value} {x : DataW H × List MemPlace}
    (h : DataW.trod enc Tryd.prog W base sp held n 23 cs = some x) : ∃ (u : Value) (t : ByteArray), cs = [u] ∧ IsBytes W u t := by
  have h' := h
  rcases DataW.trod_slice Tryd.underlying23 h with ⟨hcs, _⟩ | ⟨y, ln, cp, elems, rest, m, _, hcs, _⟩
  · subst hcs
    obtain ⟨s, hs, hb⟩ := bytes_arg (a := none) (len := 0) (cap := 0) (d := x.1) (p := x.2) ⟨n, h'⟩
    exact ⟨_, s, rfl, hb⟩
  · subst hcs
    obtain ⟨s, hs, hb⟩ := bytes_arg (a := some y) (len := ln) (cap := cp) (d := x.1) (p := x.2) ⟨n, h'⟩
    exact ⟨_, s, rfl, hb⟩
theorem slices_arg {H : Type} {enc : TypeId × Value → H} {W : World} {a : Option Addr} {len cap : Nat} {d : DataW H} {p : List MemPlace} {base : Nat} {sp : Nat → Bool} {held : Bool}
    (h : DataW.Trod enc Tryd.prog W base sp held 22 (.slice a len cap) d p) : ∃ l : List ByteArray, l.length = len ∧ IsSl W (.slice a len cap) l := by
  obtain ⟨fuel, hf⟩ := h
  rcases DataW.trod_slice Tryd.underlying22 hf with ⟨hcs, _⟩ | ⟨x, ln, cp, elems, rest, n, _, hcs, _, hb, hl, hm, hlen, hel, _, _⟩
  · simp [Value.cells] at hcs
    obtain ⟨rfl, rfl, rfl⟩ := hcs
    exact ⟨[], rfl, none, 0, rfl, .inl rfl⟩
  · simp [Value.cells] at hcs
    obtain ⟨rfl, rfl, rfl⟩ := hcs
    rw [cellsSl] at hel
    have key : ∀ i, i < len → ∃ t : ByteArray, ∃ u, W.cell? (x.add (i * 1)) = some u ∧ IsBytes W u t := fun i hi => by
      have h1 := hel i hi
      rw [List.getElem?_eq_getElem (by omega)] at h1
      obtain ⟨cs, h2, h3⟩ := Option.bind_eq_some_iff.1 h1
      obtain ⟨u, t, rfl, hut⟩ := slice_cells h3
      obtain ⟨_, _, h4⟩ := World.cells?_some h2
      have h5 := h4 0 (by omega)
      have e0 : (x.add (i * 1)).add 0 = x.add (i * 1) := by unfold Addr.add; split <;> simp_all
      rw [e0] at h5
      exact ⟨t, u, h5, hut⟩
    obtain ⟨l, hll, hlp⟩ := list_ofS len key
    refine ⟨l, hll, some x, cap, by rw [hll], ?_⟩
    by_cases h0 : len = 0
    · exact .inl (by rw [hll, h0])
    · obtain ⟨t0, u0, k0, _⟩ := key 0 (by omega)
      have hspot : x.spot = none := by
        have := World.cell?_spot k0
        simpa [Addr.add] using this
      obtain ⟨b, off, spot⟩ := x
      simp only at hspot
      subst hspot
      have e1 : ∀ j, (⟨b, off, none⟩ : Addr).add j = ⟨b, off + j, none⟩ := fun j => by unfold Addr.add; split <;> simp_all
      refine .inr ⟨b, off, rfl, ?_, fun i t ht => ?_⟩
      · rw [e1] at k0
        exact cell_lt k0
      · obtain ⟨u, h1, h2⟩ := hlp i t ht
        rw [e1, Nat.mul_one] at h1
        exact ⟨u, h1, h2⟩
end Go.Proofs.YtgehgcnaoapbbaaDoor

namespace Go.Proofs.YtgehgcnaoapbbaaDoor
open Go.ChangeShapes Go.WideShapes Go.ChangeAt Go.RowKit Ch
set_option maxRecDepth 100000

theorem okWide_two {P : Program} {w : World} {r : Reach} {base : Nat} {t : TypeId} {v : Value} {n : Nat} {e : TypeId} (ht : P.underlying t = some (.array n e)) (h : Value.okWide P w r base t v) : ∃ cs, v = .agg cs ∧ cs.size = P.cellsOf t := by
  simp only [Value.okWide, ht] at h
  obtain ⟨cs, h1, h2, _⟩ := h
  exact ⟨cs, h1, h2⟩
theorem two_arg {H : Type} {enc : TypeId × Value → H} {W : World} {cs : Array Value} {d : DataW H} {p : List MemPlace} {base : Nat} {sp : Nat → Bool} {held : Bool} (hsz : cs.size = 2)
    (h : DataW.Trod enc Tryd.prog W base sp held 37 (.agg cs) d p) : ∃ x y cx cy s t, cs = #[.slice x s.size cx, .slice y t.size cy] ∧ IsBytes W (.slice x s.size cx) s ∧ IsBytes W (.slice y t.size cy) t := by
  obtain ⟨fuel, hf⟩ := h
  obtain ⟨xs, m, _, _, _, hl, hel⟩ := DataW.trod_array Tryd.underlying37 hf
  have key : ∀ i, i < 2 → ∃ u t, cs[i]? = some u ∧ IsBytes W u t := fun i hi => by
    have h1 := hel i hi
    rw [cellsSl, Nat.mul_one, List.getElem?_eq_getElem (by omega)] at h1
    obtain ⟨u, t, hu, hut⟩ := slice_cells h1
    refine ⟨u, t, ?_, hut⟩
    have h2 : ((cs.toList.drop i).take 1)[0]? = some u := by
      have : (Value.agg cs).cells.toList = cs.toList := rfl
      rw [this] at hu
      rw [hu]; rfl
    simpa using h2
  obtain ⟨u0, s, h0, hs⟩ := key 0 (by omega)
  obtain ⟨u1, t, h1, ht⟩ := key 1 (by omega)
  obtain ⟨x, cx, rfl, _⟩ := id hs
  obtain ⟨y, cy, rfl, _⟩ := id ht
  refine ⟨x, y, cx, cy, s, t, ?_, hs, ht⟩
  apply Array.ext_getElem?
  intro i
  rcases i with _ | _ | i
  · simpa using h0
  · simpa using h1
  · rw [Array.getElem?_eq_none (by omega)]
    simp
end Go.Proofs.YtgehgcnaoapbbaaDoor
