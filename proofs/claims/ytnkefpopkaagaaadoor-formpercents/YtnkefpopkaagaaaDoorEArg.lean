/-
  A []api.Pair that came in, told by the pairs.
-/
import Derived.Test.YtnkefpopkaagaaaDoorEGet
namespace Go.Proofs.YtnkefpopkaagaaaDoor
open Go.ChangeShapes Go.WideShapes Go.ChangeAt Go.RowKit Ch
set_option maxRecDepth 100000

theorem cellsPair : Tryd.prog.cellsOf 40 = 2 := by kernel_rfl
theorem cellsStr : Tryd.prog.cellsOf 9 = 1 := by kernel_rfl
theorem pair_cells {H : Type} {enc : TypeId × Value → H} {W : World} {base : Nat} {sp : Nat → Bool} {held : Bool} {n : Nat} {cs : List Value} {x : DataW H × List MemPlace}
    (h : DataW.trod enc Tryd.prog W base sp held n 40 cs = some x) : ∃ s t : ByteArray, cs = [.string s, .string t] ∧ s.size ≤ maxLen ∧ t.size ≤ maxLen := by
  obtain ⟨y0, y1, m, _, hl, h0, h1⟩ := trod_struct2 Tryd.underlying40 h
  simp only at h0 h1
  rw [cellsStr] at h0 h1
  obtain ⟨s, hs, _, ls⟩ := DataW.trod_string Tryd.underlying9 h0
  obtain ⟨t, ht, _, lt⟩ := DataW.trod_string Tryd.underlying9 h1
  rw [cellsPair] at hl
  match cs, hl with
  | [c0, c1], _ =>
    simp at hs ht
    exact ⟨s, t, by rw [hs, ht], ls, lt⟩
theorem list_of {α : Type} {P : Nat → α → Prop} : ∀ n : Nat, (∀ i, i < n → ∃ x, P i x) → ∃ l : List α, l.length = n ∧ ∀ i x, l[i]? = some x → P i x
  | 0, _ => ⟨[], rfl, fun i x h => by simp at h⟩
  | n + 1, h => by
    obtain ⟨l, hl, hp⟩ := list_of n (fun i hi => h i (by omega))
    obtain ⟨x, hx⟩ := h n (by omega)
    refine ⟨l ++ [x], by simp [hl], fun i y hy => ?_⟩
    rcases Nat.lt_or_ge i l.length with h' | h'
    · rw [List.getElem?_append_left h'] at hy
      exact hp i y hy
    · rw [List.getElem?_append_right h'] at hy
      have : i - l.length = 0 := by
        rcases Nat.eq_zero_or_pos (i - l.length) with h2 | h2
        · exact h2
        · rw [List.getElem?_eq_none (by simp; omega)] at hy; cases hy
      rw [this] at hy
      simp at hy
      obtain rfl : i = n := by omega
      rw [← hy]
      exact hx
theorem pairs_arg {H : Type} {enc : TypeId × Value → H} {W : World} {a : Option Addr} {len cap : Nat} {d : DataW H} {p : List MemPlace} {base : Nat} {sp : Nat → Bool} {held : Bool}
    (h : DataW.Trod enc Tryd.prog W base sp held 30 (.slice a len cap) d p) : ∃ l : List (ByteArray × ByteArray), l.length = len ∧ (∀ p ∈ l, p.1.size ≤ 9223372036854775807 ∧ p.2.size ≤ 9223372036854775807) ∧ IsPairs W (.slice a len cap) l := by
  obtain ⟨fuel, hf⟩ := h
  rcases DataW.trod_slice Tryd.underlying30 hf with ⟨hcs, _⟩ | ⟨x, ln, cp, elems, rest, n, _, hcs, _, hb, hl, hm, hlen, hel, _, _⟩
  · simp [Value.cells] at hcs
    obtain ⟨rfl, rfl, rfl⟩ := hcs
    exact ⟨[], rfl, (fun p hp => by cases hp), none, 0, rfl, Nat.le_refl _, by unfold maxLen; omega, .inl ⟨rfl, rfl, rfl⟩⟩
  · simp [Value.cells] at hcs
    obtain ⟨rfl, rfl, rfl⟩ := hcs
    rw [cellsPair] at hel
    have key : ∀ i, i < len → ∃ q : ByteArray × ByteArray, (W.cell? (x.add (i * 2)) = some (.string q.1) ∧ W.cell? ((x.add (i * 2)).add 1) = some (.string q.2)) ∧ q.1.size ≤ maxLen ∧ q.2.size ≤ maxLen := fun i hi => by
      have h1 := hel i hi
      rw [List.getElem?_eq_getElem (by omega)] at h1
      obtain ⟨cs, h2, h3⟩ := Option.bind_eq_some_iff.1 h1
      obtain ⟨s, t, rfl, ls, lt⟩ := pair_cells h3
      obtain ⟨_, _, h4⟩ := World.cells?_some h2
      have h5 := h4 0 (by omega)
      have h6 := h4 1 (by omega)
      have e0 : (x.add (i * 2)).add 0 = x.add (i * 2) := by unfold Addr.add; split <;> simp_all
      rw [e0] at h5
      exact ⟨(s, t), ⟨h5, h6⟩, ls, lt⟩
    obtain ⟨l, hll, hlp⟩ := list_of len key
    refine ⟨l, hll, (fun p hp => ?_), some x, cap, by rw [hll], by rw [hll]; exact hl, hm, .inr ⟨x, rfl, ?_⟩⟩
    · obtain ⟨i, hi, rfl⟩ := List.getElem_of_mem hp
      have := (hlp i _ (List.getElem?_eq_getElem hi)).2
      unfold maxLen at this
      omega
    by_cases h0 : len = 0
    · exact .inl (List.eq_nil_of_length_eq_zero (by rw [hll, h0]))
    · obtain ⟨q0, ⟨k0, _⟩, _⟩ := key 0 (by omega)
      have hspot : x.spot = none := by
        have := World.cell?_spot k0
        simpa [Addr.add] using this
      obtain ⟨b, off, spot⟩ := x
      simp only at hspot
      subst hspot
      have e1 : ∀ j, (⟨b, off, none⟩ : Addr).add j = ⟨b, off + j, none⟩ := fun j => by unfold Addr.add; split <;> simp_all
      have e2 : ∀ j, ((⟨b, off, none⟩ : Addr).add j).add 1 = ⟨b, off + j + 1, none⟩ := fun j => by rw [e1]; unfold Addr.add; split <;> simp_all
      refine .inr ⟨b, off, rfl, ?_, fun i q hq => ?_⟩
      · rw [e1] at k0
        exact cell_lt k0
      · have := (hlp i q hq).1
        rw [e2, e1] at this
        exact this
end Go.Proofs.YtnkefpopkaagaaaDoor
