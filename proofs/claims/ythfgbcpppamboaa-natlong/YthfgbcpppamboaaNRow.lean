/-
  A block that begins with words, written in place. Of no layer alone.
-/
import Derived.Test.YthfgbcpppamboaaNPl
import Derived.Test.YthfgbcpppamboaaHFreeZ
namespace Go.Proofs.Ythfgbcpppamboaa
open Go.RowKit Ch
set_option maxRecDepth 100000

def RowN (k : IntKind) (w : World) (g : Nat) (L : List Nat) : Prop := ∃ xs t, w.heap[g]? = some (.cells (kc k L ++ xs).toArray t (0, 0))
theorem RowN.lt {k : IntKind} {w : World} {g : Nat} {L : List Nat} (h : RowN k w g L) : g < w.heap.size := by
  obtain ⟨xs, t, h⟩ := h
  exact block_lt h
theorem kc_in {k : IntKind} {L : List Nat} {xs : List Value} {i n : Nat} (hn : L[i]? = some n) : (kc k L ++ xs).toArray[i]? = some (.int k (n : Int)) := by
  have := (List.getElem?_eq_some_iff.1 hn).1
  rw [List.getElem?_toArray, List.getElem?_append_left (by rw [kc_length]; exact this)]
  exact kc_at hn
theorem RowN.cell {k : IntKind} {w : World} {g : Nat} {L : List Nat} (h : RowN k w g L) {i n : Nat} (hn : L[i]? = some n) : w.cell? ⟨g, i, none⟩ = some (.int k (n : Int)) := by
  obtain ⟨xs, t, h⟩ := h
  exact block_cell i h (kc_in hn)
theorem RowN.free {k : IntKind} {w : World} {g : Nat} {L : List Nat} (h : RowN k w g L) (i : Nat) : w.frozen? ⟨g, i, none⟩ = false := by
  obtain ⟨xs, t, h⟩ := h
  exact block_free i h
theorem RowN.set {k : IntKind} {w : World} {g : Nat} {L : List Nat} (h : RowN k w g L) {i n : Nat} (hn : L[i]? = some n) (m : Nat) : RowN k (w.setCell ⟨g, i, none⟩ (.int k (m : Int))) g (L.set i m) := by
  obtain ⟨xs, t, h⟩ := h
  refine ⟨xs, t, ?_⟩
  rw [setCell_block h]
  congr 2
  apply Array.ext'
  have hi := (List.getElem?_eq_some_iff.1 hn).1
  rw [Array.toList_setIfInBounds, List.toList_toArray, List.toList_toArray, List.set_append_left _ _ (by rw [kc_length]; exact hi), kc_set]
theorem RowN.grown {k : IntKind} {w w' : World} {g : Nat} {L : List Nat} {row : Option Nat} (h : RowN k w g L) (hg : w.grownBy w' row) (hne : row ≠ some g) : RowN k w' g L := by
  obtain ⟨xs, t, h⟩ := h
  exact ⟨xs, t, block_grown h hg hne⟩
theorem RowN.later {k : IntKind} {w w' : World} {g : Nat} {L : List Nat} (h : RowN k w g L) (hb : Below w.heap.size w w') : RowN k w' g L := by
  obtain ⟨xs, t, h⟩ := h
  exact ⟨xs, t, (hb.block g (block_lt h)).trans h⟩
theorem RowN.keep {k : IntKind} {w w' : World} {g B : Nat} {L : List Nat} (h : RowN k w g L) (hb : Below B w w') (hB : g < B) : RowN k w' g L := by
  obtain ⟨xs, t, h⟩ := h
  exact ⟨xs, t, (hb.block g hB).trans h⟩
theorem RowN.isN {k : IntKind} {w : World} {g o n c : Nat} {L : List Nat} (h : RowN k w g L) (ho : o + n ≤ L.length) (hc : n ≤ c) (hm : c ≤ 1000000000) : IsN k w (.slice (some ⟨g, o, none⟩) n c) ((L.drop o).take n) := by
  have hl : ((L.drop o).take n).length = n := by rw [List.length_take, List.length_drop]; omega
  refine ⟨some ⟨g, o, none⟩, c, by rw [hl], by rw [hl]; exact hc, by unfold maxLen; omega, .inr ⟨_, rfl, .inr ⟨g, o, rfl, h.lt, fun i m hi => ?_⟩⟩⟩
  rw [pv_at] at hi
  split at hi
  · exact h.cell hi
  · cases hi
theorem RowN.own {k : IntKind} {w : World} {base g n c : Nat} {e : TypeId} {L : List Nat} (h : w.ownsRow base e 1 (.slice (some ⟨g, 0, none⟩) n c) L.length (kc k L)) : RowN k w g L ∧ base ≤ g := by
  rcases h.2 with ⟨hv, _⟩ | ⟨g', cap, cur, hv, hb, hh, _, _, _, hcur⟩
  · cases hv
  · simp only [Value.slice.injEq, Option.some.injEq, Addr.mk.injEq, and_true] at hv
    obtain ⟨rfl, _, _⟩ := hv
    refine ⟨⟨cur.toList.drop (L.length * 1), e, ?_⟩, hb⟩
    rw [hh]
    congr 2
    apply Array.ext'
    rw [List.toList_toArray, ← hcur, List.take_append_drop]
theorem grown_cell (w : World) (p : Addr) (u : Value) : w.grownBy (w.setCell p u) (some p.block) :=
  ⟨rfl, rfl, rfl, by rw [setCell_size]; exact Nat.le_refl _, fun k _ hn => Below.heap_setCell _ _ _ _ (fun e => hn (by rw [e]))⟩
/-- A slice elsewhere is as it was. -/
theorem IsN.grown {k : IntKind} {w w' : World} {b o n c g : Nat} {L : List Nat} (h : IsN k w (.slice (some ⟨b, o, none⟩) n c) L) (hg : w.grownBy w' (some g)) (hne : b ≠ g) : IsN k w' (.slice (some ⟨b, o, none⟩) n c) L := by
  obtain ⟨a, cap, hv, hc, hm, hr⟩ := h
  refine ⟨a, cap, hv, hc, hm, ?_⟩
  simp only [Value.slice.injEq] at hv
  obtain ⟨rfl, _, _⟩ := hv
  rcases hr with ⟨h1, _⟩ | ⟨x, h1, h2⟩
  · cases h1
  · obtain rfl := Option.some.inj h1
    refine .inr ⟨_, rfl, ?_⟩
    rcases h2 with h2 | ⟨b', o', h2, h3, h4⟩
    · exact .inl h2
    · refine .inr ⟨b', o', h2, Nat.lt_of_lt_of_le h3 hg.size, fun i m hi => ?_⟩
      simp only [Addr.mk.injEq, and_true] at h2
      obtain ⟨rfl, rfl⟩ := h2
      exact hg.cell (h4 i m hi) (by intro h; exact hne (Option.some.inj h))
end Go.Proofs.Ythfgbcpppamboaa
