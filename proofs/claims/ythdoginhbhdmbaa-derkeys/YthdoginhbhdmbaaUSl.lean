/-
  Slices of slices of bytes. Of no layer alone (layer 5 has them in KSum, KHex, KStr, KPieces).
-/
import Derived.Test.YthdoginhbhdmbaaHGen
namespace Go.Proofs.Ythdoginhbhdmbaa
open Go.RowKit Ch
set_option maxRecDepth 100000

/-- A slice of slices of bytes. -/
def IsSl (W : World) (v : Value) (ls : List ByteArray) : Prop := ∃ a cap, v = .slice a ls.length cap ∧ (ls.length = 0 ∨ ∃ b o, a = some ⟨b, o, none⟩ ∧ b < W.heap.size ∧ ∀ i t, ls[i]? = some t → ∃ u, W.cell? ⟨b, o + i, none⟩ = some u ∧ IsBytes W u t)
theorem IsSl.later {W W' : World} {v : Value} {ls : List ByteArray} (h : IsSl W v ls) (hb : Below W.heap.size W W') : IsSl W' v ls := by
  obtain ⟨a, cap, hv, h | ⟨b, o, h1, h2, h3⟩⟩ := h
  · exact ⟨a, cap, hv, .inl h⟩
  · refine ⟨a, cap, hv, .inr ⟨b, o, h1, Nat.lt_of_lt_of_le h2 hb.size, fun i t ht => ?_⟩⟩
    obtain ⟨u, hu, hI⟩ := h3 i t ht
    exact ⟨u, (hb.cell (p := ⟨b, o + i, none⟩) h2).trans hu, hI.later hb⟩
theorem IsSl.one {W : World} {u : Value} {t : ByteArray} (hI : IsBytes W u t) : IsSl (W.alloc (.cells #[u] 24)) (.slice (some ⟨W.heap.size, 0, none⟩) 1 1) [t] := by
  refine ⟨_, 1, rfl, .inr ⟨W.heap.size, 0, rfl, by simp, fun i t' ht => ?_⟩⟩
  rcases i with _ | i
  · simp only [List.getElem?_cons_zero, Option.some.injEq] at ht
    subst ht
    exact ⟨u, block_cell 0 (heap_push_at W _) rfl, hI.alloc _⟩
  · cases ht
theorem IsSl.two {W : World} {u u' : Value} {t t' : ByteArray} (hI : IsBytes W u t) (hI' : IsBytes W u' t') : IsSl (W.alloc (.cells #[u, u'] 24)) (.slice (some ⟨W.heap.size, 0, none⟩) 2 2) [t, t'] := by
  refine ⟨_, 2, rfl, .inr ⟨W.heap.size, 0, rfl, by simp, fun i t0 ht => ?_⟩⟩
  rcases i with _ | _ | i
  · simp only [List.getElem?_cons_zero, Option.some.injEq] at ht
    subst ht
    exact ⟨u, block_cell 0 (heap_push_at W _) rfl, hI.alloc _⟩
  · simp only [List.getElem?_cons_succ, List.getElem?_cons_zero, Option.some.injEq] at ht
    subst ht
    exact ⟨u', block_cell 1 (heap_push_at W _) rfl, hI'.alloc _⟩
  · cases ht
theorem IsSl.three {W : World} {u u' u'' : Value} {t t' t'' : ByteArray} (hI : IsBytes W u t) (hI' : IsBytes W u' t') (hI'' : IsBytes W u'' t'') : IsSl (W.alloc (.cells #[u, u', u''] 24)) (.slice (some ⟨W.heap.size, 0, none⟩) 3 3) [t, t', t''] := by
  have hN := heap_push_at W (.cells #[u, u', u''] 24)
  refine ⟨_, 3, rfl, .inr ⟨W.heap.size, 0, rfl, block_lt hN, fun i z hz => ?_⟩⟩
  rcases i with _ | _ | _ | i
  · simp only [List.getElem?_cons_zero, Option.some.injEq] at hz
    subst hz
    exact ⟨_, block_cell 0 hN rfl, hI.alloc _⟩
  · simp only [List.getElem?_cons_succ, List.getElem?_cons_zero, Option.some.injEq] at hz
    subst hz
    exact ⟨_, block_cell 1 hN rfl, hI'.alloc _⟩
  · simp only [List.getElem?_cons_succ, List.getElem?_cons_zero, Option.some.injEq] at hz
    subst hz
    exact ⟨_, block_cell 2 hN rfl, hI''.alloc _⟩
  · cases hz
end Go.Proofs.Ythdoginhbhdmbaa
