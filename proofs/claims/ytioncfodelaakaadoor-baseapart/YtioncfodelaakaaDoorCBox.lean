/-
  A slice of bytes in a variable that a loop over pieces writes.
-/
import Derived.Test.YtioncfodelaakaaDoorCEnc
import Derived.OneCell
import Derived.Lib.OwnKind
namespace Go.Proofs.YtioncfodelaakaaDoor
open Go.RowKit Go.Shelf Ch

theorem block_own {k : Nat} {c : Array Value} {t : TypeId} {fr : Nat × Nat} {W W' : World} {row : Option Nat} (hk : W.heap[k]? = some (Obj.cells c t fr)) (hg : W.grownBy W' row) (hr : ∀ r, row = some r → ∃ o : Obj, W.heap[r]? = some o ∧ o.isCells = false) : W'.heap[k]? = some (Obj.cells c t fr) := by
  refine (hg.block k (Array.getElem?_eq_some_iff.1 hk).1 (fun e' => ?_)).trans hk
  obtain ⟨o, ho, hc⟩ := hr k e'.symm
  rw [hk] at ho
  obtain rfl := Option.some.inj ho
  cases hc
theorem row_own {base n size : Nat} {e : TypeId} {v : Value} {xs : List Value} {W W' : World} {row : Option Nat} (h : W.ownsRow base e size v n xs) (hg : W.grownBy W' row) (hr : ∀ r, row = some r → ∃ o : Obj, W.heap[r]? = some o ∧ o.isCells = false) : W'.ownsRow base e size v n xs := by
  refine ⟨h.1, ?_⟩
  rcases h.2 with h2 | ⟨g, cap, cur, hv, hg2, hh, r⟩
  · exact .inl h2
  · exact .inr ⟨g, cap, cur, hv, hg2, block_own hh hg hr, r⟩
/-- A slice of bytes in a variable of its own, and the iterator's two behind it. -/
structure BoxB (w : World) (bb n : Nat) (s : ByteArray) (l : List UInt8) (v : Value) (W : World) : Prop where
  box : W.heap[bb]? = some (Obj.cells #[v] 22 (0, 0))
  row : W.ownsRow (bb + 3) 5 1 v l.length (Lib.byteCells l)
  two : HasTwo (bb + 1) n s W
  below : Below w.heap.size w W
  size : bb + 3 ≤ W.heap.size
theorem BoxB.own {w W W' : World} {bb n : Nat} {s : ByteArray} {l : List UInt8} {v : Value} {row : Option Nat} (h : BoxB w bb n s l v W) (hw : w.heap.size ≤ bb) (hg : W.grownBy W' row) (hr : ∀ r, row = some r → bb + 3 ≤ r ∧ ∃ o : Obj, W.heap[r]? = some o ∧ o.isCells = false) : BoxB w bb n s l v W' :=
  ⟨block_own h.box hg (fun r e => (hr r e).2), row_own h.row hg (fun r e => (hr r e).2), hasTwo_own h.two hg (fun r e => (hr r e).2), h.below.grown hg h.below.size (fun r e => by have := (hr r e).1; omega), Nat.le_trans h.size hg.size⟩
theorem BoxB.init (w wr : World) (n : Nat) (s : ByteArray) (hb : Below w.heap.size w wr) : BoxB w wr.heap.size n s [] (.slice none 0 0) (((wr.alloc (.cells #[.slice none 0 0] 22)).alloc (.cells #[.string s] 9)).alloc (.cells #[.int .i64 (n : Int)] 3)) := by
  refine ⟨?_, World.ownsRow_nil _ _ _ _, ?_, ((hb.alloc hb.size _).alloc (by have := hb.size; simp; omega) _).alloc (by have := hb.size; simp; omega) _, by simp⟩
  · rw [heap_push_old _ _ (by simp; omega), heap_push_old _ _ (by simp)]
    exact heap_push_at wr _
  · have := hasTwo_new s n (wr.alloc (.cells #[.slice none 0 0] 22))
    rw [World.size_alloc] at this
    exact this
/-- What an append and a store into the variable leave. -/
theorem BoxB.step {w W W1 W2 : World} {bb n : Nat} {s : ByteArray} {l l' : List UInt8} {v v2 : Value} (h : BoxB w bb n s l v W) (hw : w.heap.size ≤ bb) (h1 : Below W.heap.size W W1) (hg : W1.grownBy W2 v.ownBlock) (ho : W2.ownsRow (bb + 3) 5 1 v2 l'.length (Lib.byteCells l')) :
    BoxB w bb n s l' v2 (W2.setCell ⟨bb, 0, none⟩ v2) ∧ KeepTwo (bb + 1) W (W2.setCell ⟨bb, 0, none⟩ v2) ∧ KeepsFrom (bb + 3) W (W2.setCell ⟨bb, 0, none⟩ v2) ∧ W2.cell? ⟨bb, 0, none⟩ = some v ∧ W2.frozen? ⟨bb, 0, none⟩ = false := by
  have hlow : ∀ r, v.ownBlock = some r → bb + 3 ≤ r := fun r e => (World.ownsRow.lt h.row r e).1
  have hz1 := h1.size
  have hz2 := hg.size
  have keep : ∀ (k : Nat) (o : Obj), k < bb + 3 → W.heap[k]? = some o → W2.heap[k]? = some o := fun k o hk ho => by
    have hlt := (Array.getElem?_eq_some_iff.1 ho).1
    rw [hg.block k (by omega) (fun e => by have := hlow k e.symm; omega), h1.block k hlt]
    exact ho
  have hbox := keep bb _ (by omega) h.box
  have hlt2 : bb < W2.heap.size := (Array.getElem?_eq_some_iff.1 hbox).1
  have other : ∀ k, k ≠ bb → (W2.setCell ⟨bb, 0, none⟩ v2).heap[k]? = W2.heap[k]? := fun k hk => Below.heap_setCell _ _ _ _ hk
  have hsz : (W2.setCell ⟨bb, 0, none⟩ v2).heap.size = W2.heap.size := by simp [World.setCell]
  have ht : HasTwo (bb + 1) n s W2 := ⟨keep _ _ (by omega) h.two.1, keep _ _ (by omega) h.two.2⟩
  have hT : HasTwo (bb + 1) n s (W2.setCell ⟨bb, 0, none⟩ v2) := ⟨(other _ (by omega)).trans ht.1, (other _ (by omega)).trans ht.2⟩
  refine ⟨⟨?_, ?_, hT, ?_, by rw [hsz]; have := h.size; omega⟩, ⟨hT.1.trans h.two.1.symm, hT.2.trans h.two.2.symm⟩, ⟨by rw [hsz]; omega, fun k o hk ho hc => ?_⟩, (cell_of_block hbox).1, (cell_of_block hbox).2⟩
  · exact one_setCell hbox
  · refine ⟨ho.1, ?_⟩
    rcases ho.2 with h2 | ⟨g, cap, cur, hv, hg2, hh, r⟩
    · exact .inl h2
    · exact .inr ⟨g, cap, cur, hv, hg2, (other g (by omega)).trans hh, r⟩
  · exact (h.below.trans (((h1.mono h.below.size)).grown hg (by have := h.below.size; omega) (fun r e => by have := hlow r e; omega))).setCell (p := ⟨bb, 0, none⟩) hw _
  · rw [other k (by omega), hg.block k (by have := (Array.getElem?_eq_some_iff.1 ho).1; omega) (fun e => ?_), h1.block k (Array.getElem?_eq_some_iff.1 ho).1]
    · exact ho
    · obtain ⟨c, fz, hk2⟩ := Lib.ownsRow_kind h.row k e.symm
      rw [hk2] at ho
      obtain rfl := Option.some.inj ho
      cases hc
end Go.Proofs.YtioncfodelaakaaDoor
