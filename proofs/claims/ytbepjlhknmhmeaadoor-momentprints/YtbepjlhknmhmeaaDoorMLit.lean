/-
  A literal of bytes, as a text.
-/
import Derived.Test.YtbepjlhknmhmeaaDoorMBack
import Derived.Test.YtbepjlhknmhmeaaDoorHGen
namespace Go.Proofs.YtbepjlhknmhmeaaDoor
open Go.RowKit Ch
set_option maxRecDepth 100000

theorem litC (w : World) (s : ByteArray) (C : Array Value) (hC : C.toList = byteVals s) (hn : s.size ≤ maxLen) : IsBytes (w.alloc (.cells C 5)) (.slice (some ⟨w.heap.size, 0, none⟩) s.size s.size) s := by
  refine ⟨some ⟨w.heap.size, 0, none⟩, s.size, rfl, Nat.le_refl _, hn, .inr ⟨_, rfl, .inr ⟨w.heap.size, 0, rfl, by simp, ?_⟩⟩⟩
  intro i hi
  rw [Nat.zero_add] at hi
  have e1 : (byteVals s)[i]? = some (.int .u8 (byte s i : Int)) := by
    unfold byteVals
    rw [List.getElem?_map, list_at s i hi, byte_eq s i hi]
    rfl
  rw [← hC, Array.getElem?_toList] at e1
  rw [Nat.zero_add]
  exact block_cell _ (heap_push_at w _) e1
theorem lit_conv (w : World) (l : List UInt8) (C : Array Value) (hC : C.toList = byteVals ⟨l.toArray⟩) (n : Nat) (hn : l.length = n) (h : n ≤ maxLen) : (convert 43 9 (.slice (some ⟨w.heap.size, 0, none⟩) n n)).run Tryd.prog (w.alloc (.cells C 5)) = .ok (.string ⟨l.toArray⟩) (w.alloc (.cells C 5)) := by
  have hs : (⟨l.toArray⟩ : ByteArray).size = n := by rw [← hn]; exact size_of_list l
  have h1 := (litC w ⟨l.toArray⟩ C hC (by rw [hs]; exact h)).convert
  rw [hs] at h1
  exact h1
end Go.Proofs.YtbepjlhknmhmeaaDoor
