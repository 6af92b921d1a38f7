/-
  The document's examples of layer 4.
-/
import Derived.Test.YtbhnlomppobbkaaHW7
import Derived.Lib.SlBytesConst
namespace Go.Proofs.Ytbhnlomppobbkaa
open Go.RowKit Ch
set_option maxRecDepth 100000

theorem block_cellF {W : World} {b i : Nat} {c : Array Value} {t : TypeId} {fr : Nat × Nat} {v : Value} (h : W.heap[b]? = some (Obj.cells c t fr)) (hi : c[i]? = some v) : W.cell? ⟨b, i, none⟩ = some v := by simp [World.cell?, h, hi]
theorem lit_bytes (w : World) (s : ByteArray) (C : Array Value) (fr : Nat × Nat) (hC : C.toList = byteVals s) (hn : s.size ≤ maxLen) : IsBytes (w.alloc (.cells C 5 fr)) (.slice (some ⟨w.heap.size, 0, none⟩) s.size s.size) s := by
  refine ⟨some ⟨w.heap.size, 0, none⟩, s.size, rfl, Nat.le_refl _, hn, .inr ⟨_, rfl, .inr ⟨w.heap.size, 0, rfl, by simp, ?_⟩⟩⟩
  intro i hi
  rw [Nat.zero_add] at hi
  have e1 : (byteVals s)[i]? = some (.int .u8 (byte s i : Int)) := by
    unfold byteVals
    rw [List.getElem?_map, list_at s i hi, byte_eq s i hi]
    rfl
  rw [← hC, Array.getElem?_toList] at e1
  rw [Nat.zero_add]
  exact block_cellF (heap_push_at w _) e1
theorem defl_none : deflL ByteArray.empty = [3, 0] := by
  unfold deflL deflBits
  rw [deflB_unfold, if_neg (by decide)]
  decide
theorem defl_a5 : deflL ⟨#[97, 97, 97, 97, 97]⟩ = [75, 4, 1, 0] := by
  unfold deflL deflBits
  rw [deflB_unfold, if_pos (by decide), if_pos (by decide), deflB_unfold, if_pos (by decide), if_neg (by decide), deflB_unfold, if_neg (by decide)]
  decide
theorem stored_a : storedL [97] = [1, 1, 0, 254, 255, 97] := by
  rw [storedL_last (by decide)]
  decide
set_option maxHeartbeats 2000000 in
theorem flAwake_any (w : World) : Calls Try.prog 9 #[] w fun e w' => e = .returned (.bool true) ∧ Below w.heap.size w w' := by
  have D0 := fun w => hDeflate_any none 0 ByteArray.empty w (by decide) ⟨none, 0, rfl, Nat.le_refl _, by unfold maxLen; omega, .inl ⟨rfl, rfl, rfl⟩⟩
  rw [defl_none] at D0
  have D5 := fun w => hDeflate_any (some ⟨w.heap.size, 0, none⟩) 5 ⟨#[97, 97, 97, 97, 97]⟩ (w.alloc (.cells #[.int .u8 97, .int .u8 97, .int .u8 97, .int .u8 97, .int .u8 97] 5 (5, 6))) (by decide) (lit_bytes w ⟨#[97, 97, 97, 97, 97]⟩ _ _ rfl (by decide))
  rw [defl_a5] at D5
  have S1 := fun w => hStored_any (some ⟨w.heap.size, 0, none⟩) 1 ⟨#[97]⟩ (w.alloc (.cells #[.int .u8 97] 5 (1, 2))) (by decide) (lit_bytes w ⟨#[97]⟩ _ _ rfl (by decide))
  rw [show (⟨#[97]⟩ : ByteArray).data.toList = [97] from rfl, stored_a] at S1
  have kc := fun (w : World) (C : Array Value) (n c : Nat) => Lib.run_convert_bytes_const (P := Try.prog) w 22 5 C n c Try.underlying22 Try.underlying5
  go_enter Try.func9, Try.ntmps9
  go_wp2_with fail
  refine (D0 w).mono ?_
  rintro e w1 ⟨⟨v1, rfl, ho1⟩, hb1⟩
  go_wp2_with fail
  refine (D5 w1).mono ?_
  rintro e w2 ⟨⟨v2, rfl, ho2⟩, hb2⟩
  have hb2' := below_alloc hb2
  go_wp2_with fail
  refine (S1 w2).mono ?_
  rintro e w3 ⟨⟨v3, rfl, ho3⟩, hb3⟩
  have hb3' := below_alloc hb3
  have c3 := own_convert ho3
  have c2 := own_convert (ownsRow_later ho2 hb3')
  have c1 := own_convert (ownsRow_later (ownsRow_later ho1 hb2') hb3')
  clear ho1 ho2 ho3 D0 D5 S1
  go_wp2_with fail
  go_ret
  have s1 := hb1.size
  have s2 := hb2'.size
  exact ⟨rfl, hb1.trans ((hb2'.trans (hb3'.mono s2)).mono s1)⟩
end Go.Proofs.Ytbhnlomppobbkaa
