/-
  Package hash: a digest under way, in a block of its own.
-/
import Derived.Test.YtpcmpeeflnlkpaaDoorKMix
import Derived.Laws.CopyRow
import Derived.Shelf.Spec.SlicesInsert
namespace Go.Proofs.YtpcmpeeflnlkpaaDoor
open Go.RowKit Ch
set_option maxRecDepth 100000

/-- The cells of a digest under way. -/
def digL (st : S8) (rest : List UInt8) (held size : Nat) : List Value :=
  .int .u32 (st.a : Int) :: .int .u32 (st.b : Int) :: .int .u32 (st.c : Int) :: .int .u32 (st.d : Int) :: .int .u32 (st.e : Int) :: .int .u32 (st.f : Int) :: .int .u32 (st.g : Int) :: .int .u32 (st.h : Int) :: (Lib.byteCells rest ++ [.int .i64 (held : Int), .int .u64 (size : Int)])
def digC (st : S8) (rest : List UInt8) (held size : Nat) : Array Value := (digL st rest held size).toArray
theorem digL_length (st : S8) {rest : List UInt8} (h : rest.length = 64) (held size : Nat) : (digL st rest held size).length = 74 := by
  simp [digL, Lib.byteCells, h]
theorem digC_size (st : S8) {rest : List UInt8} (h : rest.length = 64) (held size : Nat) : (digC st rest held size).size = 74 := by
  unfold digC
  rw [List.size_toArray, digL_length st h]
theorem digC_held (st : S8) {rest : List UInt8} (h : rest.length = 64) (held size : Nat) : (digC st rest held size)[72]? = some (.int .i64 (held : Int)) := by
  unfold digC digL
  rw [List.getElem?_toArray]
  simp only [List.getElem?_cons_succ]
  rw [List.getElem?_append_right (by simp [Lib.byteCells, h])]
  simp [Lib.byteCells, h]
theorem digC_count (st : S8) {rest : List UInt8} (h : rest.length = 64) (held size : Nat) : (digC st rest held size)[73]? = some (.int .u64 (size : Int)) := by
  unfold digC digL
  rw [List.getElem?_toArray]
  simp only [List.getElem?_cons_succ]
  rw [List.getElem?_append_right (by simp [Lib.byteCells, h])]
  simp [Lib.byteCells, h]
theorem digC_rest (st : S8) {rest : List UInt8} (held size : Nat) {j : Nat} {c : UInt8} (hj : rest[j]? = some c) : (digC st rest held size)[8 + j]? = some (.int .u8 (c.toNat : Int)) := by
  unfold digC digL
  rw [List.getElem?_toArray, Nat.add_comm]
  simp only [List.getElem?_cons_succ]
  rw [List.getElem?_append_left (by simp only [Lib.byteCells, List.length_map]; exact (List.getElem?_eq_some_iff.1 hj).1)]
  simp [Lib.byteCells, hj]
theorem digC_setHeld (st : S8) {rest : List UInt8} (h : rest.length = 64) (held size held' : Nat) : (digC st rest held size).setIfInBounds 72 (.int .i64 (held' : Int)) = digC st rest held' size := by
  unfold digC digL
  rw [List.setIfInBounds_toArray]
  simp only [List.set_cons_succ]
  rw [List.set_append_right _ _ (by simp [Lib.byteCells, h])]
  simp [Lib.byteCells, h]
theorem digC_setCount (st : S8) {rest : List UInt8} (h : rest.length = 64) (held size size' : Nat) : (digC st rest held size).setIfInBounds 73 (.int .u64 (size' : Int)) = digC st rest held size' := by
  unfold digC digL
  rw [List.setIfInBounds_toArray]
  simp only [List.set_cons_succ]
  rw [List.set_append_right _ _ (by simp [Lib.byteCells, h])]
  simp [Lib.byteCells, h]
/-- Bytes laid into the rest. -/
theorem digC_splice (st : S8) {rest : List UInt8} (h : rest.length = 64) (held size at_ : Nat) (cs : List UInt8) (hc : at_ + cs.length ≤ 64) :
    ((digC st rest held size).toList.take (8 + at_) ++ Lib.byteCells cs ++ (digC st rest held size).toList.drop (8 + at_ + (Lib.byteCells cs).length)).toArray = digC st (rest.take at_ ++ cs ++ rest.drop (at_ + cs.length)) held size := by
  unfold digC
  congr 1
  have hl : (Lib.byteCells cs).length = cs.length := by simp [Lib.byteCells]
  rw [List.toList_toArray, hl]
  unfold digL
  rw [show 8 + at_ = at_ + 1 + 1 + 1 + 1 + 1 + 1 + 1 + 1 by omega, show at_ + 1 + 1 + 1 + 1 + 1 + 1 + 1 + 1 + cs.length = at_ + cs.length + 1 + 1 + 1 + 1 + 1 + 1 + 1 + 1 by omega]
  simp only [List.take_succ_cons, List.drop_succ_cons, List.cons_append]
  have hb : (Lib.byteCells rest).length = 64 := by simp [Lib.byteCells, h]
  rw [List.take_append_of_le_length (by omega), List.drop_append_of_le_length (by omega)]
  simp only [Lib.byteCells, List.map_append, List.map_take, List.map_drop, List.append_assoc]
/-- What a call leaves: all blocks but the digest's own. -/
structure KeptD (db : Nat) (W W' : World) : Prop where
  os : W'.os = W.os
  tape : W'.tape = W.tape
  output : W'.output = W.output
  size : W.heap.size ≤ W'.heap.size
  block : ∀ k, k < W.heap.size → k ≠ db → W'.heap[k]? = W.heap[k]?
theorem KeptD.refl (db : Nat) (W : World) : KeptD db W W := ⟨rfl, rfl, rfl, Nat.le_refl _, fun _ _ _ => rfl⟩
theorem KeptD.trans {db : Nat} {a b c : World} (h : KeptD db a b) (k : KeptD db b c) : KeptD db a c :=
  ⟨k.os.trans h.os, k.tape.trans h.tape, k.output.trans h.output, Nat.le_trans h.size k.size, fun j hj hn => (k.block j (Nat.lt_of_lt_of_le hj h.size) hn).trans (h.block j hj hn)⟩
theorem KeptD.of {db : Nat} {a b : World} (h : Below a.heap.size a b) : KeptD db a b := ⟨h.os, h.tape, h.output, h.size, fun k hk _ => h.block k hk⟩
theorem KeptD.drew {db : Nat} {a b : World} (h : KeptD db a b) : KeptD db a b.drew := h.trans (.of (Below.refl _ _).drew)
theorem KeptD.setCell {db : Nat} {a b : World} (h : KeptD db a b) (i : Nat) (u : Value) : KeptD db a (b.setCell ⟨db, i, none⟩ u) :=
  h.trans ⟨rfl, rfl, rfl, by rw [setCell_size]; exact Nat.le_refl _, fun k _ hn => Below.heap_setCell _ ⟨db, i, none⟩ _ _ hn⟩
theorem KeptD.setRow {db : Nat} {a b : World} (h : KeptD db a b) (C : Array Value) : KeptD db a (b.setRow db C) :=
  h.trans ⟨rfl, rfl, rfl, by rw [setRow_size]; exact Nat.le_refl _, fun k _ hn => setRow_other hn⟩
theorem KeptD.below {db n : Nat} {a b : World} (h : KeptD db a b) (hn : n ≤ db) (hs : n ≤ a.heap.size) : Below n a b :=
  ⟨h.os, h.tape, h.output, h.size, fun k hk => h.block k (by omega) (by omega)⟩
/-- Bytes that don't lie in a block. -/
def Off (db : Nat) (v : Value) : Prop := ∀ x n c, v = .slice (some x) n c → n ≠ 0 → x.block ≠ db
theorem IsBytes.keepD {db : Nat} {W W' : World} {v : Value} {s : ByteArray} (h : IsBytes W v s) (ho : Off db v) (hk : KeptD db W W') : IsBytes W' v s := by
  obtain ⟨a, cap, hv, hc, hm, h | ⟨x, ha, h⟩⟩ := h
  · exact ⟨a, cap, hv, hc, hm, .inl h⟩
  · refine ⟨a, cap, hv, hc, hm, .inr ⟨x, ha, ?_⟩⟩
    rcases h with h | ⟨b, o, hx, hb, hf⟩
    · exact .inl h
    · by_cases h0 : s.size = 0
      · exact .inl h0
      · have hne : b ≠ db := by
          have := ho x s.size cap (by rw [hv, ha]) h0
          rw [hx] at this
          exact this
        refine .inr ⟨b, o, hx, Nat.lt_of_lt_of_le hb hk.size, fun i hi => ?_⟩
        rw [← hf i hi]
        exact World.cell?_of_block (w := W) (a := ⟨b, o + i, none⟩) (hk.block b hb hne)
theorem KTab.keepD {db : Nat} {W W' : World} (h : KTab W) (hd : db ≠ 3) (hk : KeptD db W W') : KTab W' := by
  have hl := h.lt
  obtain ⟨C, t, fr, h1, h2⟩ := h
  exact ⟨C, t, fr, (hk.block _ hl (fun e => hd e.symm)).trans h1, h2⟩
/-- The digest of m so far, and of sz bytes in all, lies in block db. -/
def Dg (db : Nat) (m : List UInt8) (sz : Nat) (W : World) : Prop := ∃ rest : List UInt8, rest.length = 64 ∧ rest.take (m.length % 64) = m.drop (64 * (m.length / 64)) ∧ W.heap[db]? = some (.cells (digC (blocksS m (m.length / 64)) rest (m.length % 64) sz) 91 (0, 0))
/-- A block of its own, at once. -/
theorem blocks_more {m t : List UInt8} (hm : m.length % 64 = 0) (ht : t.length = 64) : blocksS (m ++ t) ((m ++ t).length / 64) = mixS (blocksS m (m.length / 64)) t := by
  have e : (m ++ t).length / 64 = m.length / 64 + 1 := by rw [List.length_append]; omega
  rw [e, blocksS, blocksS_append _ _ _ (by omega)]
  congr 1
  rw [show 64 * (m.length / 64) = m.length by omega, List.drop_left, List.take_of_length_le (by omega)]
/-- Bytes that don't fill a block. -/
theorem blocks_same {m t : List UInt8} (ht : m.length % 64 + t.length < 64) : blocksS (m ++ t) ((m ++ t).length / 64) = blocksS m (m.length / 64) := by
  have e : (m ++ t).length / 64 = m.length / 64 := by rw [List.length_append]; omega
  rw [e, blocksS_append _ _ _ (by omega)]
/-- Bytes that fill a block. -/
theorem blocks_full {m t : List UInt8} (ht : m.length % 64 + t.length = 64) : blocksS (m ++ t) ((m ++ t).length / 64) = mixS (blocksS m (m.length / 64)) (m.drop (64 * (m.length / 64)) ++ t) := by
  have e : (m ++ t).length / 64 = m.length / 64 + 1 := by rw [List.length_append]; omega
  rw [e, blocksS, blocksS_append _ _ _ (by omega)]
  congr 1
  rw [List.drop_append_of_le_length (by omega), List.take_of_length_le (by rw [List.length_append, List.length_drop]; omega)]
theorem Dg_more {db sz : Nat} {m t rest : List UInt8} {W : World} (hm : m.length % 64 = 0) (ht : t.length = 64) (r1 : rest.length = 64) (h : W.heap[db]? = some (.cells (digC (mixS (blocksS m (m.length / 64)) t) rest 0 sz) 91 (0, 0))) : Dg db (m ++ t) sz W := by
  have e : (m ++ t).length % 64 = 0 := by rw [List.length_append]; omega
  refine ⟨rest, r1, ?_, ?_⟩
  · rw [e, List.take_zero, List.drop_of_length_le (by omega)]
  · rw [e, blocks_more hm ht]
    exact h
theorem Dg_part {db sz : Nat} {m t rest : List UInt8} {W : World} (ht : m.length % 64 + t.length < 64) (r1 : rest.length = 64) (r2 : rest.take (m.length % 64) = m.drop (64 * (m.length / 64))) (h : W.heap[db]? = some (.cells (digC (blocksS m (m.length / 64)) (rest.take (m.length % 64) ++ t ++ rest.drop (m.length % 64 + t.length)) (m.length % 64 + t.length) sz) 91 (0, 0))) : Dg db (m ++ t) sz W := by
  have e : (m ++ t).length % 64 = m.length % 64 + t.length := by rw [List.length_append]; omega
  have e2 : (m ++ t).length / 64 = m.length / 64 := by rw [List.length_append]; omega
  refine ⟨rest.take (m.length % 64) ++ t ++ rest.drop (m.length % 64 + t.length), ?_, ?_, ?_⟩
  · simp only [List.length_append, List.length_take, List.length_drop]
    omega
  · rw [e, e2, List.take_append_of_le_length (by simp only [List.length_append, List.length_take]; omega), List.take_of_length_le (by simp only [List.length_append, List.length_take]; omega), r2, List.drop_append_of_le_length (by omega)]
  · rw [e, blocks_same ht]
    exact h
theorem Dg_fill {db sz : Nat} {m t rest : List UInt8} {W : World} (ht : m.length % 64 + t.length = 64) (r2 : rest.take (m.length % 64) = m.drop (64 * (m.length / 64))) {rest' : List UInt8} (r1 : rest'.length = 64) (h : W.heap[db]? = some (.cells (digC (mixS (blocksS m (m.length / 64)) (rest.take (m.length % 64) ++ t)) rest' 0 sz) 91 (0, 0))) : Dg db (m ++ t) sz W := by
  have e : (m ++ t).length % 64 = 0 := by rw [List.length_append]; omega
  refine ⟨rest', r1, ?_, ?_⟩
  · rw [e, List.take_zero, List.drop_of_length_le (by omega)]
  · rw [e, blocks_full ht, ← r2]
    exact h
end Go.Proofs.YtpcmpeeflnlkpaaDoor
