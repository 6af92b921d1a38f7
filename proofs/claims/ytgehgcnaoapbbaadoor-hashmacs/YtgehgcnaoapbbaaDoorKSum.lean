/-
  Package hash: Sum.
-/
import Derived.Test.YtgehgcnaoapbbaaDoorKEnd
namespace Go.Proofs.YtgehgcnaoapbbaaDoor
open Go.RowKit Ch
set_option maxRecDepth 100000

/-- A slice of slices of bytes. -/
def IsSl (W : World) (v : Value) (ls : List ByteArray) : Prop := ∃ a cap, v = .slice a ls.length cap ∧ (ls.length = 0 ∨ ∃ b o, a = some ⟨b, o, none⟩ ∧ b < W.heap.size ∧ ∀ i t, ls[i]? = some t → ∃ u, W.cell? ⟨b, o + i, none⟩ = some u ∧ IsBytes W u t)
theorem off_of {W : World} {u : Value} {t : ByteArray} {db : Nat} (h : IsBytes W u t) (hd : W.heap.size ≤ db) : Off db u := by
  intro x n c hv hn
  obtain ⟨a, cap, hu, hc, hm, ⟨h1, h2, h3⟩ | ⟨y, h1, h2 | ⟨b, o, h2, h3, _⟩⟩⟩ := h
  · rw [hu, h1] at hv
    cases hv
  · rw [hu, h1] at hv
    simp only [Value.slice.injEq] at hv
    omega
  · rw [hu, h1, h2] at hv
    simp only [Value.slice.injEq, Option.some.injEq] at hv
    rw [← hv.1]
    show b ≠ db
    omega
theorem IsSl.later {W W' : World} {v : Value} {ls : List ByteArray} (h : IsSl W v ls) (hb : Below W.heap.size W W') : IsSl W' v ls := by
  obtain ⟨a, cap, hv, h | ⟨b, o, h1, h2, h3⟩⟩ := h
  · exact ⟨a, cap, hv, .inl h⟩
  · refine ⟨a, cap, hv, .inr ⟨b, o, h1, Nat.lt_of_lt_of_le h2 hb.size, fun i t ht => ?_⟩⟩
    obtain ⟨u, hu, hI⟩ := h3 i t ht
    exact ⟨u, (hb.cell (p := ⟨b, o + i, none⟩) h2).trans hu, hI.later hb⟩
theorem IsSl.slices {W W' : World} {v : Value} {ls : List ByteArray} {db : Nat} (h : IsSl W v ls) (hb : Below W.heap.size W W') (hd : W.heap.size ≤ db) : IsSlices db W' v ls := by
  obtain ⟨a, cap, hv, h | ⟨b, o, h1, h2, h3⟩⟩ := h
  · exact ⟨a, cap, hv, .inl h⟩
  · refine ⟨a, cap, hv, .inr ⟨b, o, h1, by omega, Nat.lt_of_lt_of_le h2 hb.size, fun i t ht => ?_⟩⟩
    obtain ⟨u, hu, hI⟩ := h3 i t ht
    exact ⟨u, (hb.cell (p := ⟨b, o + i, none⟩) h2).trans hu, hI.later hb, off_of hI hd⟩
theorem Dg_begin {db : Nat} {W : World} (h : W.heap[db]? = some (.cells (digC beginS (List.replicate 64 0) 0 0) 51 (0, 0))) : Dg db [] 0 W := ⟨List.replicate 64 0, by simp, by simp, h⟩
theorem sha_cells (l : List UInt8) : (Lib.byteCells l).toArray.all (·.oneCell') = true := by
  refine Array.all_eq_true_iff_forall_mem.2 (fun v hv => ?_)
  have hv' : v ∈ Lib.byteCells l := by simpa using hv
  obtain ⟨z, _, rfl⟩ := List.mem_map.1 hv'
  rfl
theorem bytes_in {W : World} {B : Nat} {ty : TypeId} {l : List UInt8} (h : W.heap[B]? = some (.cells (Lib.byteCells l).toArray ty (0, 0))) {n : Nat} (hn : l.length = n) (hm : n ≤ 1000000) : IsBytes W (.slice (some ⟨B, 0, none⟩) n n) ⟨l.toArray⟩ := by
  refine bytes_of (k := 0) h (by rw [size_of_list]; exact hn) (fun j hj => ?_) (Nat.le_refl _) (by unfold maxLen; omega) rfl
  rw [List.getElem?_toArray, byte_list, List.toList_toArray]
  unfold Lib.byteCells
  rw [List.getElem?_map, List.getElem?_eq_getElem (by omega)]
  rfl
set_option maxHeartbeats 4000000 in
theorem kSum_any (v : Value) (ls : List ByteArray) (w : World) (hI : IsSl w v ls) (hK : KTab w) (hl : (flatB ls).length ≤ 900000) (hn : ls.length ≤ 1000000) :
    Calls Tryd.prog 10 #[v] w fun e w' => (∃ B, e = .returned (.slice (some ⟨B, 0, none⟩) 32 32) ∧ w.heap.size ≤ B ∧ IsBytes w' (.slice (some ⟨B, 0, none⟩) 32 32) ⟨(shaL (flatB ls)).toArray⟩) ∧ Below w.heap.size w w' := by
  obtain ⟨hz, hi⟩ := zero_of_info infoDig
  have hBg := kBegin_any w
  have hi74 : (Tryd.prog.info? 51).map (·.size) = some (digC beginS (List.replicate 64 0) 0 0).size := hi
  have hone : (digC beginS (List.replicate 64 0) 0 0).all (·.oneCell') = true := by kernel_rfl
  have hzd : zeroDig.size = (digC beginS (List.replicate 64 0) 0 0).size := rfl
  have hDgb := fun (db : Nat) (W : World) => Dg_begin (db := db) (W := W)
  generalize digC beginS (List.replicate 64 0) 0 0 = DB at *
  go_enter Tryd.func10, Tryd.ntmps10
  go_wp2_with fail
  refine hBg.mono ?_
  rintro e w1 ⟨rfl, hb1⟩
  have hN1 := heap_push_at w1 (.cells zeroDig 51)
  have hb2 : Below w1.heap.size w1 (w1.alloc (.cells zeroDig 51)) := (Below.refl _ w1).alloc (Nat.le_refl _) _
  have hD2 : Dg w1.heap.size [] 0 ((w1.alloc (.cells zeroDig 51)).setRow w1.heap.size DB) := hDgb _ _ (setRow_block hN1)
  have hb3 : Below w1.heap.size w1 ((w1.alloc (.cells zeroDig 51)).setRow w1.heap.size DB) := below_setRow hb2 (Nat.le_refl _) _
  have hs1 := hb1.size
  have hbw3 := hb1.trans (hb3.mono hs1)
  go_wp2_with (refine wpList_store_row rfl 51 _ _ rfl w1.heap.size DB rfl (by simp [Act.eval]) _ _ hN1 hi74 hzd hone ?_)
  generalize (w1.alloc (.cells zeroDig 51)).setRow w1.heap.size DB = W3 at *
  obtain ⟨db, hdb⟩ : ∃ db, w1.heap.size = db := ⟨_, rfl⟩
  rw [hdb] at hD2 hs1 ⊢
  have hK3 := hK.later hbw3
  have hne : db ≠ 0 := by have := hK.lt; omega
  have hAdd := kAdd_any db v ls [] W3 hD2 (hI.slices hbw3 hs1) hK3 hne (by simp; omega) hn
  rw [List.nil_append] at hAdd
  refine hAdd.mono ?_
  rintro e w4 ⟨rfl, hD4, hk4⟩
  have hK4 := hK3.keepD hne hk4
  have hb4 : Below w.heap.size w w4 := hbw3.trans (hk4.below hs1 hbw3.size)
  have hEnd := kEnd_any db (flatB ls) w4 hD4 hK4 hne hl
  clear hAdd hD2 hD4
  go_wp2_with fail
  refine hEnd.mono ?_
  rintro e w5 ⟨rfl, hk5⟩
  have hb5 : Below w.heap.size w w5 := hb4.trans (hk5.below hs1 hb4.size)
  have hs5 := hb5.size
  have hSl := shaL_length (flatB ls)
  obtain ⟨SH, hSH⟩ : ∃ SH, shaL (flatB ls) = SH := ⟨_, rfl⟩
  have HSH := show Hid (shaL (flatB ls) = SH) from hSH
  rw [hSH] at hSl ⊢
  clear hSH hEnd
  have hcl : (Lib.byteCells SH).toArray.size = 32 := by rw [List.size_toArray]; simp [Lib.byteCells, hSl]
  have hN5 := heap_push_at w5 (.cells zero32b 54)
  have hi32 : (Tryd.prog.info? 54).map (·.size) = some (Lib.byteCells SH).toArray.size := by rw [hcl]; kernel_rfl
  have hzs : zero32b.size = (Lib.byteCells SH).toArray.size := by rw [hcl]; rfl
  have hS6 := setRow_block (D := (Lib.byteCells SH).toArray) hN5
  have hb6 : Below w.heap.size w ((w5.alloc (.cells zero32b 54)).setRow w5.heap.size (Lib.byteCells SH).toArray) := below_setRow (hb5.alloc hs5 _) hs5 _
  have hone6 := sha_cells SH
  unfold zero32b at hN5 hzs hS6 hb6
  go_wp2_with (refine wpList_store_row rfl 54 _ _ rfl w5.heap.size (Lib.byteCells SH).toArray rfl (by simp [Act.eval]) _ _ hN5 hi32 hzs hone6 ?_)
  generalize (w5.alloc (.cells #[.int .u8 0, .int .u8 0, .int .u8 0, .int .u8 0, .int .u8 0, .int .u8 0, .int .u8 0, .int .u8 0, .int .u8 0, .int .u8 0, .int .u8 0, .int .u8 0, .int .u8 0, .int .u8 0, .int .u8 0, .int .u8 0, .int .u8 0, .int .u8 0, .int .u8 0, .int .u8 0, .int .u8 0, .int .u8 0, .int .u8 0, .int .u8 0, .int .u8 0, .int .u8 0, .int .u8 0, .int .u8 0, .int .u8 0, .int .u8 0, .int .u8 0, .int .u8 0] 54)).setRow w5.heap.size (Lib.byteCells SH).toArray = W6 at *
  have hIB := bytes_in hS6 hSl (by omega)
  go_wp2_with fail
  go_ret
  refine ⟨⟨_, rfl, hs5, ?_⟩, hb6⟩
  rw [HSH.out]
  exact hIB
end Go.Proofs.YtgehgcnaoapbbaaDoor
