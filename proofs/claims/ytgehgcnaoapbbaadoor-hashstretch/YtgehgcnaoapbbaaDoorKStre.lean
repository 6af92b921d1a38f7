/-
  Package hash: Stretch.
-/
import Derived.Test.YtgehgcnaoapbbaaDoorKStr
namespace Go.Proofs.YtgehgcnaoapbbaaDoor
open Go.RowKit Ch
set_option maxRecDepth 100000

/-- The blocks of a stretched password, the first n. -/
def strL (m1 m2 salt : List UInt8) (rounds : Nat) : Nat → List UInt8
  | 0 => []
  | n + 1 => strL m1 m2 salt rounds n ++ itA m1 m2 (macK m1 m2 (salt ++ wordB (n + 1))) (rounds - 1)
theorem strL_length (m1 m2 salt : List UInt8) (rounds : Nat) : ∀ n, (strL m1 m2 salt rounds n).length = 32 * n
  | 0 => rfl
  | n + 1 => by
    rw [strL, List.length_append, strL_length m1 m2 salt rounds n, itA_length (u := macK m1 m2 (salt ++ wordB (n + 1))) (shaL_length _)]
    omega
theorem strL_take (m1 m2 salt : List UInt8) (rounds n k : Nat) (h : k ≤ 32 * n) (z : List UInt8) (hn : n ≤ 2) : (strL m1 m2 salt rounds n ++ z).take k = (strL m1 m2 salt rounds 2).take k := by
  rw [List.take_append_of_le_length (by rw [strL_length]; exact h)]
  have h2 : n = 0 ∨ n = 1 ∨ n = 2 := by omega
  rcases h2 with rfl | rfl | rfl
  · have : k = 0 := by omega
    subst this; simp
  · have h1 : strL m1 m2 salt rounds 2 = strL m1 m2 salt rounds 1 ++ itA m1 m2 (macK m1 m2 (salt ++ wordB (1 + 1))) (rounds - 1) := rfl
    rw [h1, List.take_append_of_le_length (by rw [strL_length]; exact h)]
  · rfl
/-- A stretched password. -/
def stretchL (k salt : List UInt8) (rounds size : Nat) : List UInt8 := (strL (padK (keyB k) 54) (padK (keyB k) 92) salt rounds 2).take size
theorem stretchL_length (k salt : List UInt8) (rounds size : Nat) (h : size ≤ 64) : (stretchL k salt rounds size).length = size := by
  unfold stretchL
  rw [List.length_take, strL_length]; omega
/-- The cells of the blocks made so far. -/
def strC (m1 m2 salt : List UInt8) (rounds n : Nat) : List UInt8 := strL m1 m2 salt rounds n ++ List.replicate (64 - 32 * n) 0
theorem strC_length (m1 m2 salt : List UInt8) (rounds n : Nat) (h : n ≤ 2) : (strC m1 m2 salt rounds n).length = 64 := by
  unfold strC
  rw [List.length_append, strL_length, List.length_replicate]; omega
theorem strC_next (m1 m2 salt : List UInt8) (rounds n : Nat) (h : n < 2) :
    (Lib.byteCells (strC m1 m2 salt rounds n)).take (32 * n) ++ Lib.byteCells (itA m1 m2 (macK m1 m2 (salt ++ wordB (n + 1))) (rounds - 1)) ++ (Lib.byteCells (strC m1 m2 salt rounds n)).drop (32 * n + 32) = Lib.byteCells (strC m1 m2 salt rounds (n + 1)) := by
  unfold Lib.byteCells strC
  rw [← List.map_take, ← List.map_drop, ← List.map_append, ← List.map_append]
  congr 1
  rw [List.take_append_of_le_length (by rw [strL_length]; omega), List.take_of_length_le (by rw [strL_length]; omega), List.drop_append, List.drop_of_length_le (by rw [strL_length]; omega), List.nil_append, strL_length, List.drop_replicate, strL]
  congr 2
  omega
theorem bytes_in_take {W : World} {B : Nat} {ty : TypeId} {l : List UInt8} (h : W.heap[B]? = some (.cells (Lib.byteCells l).toArray ty (0, 0))) {k : Nat} (hk : k ≤ l.length) (hm : k ≤ 1000000) : IsBytes W (.slice (some ⟨B, 0, none⟩) k k) ⟨(l.take k).toArray⟩ := by
  have hz : (⟨(l.take k).toArray⟩ : ByteArray).size = k := by
    rw [← len_eq]
    show (l.take k).toArray.toList.length = k
    rw [List.toList_toArray, List.length_take]; omega
  refine ⟨some ⟨B, 0, none⟩, k, by rw [hz], by rw [hz]; exact Nat.le_refl _, by unfold maxLen; omega, .inr ⟨_, rfl, .inr ⟨B, 0, rfl, block_lt h, fun i hi => ?_⟩⟩⟩
  rw [hz] at hi
  have hb : byte ⟨(l.take k).toArray⟩ i = byL l i := by
    rw [byte_list, List.toList_toArray]
    unfold byL
    rw [List.getElem?_take_of_lt (by omega)]
  have := block_cell i h (cells_at (l := l) (j := i) (by omega))
  show W.cell? ⟨B, 0 + i, none⟩ = some (.int .u8 (byte ⟨(l.take k).toArray⟩ (0 + i) : Int))
  rw [Nat.zero_add, hb]
  exact this
set_option maxHeartbeats 2000000 in
theorem kStretch_bad (v u : Value) (rounds size : Int) (w : World) (h : rounds < 1 ∨ 100000 < rounds ∨ size < 1 ∨ 64 < size) :
    Calls Tryd.prog 15 #[v, u, .int .i64 rounds, .int .i64 size] w fun e w' => e = .returned (.tuple #[.slice none 0 0, .int .i64 2]) ∧ Below w.heap.size w w' := by
  by_cases h1 : rounds < 1
  · have H : Hid (w = w) := rfl
    go_enter Tryd.func15, Tryd.ntmps15
    go_wp2_with fail
    go_ret2
    exact ⟨rfl, Below.refl _ _⟩
  by_cases h2 : rounds > 100000
  · have h2' : 100000 < rounds := h2
    go_enter Tryd.func15, Tryd.ntmps15
    go_wp2_with fail
    go_ret2
    exact ⟨rfl, Below.refl _ _⟩
  by_cases h3 : size < 1
  · have h2' : ¬ 100000 < rounds := h2
    go_enter Tryd.func15, Tryd.ntmps15
    go_wp2_with fail
    go_ret2
    exact ⟨rfl, Below.refl _ _⟩
  have h4 : 64 < size := by omega
  have h2' : ¬ 100000 < rounds := h2
  go_enter Tryd.func15, Tryd.ntmps15
  go_wp2_with fail
  go_ret2
  exact ⟨rfl, Below.refl _ _⟩
set_option maxHeartbeats 8000000 in
theorem kStretch_any (x y : Option Addr) (cx cy : Nat) (s t : ByteArray) (rounds size : Nat) (w : World) (hs : s.size ≤ 900000) (ht : t.size ≤ 700000) (hS : IsBytes w (.slice x s.size cx) s) (hT : IsBytes w (.slice y t.size cy) t) (hK : KTab w) (hr1 : 1 ≤ rounds) (hr2 : rounds ≤ 100000) (hz1 : 1 ≤ size) (hz2 : size ≤ 64) :
    Calls Tryd.prog 15 #[.slice x s.size cx, .slice y t.size cy, .int .i64 (rounds : Int), .int .i64 (size : Int)] w fun e w' => (∃ B, e = .returned (.tuple #[.slice (some ⟨B, 0, none⟩) size size, .int .i64 0]) ∧ w.heap.size ≤ B ∧ IsBytes w' (.slice (some ⟨B, 0, none⟩) size size) ⟨(stretchL s.data.toList t.data.toList rounds size).toArray⟩) ∧ Below w.heap.size w w' := by
  obtain ⟨hz, hi⟩ := zero_of_info infoKey
  have hz148 : zeroKey.size = 148 := by kernel_rfl
  have hNk := kNewKeyed_any x cx s w hs hS hK
  have q1 : ¬ (rounds : Int) < 1 := by omega
  have q2 : ¬ (100000 : Int) < (rounds : Int) := by omega
  have q3 : ¬ (size : Int) < 1 := by omega
  have q4 : ¬ (64 : Int) < (size : Int) := by omega
  go_enter Tryd.func15, Tryd.ntmps15
  go_wp2_with fail
  refine hNk.mono ?_
  rintro e w1 ⟨⟨D1, D2, rfl, hD1, hD2⟩, hb1⟩
  clear hNk
  have hN1 := heap_push_at w1 (.cells zeroKey 60)
  have hsz : (D1 ++ D2).size = 148 := by rw [Array.size_append, hD1.1, hD2.1]
  have hi148 : (Tryd.prog.info? 60).map (·.size) = some (D1 ++ D2).size := by rw [hsz]; exact hi
  have hone : (D1 ++ D2).all (·.oneCell') = true := by rw [Array.all_append, hD1.2.1, hD2.2.1]; rfl
  have hzk : zeroKey.size = (D1 ++ D2).size := by rw [hsz, hz148]
  have hR2 := setRow_block (D := D1 ++ D2) hN1
  have hb2 : Below w.heap.size w ((w1.alloc (.cells zeroKey 60)).setRow w1.heap.size (D1 ++ D2)) := below_setRow (hb1.alloc hb1.size _) hb1.size _
  have hl1 := padK_length (keyB s.data.toList) 54
  have hl2 := padK_length (keyB s.data.toList) 92
  have HV := show Hid (DgV D1 (padK (keyB s.data.toList) 54) 64 ∧ DgV D2 (padK (keyB s.data.toList) 92) 64) from ⟨hD1, hD2⟩
  have hs1 := hb1.size
  have hz2' : ((w1.alloc (.cells zeroKey 60)).setRow w1.heap.size (D1 ++ D2)).heap.size = w1.heap.size + 1 := by rw [setRow_size]; simp
  clear hD1 hD2
  go_wp2_with (first
    | refine wpList_store_row rfl 60 _ _ rfl w1.heap.size (D1 ++ D2) rfl (by simp [Act.eval]) _ _ hN1 hi148 hzk hone ?_
    | fail)
  generalize (w1.alloc (.cells zeroKey 60)).setRow w1.heap.size (D1 ++ D2) = W2 at *
  have hN3 := heap_push_at W2 (.cells zero64b 48)
  have hb3 : Below w.heap.size w (W2.alloc (.cells zero64b 48)) := hb2.alloc hb2.size _
  have hk3 := block_alloc (.cells zero64b 48) hR2
  have hz3 : (W2.alloc (.cells zero64b 48)).heap.size = w1.heap.size + 2 := by simp [hz2']
  rw [hz2'] at hN3
  generalize hg3 : W2.alloc (.cells zero64b 48) = W3 at *
  unfold zero64b at hg3
  rw [hg3]
  obtain ⟨kb, hkb⟩ : ∃ kb, w1.heap.size = kb := ⟨_, rfl⟩
  rw [hkb] at hN3 hk3 hz3 hs1 ⊢
  obtain ⟨m1, hm1⟩ : ∃ m1, padK (keyB s.data.toList) 54 = m1 := ⟨_, rfl⟩
  obtain ⟨m2, hm2⟩ : ∃ m2, padK (keyB s.data.toList) 92 = m2 := ⟨_, rfl⟩
  have hst : stretchL s.data.toList t.data.toList rounds size = (strL m1 m2 t.data.toList rounds 2).take size := by unfold stretchL; rw [hm1, hm2]
  have HST := show Hid (stretchL s.data.toList t.data.toList rounds size = (strL m1 m2 t.data.toList rounds 2).take size) from hst
  rw [hm1, hm2] at HV
  rw [hm1] at hl1
  rw [hm2] at hl2
  have hk4 : W3.heap[kb]? = some (.cells (D1.toList ++ D2.toList).toArray 60 (0, 0)) := by rw [← Array.toList_append]; exact hk3
  have h0c : W3.heap[kb + 1]? = some (.cells (Lib.byteCells (strC m1 m2 t.data.toList rounds 0)).toArray 48 (0, 0)) := hN3
  clear hg3 hN1 hi148 hone hzk hR2 hb2 hz2' hk3 hN3 hst hm1 hm2 hsz hS hb1
  have HW := show Hid (W3.heap[kb]? = some (.cells (D1.toList ++ D2.toList).toArray 60 (0, 0)) ∧ KTab w ∧ IsBytes w (.slice y t.size cy) t ∧ Below w.heap.size w W3) from ⟨hk4, hK, hT, hb3⟩
  clear hk4 hK hT hb3
  go_loopw [12, 13] (fun p q wr => ∃ n at_ num : Nat, Hid (at_ = 32 * n ∧ num = n + 1 ∧ n ≤ 2) ∧ at_ ≤ 64 ∧ num ≤ 3 ∧ p = .int .i64 (at_ : Int) ∧ q = .int .u32 (num : Int) ∧ Hid (wr.heap[kb + 1]? = some (.cells (Lib.byteCells (strC m1 m2 t.data.toList rounds n)).toArray 48 (0, 0))) ∧ Hid (Below (kb + 1) W3 wr)) (fun p _ _ => 64 - (intOf p).toNat)
  case atStart => exact ⟨0, 0, 1, ⟨rfl, rfl, by omega⟩, by omega, by omega, rfl, rfl, h0c, Below.refl _ _⟩
  case round =>
    obtain ⟨n, at_, num, hn, hat, hnum, rfl, rfl, hc, hb⟩ := hrel
    by_cases hlt : at_ < size
    · have hlt2 : (at_ : Int) < (size : Int) := by omega
      have hn2 : n < 2 := by have := hn.out; omega
      have hkr := (hb.out.block kb (by omega)).trans HW.out.1
      have hbw : Below w.heap.size w wr := HW.out.2.2.2.trans (hb.out.mono (by omega))
      have hKm := kStretched_any kb D1.toList D2.toList m1 m2 y cy t num rounds wr hkr (by exact HV.out.1) (by exact HV.out.2) hl1 hl2 (HW.out.2.2.1.later hbw) (HW.out.2.1.later hbw) ht (by omega) hr1 hr2
      have hil : (itA m1 m2 (macK m1 m2 (t.data.toList ++ wordB num)) (rounds - 1)).length = 32 := itA_length (shaL_length _) _
      have hnx := strC_next m1 m2 t.data.toList rounds n hn2
      rw [show n + 1 = num from hn.out.2.1.symm] at hnx
      obtain ⟨PT, hPT⟩ : ∃ PT, itA m1 m2 (macK m1 m2 (t.data.toList ++ wordB num)) (rounds - 1) = PT := ⟨_, rfl⟩
      rw [hPT] at hKm hil hnx
      clear hPT hkr
      obtain ⟨wS, hwS⟩ : ∃ wS, wS = wr := ⟨_, rfl⟩
      subst hwS
      go_wp2_with fail
      refine hKm.mono ?_
      rintro e w5 ⟨rfl, hb5⟩
      clear hKm
      have hcl : (Lib.byteCells PT).toArray.size = 32 := by rw [List.size_toArray]; simp [Lib.byteCells, hil]
      have hN5 := heap_push_at w5 (.cells zero32b 54)
      have hi32 : (Tryd.prog.info? 54).map (·.size) = some (Lib.byteCells PT).toArray.size := by rw [hcl]; kernel_rfl
      have hzs : zero32b.size = (Lib.byteCells PT).toArray.size := by rw [hcl]; rfl
      have hS6 := setRow_block (D := (Lib.byteCells PT).toArray) hN5
      have hkl := block_lt hc.out
      have hs5 := hb5.size
      have hC6 : ((w5.alloc (.cells zero32b 54)).setRow w5.heap.size (Lib.byteCells PT).toArray).heap[kb + 1]? = some (.cells (Lib.byteCells (strC m1 m2 t.data.toList rounds n)).toArray 48 (0, 0)) := (setRow_other (by omega)).trans (block_alloc _ ((hb5.block _ hkl).trans hc.out))
      have hb6 : Below (kb + 1) W3 ((w5.alloc (.cells zero32b 54)).setRow w5.heap.size (Lib.byteCells PT).toArray) := below_setRow ((hb.out.trans (hb5.mono (by omega))).alloc (by omega) _) (by omega) _
      have hone6 := sha_cells PT
      unfold zero32b at hN5 hzs hS6 hb6 hC6
      go_wp2_with (refine wpList_store_row rfl 54 _ _ rfl w5.heap.size (Lib.byteCells PT).toArray rfl (by simp [Act.eval]) _ _ hN5 hi32 hzs hone6 ?_)
      generalize (w5.alloc (.cells #[.int .u8 0, .int .u8 0, .int .u8 0, .int .u8 0, .int .u8 0, .int .u8 0, .int .u8 0, .int .u8 0, .int .u8 0, .int .u8 0, .int .u8 0, .int .u8 0, .int .u8 0, .int .u8 0, .int .u8 0, .int .u8 0, .int .u8 0, .int .u8 0, .int .u8 0, .int .u8 0, .int .u8 0, .int .u8 0, .int .u8 0, .int .u8 0, .int .u8 0, .int .u8 0, .int .u8 0, .int .u8 0, .int .u8 0, .int .u8 0, .int .u8 0, .int .u8 0] 54)).setRow w5.heap.size (Lib.byteCells PT).toArray = W6 at *
      obtain ⟨PB, hPB⟩ : ∃ PB, w5.heap.size = PB := ⟨_, rfl⟩
      rw [hPB] at hS6 ⊢
      have hcopy := run_copy_row (P := Tryd.prog) W6.drew 23 23 3 5 (kb + 1) (32 * n) (64 - 32 * n) (64 - 32 * n) ⟨PB, 0, none⟩ 32 32 (Lib.byteCells (strC m1 m2 t.data.toList rounds n)).toArray 48 (Lib.byteCells PT) Tryd.underlying23 (by kernel_rfl) hC6 (by
          have e1 : (Lib.byteCells PT).length = 32 := by simpa using hcl
          have e2 : Nat.min 32 (64 - 32 * n) = min 32 (64 - 32 * n) := rfl
          rw [e1, e2]; omega) (fun j u hj => by
          have hadd : (⟨PB, 0, none⟩ : Addr).add j = ⟨PB, j, none⟩ := by unfold Addr.add; split <;> simp_all
          rw [hadd]
          exact block_cell j hS6 (by rw [List.getElem?_toArray]; exact hj)) (by
          have e1 : (Lib.byteCells PT).length = 32 := by simpa using hcl
          rw [e1, List.size_toArray]
          have := strC_length m1 m2 t.data.toList rounds n (by omega)
          simp only [Lib.byteCells, List.length_map, this]
          omega) (fun u hu => by
          obtain ⟨z, _, rfl⟩ := List.mem_map.1 hu
          rfl)
      have hlen4 : (Lib.byteCells PT).length = 32 := by simpa using hcl
      rw [hlen4, List.toList_toArray, hnx] at hcopy
      have HS10 := show Hid ((W6.drew.setRow (kb + 1) (Lib.byteCells (strC m1 m2 t.data.toList rounds num)).toArray).heap[kb + 1]? = some (.cells (Lib.byteCells (strC m1 m2 t.data.toList rounds num)).toArray 48 (0, 0)) ∧ Below (kb + 1) W3 (W6.drew.setRow (kb + 1) (Lib.byteCells (strC m1 m2 t.data.toList rounds num)).toArray)) from ⟨setRow_block hC6, below_setRow hb6.drew (Nat.le_refl _) _⟩
      rw [← hn.out.1] at hcopy
      have hgo : goInt ((32 : Nat) : Int) = .int .i64 32 := rfl
      rw [hgo] at hcopy
      have hi4l : at_ < 64 := by omega
      have hi4n : ¬ 64 = at_ := by omega
      have hi4m : (at_ : Int) ≤ 64 := by omega
      clear hC6 hb6 hS6 hnx hlen4 hcl hi32 hzs hone6 hN5 hil hkl hbw
      go_wp2_with fail
      go_region_law (refine Go.Proofs.step_copy_runI rfl (.tmp 42) (.tmp 43) 23 23 rfl _ _ (by simp [Act.eval, Act.put]) (by simp [Act.eval, Act.put]) hcopy ?_)
      generalize W6.drew.setRow (kb + 1) (Lib.byteCells (strC m1 m2 t.data.toList rounds num)).toArray = W10 at *
      go_wp2_with fail
      go_roundw
      case rel => exact ⟨n + 1, at_ + 32, num + 1, ⟨by have := hn.out; omega, by have := hn.out; omega, by omega⟩, by have := hn.out; omega, by have := hn.out; omega, by go_num, by go_num, by have := hn.out.2.1; rw [← this]; exact HS10.out.1, HS10.out.2⟩
      case measure => simp [intOf]; omega
    · have hlt2 : ¬ (at_ : Int) < (size : Int) := by omega
      have hIB := bytes_in_take (k := size) hc.out (by rw [strC_length _ _ _ _ _ hn.out.2.2]; exact hz2) (by omega)
      have hpre : (strC m1 m2 t.data.toList rounds n).take size = (strL m1 m2 t.data.toList rounds 2).take size := strL_take _ _ _ _ _ _ (by have := hn.out; omega) _ hn.out.2.2
      rw [hpre] at hIB
      have HIB := show Hid (IsBytes wr (.slice (some ⟨kb + 1, 0, none⟩) size size) ⟨((strL m1 m2 t.data.toList rounds 2).take size).toArray⟩) from hIB
      have hbw : Below w.heap.size w wr := HW.out.2.2.2.trans (hb.out.mono (by omega))
      clear hIB hpre
      have q5 : (size : Int) ≤ 64 := by omega
      go_wp2_with fail
      go_ret2
      exact ⟨⟨_, rfl, by omega, by rw [HST.out]; exact HIB.out⟩, hbw⟩
end Go.Proofs.YtgehgcnaoapbbaaDoor
