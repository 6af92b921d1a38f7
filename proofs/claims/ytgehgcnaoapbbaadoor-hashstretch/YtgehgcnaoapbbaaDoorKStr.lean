/-
  Package hash: a block of a stretched password.
-/
import Derived.Test.YtgehgcnaoapbbaaDoorKMacsEtc
namespace Go.Proofs.YtgehgcnaoapbbaaDoor
open Go.RowKit Ch
set_option maxRecDepth 100000

def macK (m1 m2 t : List UInt8) : List UInt8 := shaL (m2 ++ shaL (m1 ++ t))
def itU (m1 m2 u : List UInt8) : Nat → List UInt8
  | 0 => u
  | r + 1 => macK m1 m2 (itU m1 m2 u r)
def xorB (a b : List UInt8) : List UInt8 := List.zipWith (· ^^^ ·) a b
def itA (m1 m2 u : List UInt8) : Nat → List UInt8
  | 0 => u
  | r + 1 => xorB (itA m1 m2 u r) (itU m1 m2 u (r + 1))
theorem itU_length {m1 m2 u : List UInt8} (h : u.length = 32) : ∀ r, (itU m1 m2 u r).length = 32
  | 0 => h
  | _ + 1 => shaL_length _
theorem itA_length {m1 m2 u : List UInt8} (h : u.length = 32) : ∀ r, (itA m1 m2 u r).length = 32
  | 0 => h
  | r + 1 => by
    show (List.zipWith _ _ _).length = 32
    rw [List.length_zipWith, itA_length h r, itU_length h (r + 1)]
    rfl
theorem IsSl.two {W : World} {u u' : Value} {t t' : ByteArray} (hI : IsBytes W u t) (hI' : IsBytes W u' t') : IsSl (W.alloc (.cells #[u, u'] 23)) (.slice (some ⟨W.heap.size, 0, none⟩) 2 2) [t, t'] := by
  refine ⟨_, 2, rfl, .inr ⟨W.heap.size, 0, rfl, by simp, fun i t0 ht => ?_⟩⟩
  rcases i with _ | _ | i
  · simp only [List.getElem?_cons_zero, Option.some.injEq] at ht
    subst ht
    exact ⟨u, block_cell 0 (heap_push_at W _) rfl, hI.alloc _⟩
  · simp only [List.getElem?_cons_succ, List.getElem?_cons_zero, Option.some.injEq] at ht
    subst ht
    exact ⟨u', block_cell 1 (heap_push_at W _) rfl, hI'.alloc _⟩
  · cases ht
theorem cells_at {l : List UInt8} {j : Nat} (h : j < l.length) : (Lib.byteCells l).toArray[j]? = some (.int .u8 (byL l j : Int)) := by
  rw [List.getElem?_toArray]
  unfold Lib.byteCells byL
  rw [List.getElem?_map, List.getElem?_eq_getElem h]
  rfl
theorem cells_xor {A V : List UInt8} {C : Array Value} (hA : A.length = 32) (hV : V.length = 32) (hC : C.size = 32) (h : ∀ j, j < 32 → C[j]? = some (.int .u8 ((byL A j ^^^ byL V j : Nat) : Int))) : C = (Lib.byteCells (xorB A V)).toArray := by
  apply Array.ext_getElem?
  intro j
  by_cases hj : j < 32
  · rw [h j hj, List.getElem?_toArray]
    unfold Lib.byteCells xorB byL
    rw [List.getElem?_map, List.getElem?_zipWith, List.getElem?_eq_getElem (by omega), List.getElem?_eq_getElem (by omega)]
    show _ = some (Value.int .u8 ((A[j] ^^^ V[j]).toNat : Int))
    rw [UInt8.toNat_xor]
    rfl
  · rw [Array.getElem?_eq_none (by omega), List.getElem?_toArray, List.getElem?_eq_none (by simp [Lib.byteCells, xorB, hA, hV]; omega)]
set_option maxHeartbeats 2000000 in
theorem kStretched_any (kb : Nat) (l1 l2 : List Value) (m1 m2 : List UInt8) (x : Option Addr) (cap : Nat) (s : ByteArray) (num : Nat) (rounds : Nat) (w : World) (hk : w.heap[kb]? = some (.cells (l1 ++ l2).toArray 60 (0, 0))) (hV1 : DgV l1.toArray m1 64) (hV2 : DgV l2.toArray m2 64) (hm1 : m1.length = 64) (hm2 : m2.length = 64) (hB : IsBytes w (.slice x s.size cap) s) (hK : KTab w) (hs : s.size ≤ 700000) (hnum : num < 4294967296) (hr1 : 1 ≤ rounds) (hr2 : rounds ≤ 100000) :
    Calls Tryd.prog 27 #[.pointer (some ⟨kb, 0, none⟩), .slice x s.size cap, .int .u32 (num : Int), .int .i64 (rounds : Int)] w fun e w' => e = .returned (.agg (Lib.byteCells (itA m1 m2 (macK m1 m2 (s.data.toList ++ wordB num)) (rounds - 1))).toArray) ∧ Below w.heap.size w w' := by
  have hN0 := heap_push_at w (.cells zero32b 54)
  have hb0 : Below w.heap.size w (w.alloc (.cells zero32b 54)) := (Below.refl _ w).alloc (Nat.le_refl _) _
  have hkl := block_lt hk
  generalize hg : w.alloc (.cells zero32b 54) = W1 at *
  unfold zero32b at hg
  have hw1 := block_lt hN0
  have hWB := kWordBytes_any num W1 hnum
  go_enter Tryd.func27, Tryd.ntmps27
  go_wp2_with fail
  refine hWB.mono ?_
  rintro e w2 ⟨rfl, hb12⟩
  have hb2 : Below w.heap.size w w2 := hb0.trans (hb12.mono hb0.size)
  have hc4 : cells4 num = (Lib.byteCells (wordB num)).toArray := by rw [← cells4_eq]
  have hw4 : (wordB num).length = 4 := rfl
  have h1c : (cells4 num).all (·.oneCell') = true := by rw [hc4]; exact sha_cells _
  have hN2 := heap_push_at w2 (.cells #[.int .u8 0, .int .u8 0, .int .u8 0, .int .u8 0] 67)
  have hS3 := setRow_block (D := cells4 num) hN2
  rw [hc4] at hS3
  have hb3 : Below w2.heap.size w2 ((w2.alloc (.cells #[.int .u8 0, .int .u8 0, .int .u8 0, .int .u8 0] 67)).setRow w2.heap.size (cells4 num)) := below_setRow ((Below.refl _ w2).alloc (Nat.le_refl _) _) (Nat.le_refl _) _
  have hz3 : ((w2.alloc (.cells #[.int .u8 0, .int .u8 0, .int .u8 0, .int .u8 0] 67)).setRow w2.heap.size (cells4 num)).heap.size = w2.heap.size + 1 := by rw [setRow_size]; simp
  have hi4 : (Tryd.prog.info? 67).map (·.size) = some (cells4 num).size := by kernel_rfl
  rw [← hc4] at hS3
  have HC4 := show Hid (cells4 num = (Lib.byteCells (wordB num)).toArray) from hc4
  clear hc4
  go_wp2_with (refine wpList_store_row rfl 67 _ _ rfl w2.heap.size (cells4 num) rfl (by simp [Act.eval]) _ _ hN2 hi4 rfl h1c ?_)
  generalize (w2.alloc (.cells #[.int .u8 0, .int .u8 0, .int .u8 0, .int .u8 0] 67)).setRow w2.heap.size (cells4 num) = W3 at *
  rw [HC4.out] at hS3
  have hIT := bytes_in hS3 hw4 (by omega)
  have hb03 : Below w.heap.size w W3 := hb2.trans (hb3.mono hb2.size)
  have hSl := IsSl.two (hB.later hb03) hIT
  have hb4 : Below w.heap.size w (W3.alloc (.cells #[.slice x s.size cap, .slice (some ⟨w2.heap.size, 0, none⟩) 4 4] 23)) := hb03.alloc hb03.size _
  rw [hz3] at hSl
  have hfl : flatB [s, ⟨(wordB num).toArray⟩] = s.data.toList ++ wordB num := by simp [flatB]
  have hKm := kKmac_any kb l1 l2 m1 m2 _ _ _ ((hb4.block kb hkl).trans hk) hV1 hV2 hm1 hm2 hSl (hK.later hb4) (by rw [hfl, List.length_append, len_eq, hw4]; omega) (by simp)
  rw [hfl] at hKm
  refine hKm.mono ?_
  rintro e w5 ⟨rfl, hb45⟩
  have hb5 : Below w.heap.size w w5 := hb4.trans (hb45.mono hb4.size)
  have hR5 : w5.heap[w.heap.size]? = some (.cells zero32b 54 (0, 0)) := (hb45.block _ (by have := hb4.size; have := hb12.size; have := hb3.size; simp; omega)).trans ((block_alloc _ ((hb3.block _ (by have := hb12.size; omega)).trans ((hb12.block _ hw1).trans hN0))))
  clear hKm hSl hIT hS3 hb3 hz3 hb4 hb45 hb03 hb12 hWB hb2 hN2 hN0 hb0
  have hSl : (macK m1 m2 (s.data.toList ++ wordB num)).length = 32 := shaL_length _
  have hmk : shaL (m2 ++ shaL (m1 ++ (s.data.toList ++ wordB num))) = macK m1 m2 (s.data.toList ++ wordB num) := rfl
  rw [hmk]
  obtain ⟨U, hU⟩ : ∃ U, macK m1 m2 (s.data.toList ++ wordB num) = U := ⟨_, rfl⟩
  have HU := show Hid (macK m1 m2 (s.data.toList ++ wordB num) = U) from hU
  rw [hU] at hSl ⊢
  clear hU hmk
  have hcl : (Lib.byteCells U).toArray.size = 32 := by rw [List.size_toArray]; simp [Lib.byteCells, hSl]
  have hN5 := heap_push_at w5 (.cells zero32b 54)
  have hi32 : (Tryd.prog.info? 54).map (·.size) = some (Lib.byteCells U).toArray.size := by rw [hcl]; kernel_rfl
  have hzs : zero32b.size = (Lib.byteCells U).toArray.size := by rw [hcl]; rfl
  have hS6 := setRow_block (D := (Lib.byteCells U).toArray) hN5
  have hb6 : Below w5.heap.size w5 ((w5.alloc (.cells zero32b 54)).setRow w5.heap.size (Lib.byteCells U).toArray) := below_setRow ((Below.refl _ w5).alloc (Nat.le_refl _) _) (Nat.le_refl _) _
  have hz6 : ((w5.alloc (.cells zero32b 54)).setRow w5.heap.size (Lib.byteCells U).toArray).heap.size = w5.heap.size + 1 := by rw [setRow_size]; simp
  have hone6 := sha_cells U
  unfold zero32b at hN5 hzs hS6 hb6 hz6
  have hN6 := heap_push_at ((w5.alloc (.cells #[.int .u8 0, .int .u8 0, .int .u8 0, .int .u8 0, .int .u8 0, .int .u8 0, .int .u8 0, .int .u8 0, .int .u8 0, .int .u8 0, .int .u8 0, .int .u8 0, .int .u8 0, .int .u8 0, .int .u8 0, .int .u8 0, .int .u8 0, .int .u8 0, .int .u8 0, .int .u8 0, .int .u8 0, .int .u8 0, .int .u8 0, .int .u8 0, .int .u8 0, .int .u8 0, .int .u8 0, .int .u8 0, .int .u8 0, .int .u8 0, .int .u8 0, .int .u8 0] 54)).setRow w5.heap.size (Lib.byteCells U).toArray) (.cells #[.int .u8 0, .int .u8 0, .int .u8 0, .int .u8 0, .int .u8 0, .int .u8 0, .int .u8 0, .int .u8 0, .int .u8 0, .int .u8 0, .int .u8 0, .int .u8 0, .int .u8 0, .int .u8 0, .int .u8 0, .int .u8 0, .int .u8 0, .int .u8 0, .int .u8 0, .int .u8 0, .int .u8 0, .int .u8 0, .int .u8 0, .int .u8 0, .int .u8 0, .int .u8 0, .int .u8 0, .int .u8 0, .int .u8 0, .int .u8 0, .int .u8 0, .int .u8 0] 54)
  rw [hz6] at hN6
  have hS7 := setRow_block (D := (Lib.byteCells U).toArray) hN6
  have hS7u : ((((w5.alloc (.cells #[.int .u8 0, .int .u8 0, .int .u8 0, .int .u8 0, .int .u8 0, .int .u8 0, .int .u8 0, .int .u8 0, .int .u8 0, .int .u8 0, .int .u8 0, .int .u8 0, .int .u8 0, .int .u8 0, .int .u8 0, .int .u8 0, .int .u8 0, .int .u8 0, .int .u8 0, .int .u8 0, .int .u8 0, .int .u8 0, .int .u8 0, .int .u8 0, .int .u8 0, .int .u8 0, .int .u8 0, .int .u8 0, .int .u8 0, .int .u8 0, .int .u8 0, .int .u8 0] 54)).setRow w5.heap.size (Lib.byteCells U).toArray).alloc (.cells #[.int .u8 0, .int .u8 0, .int .u8 0, .int .u8 0, .int .u8 0, .int .u8 0, .int .u8 0, .int .u8 0, .int .u8 0, .int .u8 0, .int .u8 0, .int .u8 0, .int .u8 0, .int .u8 0, .int .u8 0, .int .u8 0, .int .u8 0, .int .u8 0, .int .u8 0, .int .u8 0, .int .u8 0, .int .u8 0, .int .u8 0, .int .u8 0, .int .u8 0, .int .u8 0, .int .u8 0, .int .u8 0, .int .u8 0, .int .u8 0, .int .u8 0, .int .u8 0] 54)).setRow (w5.heap.size + 1) (Lib.byteCells U).toArray).heap[w5.heap.size]? = some (.cells (Lib.byteCells U).toArray 54 (0, 0)) := (setRow_other (by omega)).trans (block_alloc _ hS6)
  have hb7 : Below w5.heap.size w5 ((((w5.alloc (.cells #[.int .u8 0, .int .u8 0, .int .u8 0, .int .u8 0, .int .u8 0, .int .u8 0, .int .u8 0, .int .u8 0, .int .u8 0, .int .u8 0, .int .u8 0, .int .u8 0, .int .u8 0, .int .u8 0, .int .u8 0, .int .u8 0, .int .u8 0, .int .u8 0, .int .u8 0, .int .u8 0, .int .u8 0, .int .u8 0, .int .u8 0, .int .u8 0, .int .u8 0, .int .u8 0, .int .u8 0, .int .u8 0, .int .u8 0, .int .u8 0, .int .u8 0, .int .u8 0] 54)).setRow w5.heap.size (Lib.byteCells U).toArray).alloc (.cells #[.int .u8 0, .int .u8 0, .int .u8 0, .int .u8 0, .int .u8 0, .int .u8 0, .int .u8 0, .int .u8 0, .int .u8 0, .int .u8 0, .int .u8 0, .int .u8 0, .int .u8 0, .int .u8 0, .int .u8 0, .int .u8 0, .int .u8 0, .int .u8 0, .int .u8 0, .int .u8 0, .int .u8 0, .int .u8 0, .int .u8 0, .int .u8 0, .int .u8 0, .int .u8 0, .int .u8 0, .int .u8 0, .int .u8 0, .int .u8 0, .int .u8 0, .int .u8 0] 54)).setRow (w5.heap.size + 1) (Lib.byteCells U).toArray) := below_setRow (hb6.alloc hb6.size _) (Nat.le_succ _) _
  go_wp2_with (first
    | refine wpList_store_row rfl 54 _ _ rfl w5.heap.size (Lib.byteCells U).toArray rfl (by simp [Act.eval]) _ _ hN5 hi32 hzs hone6 ?_
    | refine wpList_load_row rfl 54 _ rfl w5.heap.size rfl _ (Lib.byteCells U).toArray _ _ hS6 Tryd.underlying54 rfl hi32 ?_
    | refine wpList_store_row rfl 54 _ _ rfl (w5.heap.size + 1) (Lib.byteCells U).toArray rfl (by simp [Act.eval]) _ _ hN6 hi32 hzs hone6 ?_)
  generalize ((((w5.alloc (.cells #[.int .u8 0, .int .u8 0, .int .u8 0, .int .u8 0, .int .u8 0, .int .u8 0, .int .u8 0, .int .u8 0, .int .u8 0, .int .u8 0, .int .u8 0, .int .u8 0, .int .u8 0, .int .u8 0, .int .u8 0, .int .u8 0, .int .u8 0, .int .u8 0, .int .u8 0, .int .u8 0, .int .u8 0, .int .u8 0, .int .u8 0, .int .u8 0, .int .u8 0, .int .u8 0, .int .u8 0, .int .u8 0, .int .u8 0, .int .u8 0, .int .u8 0, .int .u8 0] 54)).setRow w5.heap.size (Lib.byteCells U).toArray).alloc (.cells #[.int .u8 0, .int .u8 0, .int .u8 0, .int .u8 0, .int .u8 0, .int .u8 0, .int .u8 0, .int .u8 0, .int .u8 0, .int .u8 0, .int .u8 0, .int .u8 0, .int .u8 0, .int .u8 0, .int .u8 0, .int .u8 0, .int .u8 0, .int .u8 0, .int .u8 0, .int .u8 0, .int .u8 0, .int .u8 0, .int .u8 0, .int .u8 0, .int .u8 0, .int .u8 0, .int .u8 0, .int .u8 0, .int .u8 0, .int .u8 0, .int .u8 0, .int .u8 0] 54)).setRow (w5.heap.size + 1) (Lib.byteCells U).toArray) = W7 at *
  have hR7 := (hb7.block _ (by have := block_lt hR5; omega)).trans hR5
  have hbw7 : Below w.heap.size w W7 := hb5.trans (hb7.mono hb5.size)
  have hR5l := block_lt hR5
  clear hS6 hb6 hz6 hN5 hN6 hzs hi32 hone6 hcl hb7 hR5 hg
  obtain ⟨ub, hub⟩ : ∃ ub, w5.heap.size = ub := ⟨_, rfl⟩
  rw [hub] at hS7 hS7u hR5l ⊢
  go_loopw [24] (fun t wr => ∃ r : Nat, r ≤ rounds - 1 ∧ t = .int .i64 (r : Int) ∧ wr.heap[ub]? = some (.cells (Lib.byteCells (itU m1 m2 U r)).toArray 54 (0, 0)) ∧ wr.heap[ub + 1]? = some (.cells (Lib.byteCells (itA m1 m2 U r)).toArray 54 (0, 0)) ∧ wr.heap[w.heap.size]? = some (.cells zero32b 54 (0, 0)) ∧ Below w.heap.size w wr) (fun t _ => rounds - (intOf t).toNat)
  case atStart => exact ⟨0, by omega, rfl, hS7u, hS7, hR7, hbw7⟩
  case round =>
    obtain ⟨r, hr, rfl, hu, ha, hR, hb⟩ := hrel
    by_cases hlt : r < rounds - 1
    · have hlt2 : (r : Int) < (rounds : Int) - 1 := by omega
      have hUl := itU_length (m1 := m1) (m2 := m2) hSl r
      have hIB := bytes_in hu hUl (by omega)
      have hSl1 := IsSl.one hIB
      have hbA : Below wr.heap.size wr (wr.alloc (.cells #[.slice (some ⟨ub, 0, none⟩) 32 32] 23)) := (Below.refl _ _).alloc (Nat.le_refl _) _
      have hbwA := hb.trans (hbA.mono hb.size)
      have hfl2 : flatB [⟨(itU m1 m2 U r).toArray⟩] = itU m1 m2 U r := by simp [flatB]
      have hKm := kKmac_any kb l1 l2 m1 m2 _ _ _ ((hbwA.block kb hkl).trans hk) hV1 hV2 hm1 hm2 hSl1 (hK.later hbwA) (by rw [hfl2, hUl]; omega) (by simp)
      rw [hfl2] at hKm
      have hmk : shaL (m2 ++ shaL (m1 ++ itU m1 m2 U r)) = itU m1 m2 U (r + 1) := rfl
      rw [hmk] at hKm
      go_wp2_with fail
      refine hKm.mono ?_
      rintro e wc ⟨rfl, hbc⟩
      have hbwc : Below w.heap.size w wc := hbwA.trans (hbc.mono hbwA.size)
      have hbrc : Below wr.heap.size wr wc := hbA.trans (hbc.mono hbA.size)
      have huc := (hbrc.block ub (block_lt hu)).trans hu
      have hac := (hbrc.block (ub + 1) (block_lt ha)).trans ha
      have hRc := (hbrc.block _ (block_lt hR)).trans hR
      clear hKm hmk hSl1 hIB hbA hbwA hbc hbrc hfl2 hu ha hR
      have hVl := itU_length (m1 := m1) (m2 := m2) hSl (r + 1)
      have hAl := itA_length (m1 := m1) (m2 := m2) hSl r
      obtain ⟨V, hV⟩ : ∃ V, itU m1 m2 U (r + 1) = V := ⟨_, rfl⟩
      obtain ⟨A, hA⟩ : ∃ A, itA m1 m2 U r = A := ⟨_, rfl⟩
      obtain ⟨P, hP⟩ : ∃ P, itU m1 m2 U r = P := ⟨_, rfl⟩
      have hAV : itA m1 m2 U (r + 1) = xorB A V := by rw [← hA, ← hV]; rfl
      have HAV := show Hid (itU m1 m2 U (r + 1) = V ∧ itA m1 m2 U (r + 1) = xorB A V) from ⟨hV, hAV⟩
      rw [hV] at hVl ⊢
      rw [hA] at hac hAl
      rw [hP] at huc hUl
      clear hV hA hP hAV
      have hclV : (Lib.byteCells V).toArray.size = 32 := by rw [List.size_toArray]; simp [Lib.byteCells, hVl]
      have hclP : (Lib.byteCells P).toArray.size = 32 := by rw [List.size_toArray]; simp [Lib.byteCells, hUl]
      have hclA : (Lib.byteCells A).toArray.size = 32 := by rw [List.size_toArray]; simp [Lib.byteCells, hAl]
      have hi32 : (Tryd.prog.info? 54).map (·.size) = some (Lib.byteCells V).toArray.size := by rw [hclV]; kernel_rfl
      have hzs : (Lib.byteCells P).toArray.size = (Lib.byteCells V).toArray.size := by rw [hclV, hclP]
      have hone := sha_cells V
      have hS := setRow_block (D := (Lib.byteCells V).toArray) huc
      have hSa := (setRow_other (B := ub) (D := (Lib.byteCells V).toArray) (by omega)).trans hac
      have hSR := (setRow_other (B := ub) (D := (Lib.byteCells V).toArray) (by omega)).trans hRc
      have hbS := below_setRow hbwc (B := ub) (by omega) (Lib.byteCells V).toArray
      have HAl := show Hid (A.length = 32 ∧ V.length = 32 ∧ (Lib.byteCells A).toArray.size = 32) from ⟨hAl, hVl, hclA⟩
      clear hclA hclP hAl hUl
      go_wp2_with (first
        | refine wpList_store_row rfl 54 _ _ rfl ub (Lib.byteCells V).toArray rfl (by simp [Act.eval]) _ _ huc hi32 hzs hone ?_
        | refine wpList_load_row rfl 54 _ rfl ub rfl _ (Lib.byteCells V).toArray _ _ hS Tryd.underlying54 rfl hi32 ?_)
      generalize wc.setRow ub (Lib.byteCells V).toArray = Wd at *
      clear huc hac hRc hbwc hzs hone hi32
      go_loopw [31] (fun t wq => ∃ i : Nat, i ≤ 32 ∧ t = .int .i64 (i : Int) ∧ (∃ C, wq.heap[ub + 1]? = some (.cells C 54 (0, 0)) ∧ C.size = 32 ∧ (∀ j, j < i → C[j]? = some (.int .u8 ((byL A j ^^^ byL V j : Nat) : Int))) ∧ ∀ j, i ≤ j → j < 32 → C[j]? = some (.int .u8 (byL A j : Int))) ∧ wq.heap[ub]? = some (.cells (Lib.byteCells V).toArray 54 (0, 0)) ∧ wq.heap[w.heap.size]? = some (.cells zero32b 54 (0, 0)) ∧ Below w.heap.size w wq) (fun t _ => 32 - (intOf t).toNat)
      case atStart => exact ⟨0, by omega, rfl, ⟨_, hSa, HAl.out.2.2, fun j hj => absurd hj (Nat.not_lt_zero _), fun j _ hj => cells_at (by rw [HAl.out.1]; exact hj)⟩, hS, hSR, hbS⟩
      case round =>
        obtain ⟨i, hi2, rfl, ⟨C, hC1, hC2, hC3, hC4⟩, hu, hR, hb⟩ := hrel
        by_cases hlti : i < 32
        · have hlti2 : (i : Int) < 32 := by omega
          have g0 := block_cell i hC1 (hC4 i (Nat.le_refl _) hlti)
          have f0 := block_free i hC1
          have hx8 := xor8 (byL A i) (byL V i) (byL_lt _ _) (byL_lt _ _)
          have hVi := fun w => index32 (Lib.byteCells V).toArray i _ w hlti (cells_at (l := V) (j := i) (by rw [hVl]; exact hlti))
          have hnew := setCell_block (i := i) (u := .int .u8 ((byL A i ^^^ byL V i : Nat) : Int)) hC1
          have HN : Hid ((∃ C, (wr.setCell ⟨ub + 1, i, none⟩ (.int .u8 ((byL A i ^^^ byL V i : Nat) : Int))).heap[ub + 1]? = some (.cells C 54 (0, 0)) ∧ C.size = 32 ∧ (∀ j, j < i + 1 → C[j]? = some (.int .u8 ((byL A j ^^^ byL V j : Nat) : Int))) ∧ ∀ j, i + 1 ≤ j → j < 32 → C[j]? = some (.int .u8 (byL A j : Int))) ∧ (wr.setCell ⟨ub + 1, i, none⟩ (.int .u8 ((byL A i ^^^ byL V i : Nat) : Int))).heap[ub]? = some (.cells (Lib.byteCells V).toArray 54 (0, 0)) ∧ (wr.setCell ⟨ub + 1, i, none⟩ (.int .u8 ((byL A i ^^^ byL V i : Nat) : Int))).heap[w.heap.size]? = some (.cells zero32b 54 (0, 0)) ∧ Below w.heap.size w (wr.setCell ⟨ub + 1, i, none⟩ (.int .u8 ((byL A i ^^^ byL V i : Nat) : Int)))) := by
            refine ⟨⟨_, hnew, by simp [hC2], fun j hj => ?_, fun j hj1 hj2 => ?_⟩, block_other ⟨ub + 1, i, none⟩ _ hu (by show ub ≠ ub + 1; omega), block_other ⟨ub + 1, i, none⟩ _ hR (by show w.heap.size ≠ ub + 1; omega), hb.setCell (p := ⟨ub + 1, i, none⟩) (by show w.heap.size ≤ ub + 1; omega) _⟩
            · by_cases e : j = i
              · rw [e, Array.getElem?_setIfInBounds_self, if_pos (by omega)]
              · rw [Array.getElem?_setIfInBounds_ne (fun h => e h.symm)]
                exact hC3 j (by omega)
            · rw [Array.getElem?_setIfInBounds_ne (by omega)]
              exact hC4 j (by omega) hj2
          generalize byL A i ^^^ byL V i = XX at *
          generalize byL A i = YY at *
          generalize byL V i = ZZ at *
          clear hC1 hC2 hC3 hC4 hR hnew hu
          go_wp2_with fail
          go_roundw
          case rel => exact ⟨i + 1, by omega, by go_num, HN.out.1, HN.out.2.1, HN.out.2.2.1, HN.out.2.2.2⟩
          case measure => simp [intOf]; omega
        · have hlti2 : ¬ (i : Int) < 32 := by omega
          obtain rfl : i = 32 := by omega
          have hCx := cells_xor HAl.out.1 HAl.out.2.1 hC2 hC3
          have HC := show Hid (wr.heap[ub + 1]? = some (.cells (Lib.byteCells (itA m1 m2 U (r + 1))).toArray 54 (0, 0))) by unfold Hid; rw [HAV.out.2, ← hCx]; exact hC1
          clear hC1 hC2 hC3 hC4 hCx
          go_wp2_with fail
          go_roundw
          case rel => exact ⟨r + 1, by omega, by go_num, by rw [HAV.out.1]; exact hu, HC.out, hR, hb⟩
          case measure => simp [intOf]; omega
    · have hlt2 : ¬ (r : Int) < (rounds : Int) - 1 := by omega
      obtain rfl : r = rounds - 1 := by omega
      have hAl := itA_length (m1 := m1) (m2 := m2) hSl (rounds - 1)
      obtain ⟨A, hA⟩ : ∃ A, itA m1 m2 U (rounds - 1) = A := ⟨_, rfl⟩
      have HA := show Hid (itA m1 m2 U (rounds - 1) = A) from hA
      rw [hA] at ha hAl
      clear hA
      have hcl : (Lib.byteCells A).toArray.size = 32 := by rw [List.size_toArray]; simp [Lib.byteCells, hAl]
      have hi32 : (Tryd.prog.info? 54).map (·.size) = some (Lib.byteCells A).toArray.size := by rw [hcl]; kernel_rfl
      have hzs : zero32b.size = (Lib.byteCells A).toArray.size := by rw [hcl]; rfl
      have hone := sha_cells A
      go_wp2_with (first
        | refine wpList_load_row rfl 54 _ rfl (ub + 1) rfl _ (Lib.byteCells A).toArray _ _ ha Tryd.underlying54 rfl hi32 ?_
        | refine wpList_store_row rfl 54 _ _ rfl w.heap.size (Lib.byteCells A).toArray rfl (by simp [Act.eval, Act.put]) _ _ hR hi32 hzs hone ?_)
      refine bodyPost_ret (v := .agg (Lib.byteCells A).toArray) ?_ rfl ⟨by rw [HU.out, HA.out], below_setRow hb (Nat.le_refl _) _⟩
      exact results_cell_row rfl _ _ w.heap.size _ _ _ _ rfl (setRow_block hR) Tryd.underlying54 rfl hi32
end Go.Proofs.YtgehgcnaoapbbaaDoor
