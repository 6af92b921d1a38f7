/-
  Package hash: a key's block.
-/
import Derived.Test.YtgehgcnaoapbbaaDoorKHex
namespace Go.Proofs.YtgehgcnaoapbbaaDoor
open Go.RowKit Ch
set_option maxRecDepth 100000

/-- The bytes of a key's block, xored. -/
def padK (k : List UInt8) (pad : Nat) : List UInt8 := (List.range 64).map fun i => UInt8.ofNat (byL k i ^^^ pad)
theorem padK_length (k : List UInt8) (pad : Nat) : (padK k pad).length = 64 := by simp [padK]
def keyB (k : List UInt8) : List UInt8 := if 64 < k.length then shaL k else k
/-- The keyed digest. -/
def hmacL (k m : List UInt8) : List UInt8 := shaL (padK (keyB k) 92 ++ shaL (padK (keyB k) 54 ++ m))
theorem keyB_short (k : List UInt8) : (keyB k).length ≤ 64 := by
  unfold keyB
  split
  · rw [shaL_length]; omega
  · omega
theorem keyB_long {k : List UInt8} (h : 64 < k.length) : keyB (shaL k) = keyB k := by
  unfold keyB
  rw [if_pos h, if_neg (by rw [shaL_length]; omega)]
/-- What a value of a digest under way is worth: of m so far. -/
def DgV (D : Array Value) (m : List UInt8) (sz : Nat) : Prop := D.size = 74 ∧ D.all (·.oneCell') = true ∧ ∀ (db : Nat) (W : World), W.heap[db]? = some (.cells D 51 (0, 0)) → Dg db m sz W
theorem dgv_of {db : Nat} {m : List UInt8} {sz : Nat} {W : World} (h : Dg db m sz W) : ∃ D, W.heap[db]? = some (.cells D 51 (0, 0)) ∧ DgV D m sz := by
  obtain ⟨rest, h1, h2, h3⟩ := h
  refine ⟨_, h3, digC_size _ h1 _ _, ?_, fun db W hW => ⟨rest, h1, h2, hW⟩⟩
  refine Array.all_eq_true_iff_forall_mem.2 (fun v hv => ?_)
  have hv' : v ∈ digL (blocksS m (m.length / 64)) rest (m.length % 64) sz := by unfold digC at hv; simpa using hv
  unfold digL at hv'
  simp only [List.mem_cons, List.mem_append, List.not_mem_nil, or_false] at hv'
  rcases hv' with rfl | rfl | rfl | rfl | rfl | rfl | rfl | rfl | h | rfl | rfl
  all_goals first | rfl | skip
  obtain ⟨z, _, rfl⟩ := List.mem_map.1 h
  rfl
theorem zero64b_eq : zero64b = (List.replicate 64 (Value.int .u8 0)).toArray := rfl
set_option maxHeartbeats 8000000 in
theorem kPadded_any (x : Option Addr) (cap : Nat) (s : ByteArray) (pad : Nat) (w : World) (hp : pad < 256) (hs : s.size ≤ 64) (hB : IsBytes w (.slice x s.size cap) s) (hK : KTab w) :
    Calls Tryd.prog 32 #[.slice x s.size cap, .int .u8 (pad : Int)] w fun e w' => (∃ D, e = .returned (.agg D) ∧ DgV D (padK s.data.toList pad) 64) ∧ Below w.heap.size w w' := by
  obtain ⟨hz, hi⟩ := zero_of_info infoDig
  have hN0 := heap_push_at w (.cells zeroDig 51)
  have hN1 : ((w.alloc (.cells zeroDig 51)).alloc (.cells zero64b 48)).heap[w.heap.size + 1]? = some (.cells zero64b 48 (0, 0)) := by
    have := heap_push_at (w.alloc (.cells zeroDig 51)) (.cells zero64b 48)
    simpa using this
  have hR1 : ((w.alloc (.cells zeroDig 51)).alloc (.cells zero64b 48)).heap[w.heap.size]? = some (.cells zeroDig 51 (0, 0)) := block_alloc _ hN0
  have hb1 : Below w.heap.size w ((w.alloc (.cells zeroDig 51)).alloc (.cells zero64b 48)) := ((Below.refl _ w).alloc (Nat.le_refl _) _).alloc (by simp) _
  generalize hg : (w.alloc (.cells zeroDig 51)).alloc (.cells zero64b 48) = W1 at *
  -- what the copy leaves
  obtain ⟨W2, hcopy, hC2, hR2, hb2⟩ : ∃ W2, (Builtin.copy_ #[23, 23] 3 #[.slice (some ⟨w.heap.size + 1, 0, none⟩) 64 64, .slice x s.size cap]).run Tryd.prog W1 = .ok (.int .i64 (s.size : Int)) W2 ∧ (∃ C, W2.heap[w.heap.size + 1]? = some (.cells C 48 (0, 0)) ∧ C.size = 64 ∧ ∀ j, j < 64 → C[j]? = some (.int .u8 (byL s.data.toList j : Int))) ∧ W2.heap[w.heap.size]? = some (.cells zeroDig 51 (0, 0)) ∧ Below w.heap.size w W2 := by
    have hz64 : ∀ j, j < 64 → zero64b[j]? = some (.int .u8 0) := fun j hj => by rw [zero64b_eq, List.getElem?_toArray, List.getElem?_replicate, if_pos hj]
    by_cases h0 : s.size = 0
    · refine ⟨W1, ?_, ⟨zero64b, hN1, rfl, fun j hj => ?_⟩, hR1, hb1⟩
      · have := run_copy_none (P := Tryd.prog) W1 23 23 3 5 (some ⟨w.heap.size + 1, 0, none⟩) x 64 64 s.size cap Tryd.underlying23 (by kernel_rfl) (by rw [h0]; rfl)
        rw [this, h0]
        rfl
      · rw [hz64 j hj]
        unfold byL
        rw [List.getElem?_eq_none (by rw [len_eq]; omega)]
        rfl
    · have hB1 := hB.later hb1
      obtain ⟨b, o, rfl, _, _⟩ := hB.cellAt (i := 0) (by omega)
      have hrun := run_copy_row (P := Tryd.prog) W1 23 23 3 5 (w.heap.size + 1) 0 64 64 ⟨b, o, none⟩ s.size cap zero64b 48 (byteVals s) Tryd.underlying23 (by kernel_rfl) hN1 (by
          rw [byteVals_length]
          have e2 : Nat.min s.size 64 = min s.size 64 := rfl
          rw [e2]; omega) (fun j u hj => IsBytes.news hB1 j u hj) (by rw [byteVals_length]; show 0 + s.size ≤ 64; omega) (byteVals_one s)
      rw [byteVals_length] at hrun
      refine ⟨_, hrun, ⟨_, setRow_block hN1, ?_, fun j hj => ?_⟩, (setRow_other (by omega)).trans hR1, below_setRow hb1 (by omega) _⟩
      · rw [List.size_toArray]
        simp only [List.length_append, List.length_take, List.length_drop, byteVals_length]
        have : zero64b.toList.length = 64 := rfl
        omega
      · rw [List.getElem?_toArray, List.take_zero, List.nil_append, Nat.zero_add]
        by_cases hj2 : j < s.size
        · rw [List.getElem?_append_left (by rw [byteVals_length]; exact hj2)]
          unfold byteVals byL
          rw [List.getElem?_map, list_at s j hj2]
          rfl
        · rw [List.getElem?_append_right (by rw [byteVals_length]; omega), List.getElem?_drop, byteVals_length, show s.size + (j - s.size) = j by omega, Array.getElem?_toList, hz64 j hj]
          unfold byL
          rw [List.getElem?_eq_none (by rw [len_eq]; omega)]
          rfl
  have HX := show Hid ((∃ C, W2.heap[w.heap.size + 1]? = some (.cells C 48 (0, 0)) ∧ C.size = 64 ∧ ∀ j, j < 64 → C[j]? = some (.int .u8 (byL s.data.toList j : Int))) ∧ W2.heap[w.heap.size]? = some (.cells zeroDig 51 (0, 0)) ∧ Below w.heap.size w W2) from ⟨hC2, hR2, hb2⟩
  unfold zero64b at hg
  clear hN0 hN1 hR1 hC2 hR2 hb2
  go_enter Tryd.func32, Tryd.ntmps32
  go_wp2_with (at_builtin; go_must (rw [hg]; refine Go.Proofs.wpList_copy_runI W1 rfl _ _ 23 23 rfl _ _ rfl rfl hcopy ?_))
  have hBg0 := fun w => kBegin_any w
  have hi74 : (Tryd.prog.info? 51).map (·.size) = some (digC beginS (List.replicate 64 0) 0 0).size := hi
  have hone : (digC beginS (List.replicate 64 0) 0 0).all (·.oneCell') = true := by kernel_rfl
  have hzd : zeroDig.size = (digC beginS (List.replicate 64 0) 0 0).size := rfl
  have hDgb := fun (db : Nat) (W : World) => Dg_begin (db := db) (W := W)
  generalize digC beginS (List.replicate 64 0) 0 0 = DB at *
  clear hcopy hg hb1 hB
  go_loopw [11] (fun t wr => ∃ i : Nat, i ≤ 64 ∧ t = .int .i64 (i : Int) ∧ (∃ C, wr.heap[w.heap.size + 1]? = some (.cells C 48 (0, 0)) ∧ C.size = 64 ∧ (∀ j, j < i → C[j]? = some (.int .u8 ((byL s.data.toList j ^^^ pad : Nat) : Int))) ∧ ∀ j, i ≤ j → j < 64 → C[j]? = some (.int .u8 (byL s.data.toList j : Int))) ∧ wr.heap[w.heap.size]? = some (.cells zeroDig 51 (0, 0)) ∧ Below w.heap.size w wr) (fun t _ => 64 - (intOf t).toNat)
  case atStart =>
    obtain ⟨⟨C, h1, h2, h3⟩, h4, h5⟩ := HX.out
    exact ⟨0, by omega, rfl, ⟨C, h1, h2, fun j hj => absurd hj (Nat.not_lt_zero _), fun j _ hj => h3 j hj⟩, h4, h5⟩
  case round =>
    obtain ⟨i, hi2, rfl, ⟨C, hC1, hC2, hC3, hC4⟩, hR, hb⟩ := hrel
    by_cases hlt : i < 64
    · have hlt2 : (i : Int) < 64 := by omega
      have g0 := block_cell i hC1 (hC4 i (Nat.le_refl _) hlt)
      have f0 := block_free i hC1
      have hx8 := xor8 (byL s.data.toList i) pad (byL_lt _ _) hp
      have hnew := setCell_block (i := i) (u := .int .u8 ((byL s.data.toList i ^^^ pad : Nat) : Int)) hC1
      have HN : Hid ((∃ C, (wr.setCell ⟨w.heap.size + 1, i, none⟩ (.int .u8 ((byL s.data.toList i ^^^ pad : Nat) : Int))).heap[w.heap.size + 1]? = some (.cells C 48 (0, 0)) ∧ C.size = 64 ∧ (∀ j, j < i + 1 → C[j]? = some (.int .u8 ((byL s.data.toList j ^^^ pad : Nat) : Int))) ∧ ∀ j, i + 1 ≤ j → j < 64 → C[j]? = some (.int .u8 (byL s.data.toList j : Int))) ∧ (wr.setCell ⟨w.heap.size + 1, i, none⟩ (.int .u8 ((byL s.data.toList i ^^^ pad : Nat) : Int))).heap[w.heap.size]? = some (.cells zeroDig 51 (0, 0)) ∧ Below w.heap.size w (wr.setCell ⟨w.heap.size + 1, i, none⟩ (.int .u8 ((byL s.data.toList i ^^^ pad : Nat) : Int)))) := by
        refine ⟨⟨_, hnew, by simp [hC2], fun j hj => ?_, fun j hj1 hj2 => ?_⟩, block_other ⟨w.heap.size + 1, i, none⟩ _ hR (by show w.heap.size ≠ w.heap.size + 1; omega), hb.setCell (p := ⟨w.heap.size + 1, i, none⟩) (Nat.le_succ _) _⟩
        · by_cases e : j = i
          · rw [e, Array.getElem?_setIfInBounds_self, if_pos (by omega)]
          · rw [Array.getElem?_setIfInBounds_ne (fun h => e h.symm)]
            exact hC3 j (by omega)
        · rw [Array.getElem?_setIfInBounds_ne (by omega)]
          exact hC4 j (by omega) hj2
      generalize byL s.data.toList i ^^^ pad = XX at *
      generalize byL s.data.toList i = YY at *
      clear hC1 hC2 hC3 hC4 hR hnew
      go_wp2_with fail
      go_roundw
      case rel => exact ⟨i + 1, by omega, by go_num, HN.out.1, HN.out.2.1, HN.out.2.2⟩
      case measure => simp [intOf]; omega
    · have hlt2 : ¬ (i : Int) < 64 := by omega
      obtain rfl : i = 64 := by omega
      have hpk : C.toList = Lib.byteCells (padK s.data.toList pad) := by
        apply List.ext_getElem?
        intro j
        by_cases hj : j < 64
        · rw [Array.getElem?_toList, hC3 j hj]
          unfold Lib.byteCells padK
          rw [List.map_map, List.getElem?_map, List.getElem?_range hj]
          show _ = some (Value.int .u8 ((UInt8.ofNat (byL s.data.toList j ^^^ pad)).toNat : Int))
          rw [UInt8.toNat_ofNat', Nat.mod_eq_of_lt (Nat.xor_lt_two_pow (n := 8) (byL_lt _ _) hp)]
        · rw [List.getElem?_eq_none (by rw [Array.length_toList]; omega), List.getElem?_eq_none (by simp [Lib.byteCells, padK_length]; omega)]
      have hPB : wr.heap[w.heap.size + 1]? = some (.cells (Lib.byteCells (padK s.data.toList pad)).toArray 48 (0, 0)) := by rw [← hpk]; exact hC1
      have hIP := bytes_in hPB (padK_length _ _) (by omega)
      have hPL := padK_length s.data.toList pad
      obtain ⟨PK, hPK⟩ : ∃ PK, padK s.data.toList pad = PK := ⟨_, rfl⟩
      have HPK := show Hid (padK s.data.toList pad = PK) from hPK
      rw [hPK] at hIP hPL hPB
      clear hC1 hC2 hC3 hC4 hpk hPK
      go_wp2_with fail
      refine (hBg0 wr).mono ?_
      rintro e w1 ⟨rfl, hb1⟩
      have hN1 := heap_push_at w1 (.cells zeroDig 51)
      have hb2 : Below w1.heap.size w1 (w1.alloc (.cells zeroDig 51)) := (Below.refl _ w1).alloc (Nat.le_refl _) _
      have hD2 : Dg w1.heap.size [] 0 ((w1.alloc (.cells zeroDig 51)).setRow w1.heap.size DB) := hDgb _ _ (setRow_block hN1)
      have hb3 : Below w1.heap.size w1 ((w1.alloc (.cells zeroDig 51)).setRow w1.heap.size DB) := below_setRow hb2 (Nat.le_refl _) _
      have hs1 := hb1.size
      have hbr3 := hb1.trans (hb3.mono hs1)
      go_wp2_with (refine wpList_store_row rfl 51 _ _ rfl w1.heap.size DB rfl (by simp [Act.eval]) _ _ hN1 hi74 hzd hone ?_)
      have hz3 : ((w1.alloc (.cells zeroDig 51)).setRow w1.heap.size DB).heap.size = w1.heap.size + 1 := by rw [setRow_size]; simp
      generalize (w1.alloc (.cells zeroDig 51)).setRow w1.heap.size DB = W3 at *
      obtain ⟨db, hdb⟩ : ∃ db, w1.heap.size = db := ⟨_, rfl⟩
      rw [hdb] at hD2 hs1 hz3 ⊢
      have hwr : w.heap.size + 2 ≤ wr.heap.size := by have := block_lt hPB; omega
      have hb4 : Below wr.heap.size wr (W3.alloc (.cells #[.slice (some ⟨w.heap.size + 1, 0, none⟩) 64 64] 23)) := hbr3.alloc hbr3.size _
      have hN4 := heap_push_at W3 (.cells #[.slice (some ⟨w.heap.size + 1, 0, none⟩) 64 64] 23)
      rw [hz3] at hN4
      have hD4 := hD2.later ((Below.refl _ W3).alloc (Nat.le_refl _) (.cells #[.slice (some ⟨w.heap.size + 1, 0, none⟩) 64 64] 23))
      have hO4 : Off db (.slice (some ⟨w.heap.size + 1, 0, none⟩) 64 64) := by
        intro y _ _ h _
        simp only [Value.slice.injEq, Option.some.injEq] at h
        rw [← h.1]
        show w.heap.size + 1 ≠ db
        omega
      have hI4 : IsSlices db (W3.alloc (.cells #[.slice (some ⟨w.heap.size + 1, 0, none⟩) 64 64] 23)) (.slice (some ⟨db + 1, 0, none⟩) 1 1) [⟨PK.toArray⟩] := by
        refine ⟨_, 1, rfl, .inr ⟨db + 1, 0, rfl, by omega, block_lt hN4, fun i t ht => ?_⟩⟩
        rcases i with _ | i
        · simp only [List.getElem?_cons_zero, Option.some.injEq] at ht
          subst ht
          exact ⟨_, block_cell 0 hN4 rfl, hIP.later hb4, hO4⟩
        · cases ht
      have hK4 := (hK.later hb).later hb4
      have hne : db ≠ 0 := by have := hK.lt; omega
      have hfl : flatB [⟨PK.toArray⟩] = PK := by simp [flatB]
      have hAdd := kAdd_any db (.slice (some ⟨db + 1, 0, none⟩) 1 1) [⟨PK.toArray⟩] [] _ hD4 hI4 hK4 hne (by rw [hfl, hPL]; simp) (by simp)
      rw [List.nil_append, hfl, hPL] at hAdd
      refine hAdd.mono ?_
      rintro e w5 ⟨rfl, hD5, hk5⟩
      have hR5 : w5.heap[w.heap.size]? = some (.cells zeroDig 51 (0, 0)) := by
        have h1 := (hb4.block w.heap.size (by omega)).trans hR
        exact (hk5.block w.heap.size (block_lt h1) (by omega)).trans h1
      have hb5 : Below w.heap.size w w5 := (hb.trans (hb4.mono hb.size)).trans (hk5.below (by omega) (by have := hb.size; have := hb4.size; omega))
      obtain ⟨D, hD5a, hD5b⟩ := dgv_of hD5
      have hiD : (Tryd.prog.info? 51).map (·.size) = some D.size := by rw [hD5b.1]; exact hi
      have hzD : zeroDig.size = D.size := by rw [hD5b.1]; rfl
      have HDV := show Hid (DgV D PK 64) from hD5b
      have h1D := hD5b.2.1
      clear hAdd hD2 hD4 hI4 hD5 hD5b
      go_wp2_with (first
        | refine wpList_load_row rfl 51 _ rfl db rfl _ D _ _ hD5a Tryd.underlying51 rfl hiD ?_
        | refine wpList_store_row rfl 51 _ _ rfl w.heap.size D rfl (by simp [Act.eval, Act.put]) _ _ hR5 hiD hzD h1D ?_)
      refine bodyPost_ret (v := .agg D) ?_ rfl ⟨⟨D, rfl, by rw [HPK.out]; exact HDV.out⟩, below_setRow hb5 (Nat.le_refl _) _⟩
      exact results_cell_row rfl _ _ w.heap.size _ _ _ _ rfl (setRow_block hR5) Tryd.underlying51 rfl hiD
end Go.Proofs.YtgehgcnaoapbbaaDoor
