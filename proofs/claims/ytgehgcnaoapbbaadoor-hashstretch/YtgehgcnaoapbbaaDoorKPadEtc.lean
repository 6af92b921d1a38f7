/-
  Package hash: a key's block.
  A region that draws its order, without its orders: what each operation leaves is said once (Sem), of whatever world comes later; no order is walked. Of no layer alone.
  A region that draws its order, one operation of which (z) writes into a row that is owned (an append): without its orders. Of no layer alone.
-/
import Derived.Test.YtgehgcnaoapbbaaDoorKHex
import Derived.Test.YtgehgcnaoapbbaaDoorGen2
import Derived.OrdersHeld
import Derived.StillTail
import Derived.Deep.RegionWith
namespace Go.Proofs.YtgehgcnaoapbbaaDoor
open Go.RowKit Ch
set_option maxRecDepth 100000

/-- The bytes of a key's block, xored. -/
def padK (k : List UInt8) (pad : Nat) : List UInt8 := (List.range 64).map fun i => UInt8.ofNat (byL k i ^^^ pad)
theorem padK_length (k : List UInt8) (pad : Nat) : (padK k pad).length = 64 := by simp [padK]
def keyB (k : List UInt8) : List UInt8 := if 64 < k.length then shaL k else k
/-- The keyed digest. -/
def hmacL (k m : List UInt8) : List UInt8 := shaL (padK (keyB k) 92 ++ shaL (padK (keyB k) 54 ++ m))
theorem keyB_short (k : List UInt8) : (keyB k).length ≤ 64 := by
  unfold keyB
  split
  · rw [shaL_length]; omega
  · omega
theorem keyB_long {k : List UInt8} (h : 64 < k.length) : keyB (shaL k) = keyB k := by
  unfold keyB
  rw [if_pos h, if_neg (by rw [shaL_length]; omega)]
/-- What a value of a digest under way is worth: of m so far. -/
def DgV (D : Array Value) (m : List UInt8) (sz : Nat) : Prop := D.size = 74 ∧ D.all (·.oneCell') = true ∧ ∀ (db : Nat) (W : World), W.heap[db]? = some (.cells D 51 (0, 0)) → Dg db m sz W
theorem dgv_of {db : Nat} {m : List UInt8} {sz : Nat} {W : World} (h : Dg db m sz W) : ∃ D, W.heap[db]? = some (.cells D 51 (0, 0)) ∧ DgV D m sz := by
  obtain ⟨rest, h1, h2, h3⟩ := h
  refine ⟨_, h3, digC_size _ h1 _ _, ?_, fun db W hW => ⟨rest, h1, h2, hW⟩⟩
  refine Array.all_eq_true_iff_forall_mem.2 (fun v hv => ?_)
  have hv' : v ∈ digL (blocksS m (m.length / 64)) rest (m.length % 64) sz := by unfold digC at hv; simpa using hv
  unfold digL at hv'
  simp only [List.mem_cons, List.mem_append, List.not_mem_nil, or_false] at hv'
  rcases hv' with rfl | rfl | rfl | rfl | rfl | rfl | rfl | rfl | h | rfl | rfl
  all_goals first | rfl | skip
  obtain ⟨z, _, rfl⟩ := List.mem_map.1 h
  rfl
theorem zero64b_eq : zero64b = (List.replicate 64 (Value.int .u8 0)).toArray := rfl
set_option maxHeartbeats 8000000 in
theorem kPadded_any (x : Option Addr) (cap : Nat) (s : ByteArray) (pad : Nat) (w : World) (hp : pad < 256) (hs : s.size ≤ 64) (hB : IsBytes w (.slice x s.size cap) s) (hK : KTab w) :
    Calls Tryd.prog 32 #[.slice x s.size cap, .int .u8 (pad : Int)] w fun e w' => (∃ D, e = .returned (.agg D) ∧ DgV D (padK s.data.toList pad) 64) ∧ Below w.heap.size w w' := by
  obtain ⟨hz, hi⟩ := zero_of_info infoDig
  have hN0 := heap_push_at w (.cells zeroDig 51)
  have hN1 : ((w.alloc (.cells zeroDig 51)).alloc (.cells zero64b 48)).heap[w.heap.size + 1]? = some (.cells zero64b 48 (0, 0)) := by
    have := heap_push_at (w.alloc (.cells zeroDig 51)) (.cells zero64b 48)
    simpa using this
  have hR1 : ((w.alloc (.cells zeroDig 51)).alloc (.cells zero64b 48)).heap[w.heap.size]? = some (.cells zeroDig 51 (0, 0)) := block_alloc _ hN0
  have hb1 : Below w.heap.size w ((w.alloc (.cells zeroDig 51)).alloc (.cells zero64b 48)) := ((Below.refl _ w).alloc (Nat.le_refl _) _).alloc (by simp) _
  generalize hg : (w.alloc (.cells zeroDig 51)).alloc (.cells zero64b 48) = W1 at *
  -- what the copy leaves
  obtain ⟨W2, hcopy, hC2, hR2, hb2⟩ : ∃ W2, (Builtin.copy_ #[23, 23] 3 #[.slice (some ⟨w.heap.size + 1, 0, none⟩) 64 64, .slice x s.size cap]).run Tryd.prog W1 = .ok (.int .i64 (s.size : Int)) W2 ∧ (∃ C, W2.heap[w.heap.size + 1]? = some (.cells C 48 (0, 0)) ∧ C.size = 64 ∧ ∀ j, j < 64 → C[j]? = some (.int .u8 (byL s.data.toList j : Int))) ∧ W2.heap[w.heap.size]? = some (.cells zeroDig 51 (0, 0)) ∧ Below w.heap.size w W2 := by
    have hz64 : ∀ j, j < 64 → zero64b[j]? = some (.int .u8 0) := fun j hj => by rw [zero64b_eq, List.getElem?_toArray, List.getElem?_replicate, if_pos hj]
    by_cases h0 : s.size = 0
    · refine ⟨W1, ?_, ⟨zero64b, hN1, rfl, fun j hj => ?_⟩, hR1, hb1⟩
      · have := run_copy_none (P := Tryd.prog) W1 23 23 3 5 (some ⟨w.heap.size + 1, 0, none⟩) x 64 64 s.size cap Tryd.underlying23 (by kernel_rfl) (by rw [h0]; rfl)
        rw [this, h0]
        rfl
      · rw [hz64 j hj]
        unfold byL
        rw [List.getElem?_eq_none (by rw [len_eq]; omega)]
        rfl
    · have hB1 := hB.later hb1
      obtain ⟨b, o, rfl, _, _⟩ := hB.cellAt (i := 0) (by omega)
      have hrun := run_copy_row (P := Tryd.prog) W1 23 23 3 5 (w.heap.size + 1) 0 64 64 ⟨b, o, none⟩ s.size cap zero64b 48 (byteVals s) Tryd.underlying23 (by kernel_rfl) hN1 (by
          rw [byteVals_length]
          have e2 : Nat.min s.size 64 = min s.size 64 := rfl
          rw [e2]; omega) (fun j u hj => IsBytes.news hB1 j u hj) (by rw [byteVals_length]; show 0 + s.size ≤ 64; omega) (byteVals_one s)
      rw [byteVals_length] at hrun
      refine ⟨_, hrun, ⟨_, setRow_block hN1, ?_, fun j hj => ?_⟩, (setRow_other (by omega)).trans hR1, below_setRow hb1 (by omega) _⟩
      · rw [List.size_toArray]
        simp only [List.length_append, List.length_take, List.length_drop, byteVals_length]
        have : zero64b.toList.length = 64 := rfl
        omega
      · rw [List.getElem?_toArray, List.take_zero, List.nil_append, Nat.zero_add]
        by_cases hj2 : j < s.size
        · rw [List.getElem?_append_left (by rw [byteVals_length]; exact hj2)]
          unfold byteVals byL
          rw [List.getElem?_map, list_at s j hj2]
          rfl
        · rw [List.getElem?_append_right (by rw [byteVals_length]; omega), List.getElem?_drop, byteVals_length, show s.size + (j - s.size) = j by omega, Array.getElem?_toList, hz64 j hj]
          unfold byL
          rw [List.getElem?_eq_none (by rw [len_eq]; omega)]
          rfl
  have HX := show Hid ((∃ C, W2.heap[w.heap.size + 1]? = some (.cells C 48 (0, 0)) ∧ C.size = 64 ∧ ∀ j, j < 64 → C[j]? = some (.int .u8 (byL s.data.toList j : Int))) ∧ W2.heap[w.heap.size]? = some (.cells zeroDig 51 (0, 0)) ∧ Below w.heap.size w W2) from ⟨hC2, hR2, hb2⟩
  unfold zero64b at hg
  clear hN0 hN1 hR1 hC2 hR2 hb2
  go_enter Tryd.func32, Tryd.ntmps32
  go_wp2_with (at_builtin; go_must (rw [hg]; refine Go.Proofs.wpList_copy_runI W1 rfl _ _ 23 23 rfl _ _ rfl rfl hcopy ?_))
  have hBg0 := fun w => kBegin_any w
  have hi74 : (Tryd.prog.info? 51).map (·.size) = some (digC beginS (List.replicate 64 0) 0 0).size := hi
  have hone : (digC beginS (List.replicate 64 0) 0 0).all (·.oneCell') = true := by kernel_rfl
  have hzd : zeroDig.size = (digC beginS (List.replicate 64 0) 0 0).size := rfl
  have hDgb := fun (db : Nat) (W : World) => Dg_begin (db := db) (W := W)
  generalize digC beginS (List.replicate 64 0) 0 0 = DB at *
  clear hcopy hg hb1 hB
  go_loopw [11] (fun t wr => ∃ i : Nat, i ≤ 64 ∧ t = .int .i64 (i : Int) ∧ (∃ C, wr.heap[w.heap.size + 1]? = some (.cells C 48 (0, 0)) ∧ C.size = 64 ∧ (∀ j, j < i → C[j]? = some (.int .u8 ((byL s.data.toList j ^^^ pad : Nat) : Int))) ∧ ∀ j, i ≤ j → j < 64 → C[j]? = some (.int .u8 (byL s.data.toList j : Int))) ∧ wr.heap[w.heap.size]? = some (.cells zeroDig 51 (0, 0)) ∧ Below w.heap.size w wr) (fun t _ => 64 - (intOf t).toNat)
  case atStart =>
    obtain ⟨⟨C, h1, h2, h3⟩, h4, h5⟩ := HX.out
    exact ⟨0, by omega, rfl, ⟨C, h1, h2, fun j hj => absurd hj (Nat.not_lt_zero _), fun j _ hj => h3 j hj⟩, h4, h5⟩
  case round =>
    obtain ⟨i, hi2, rfl, ⟨C, hC1, hC2, hC3, hC4⟩, hR, hb⟩ := hrel
    by_cases hlt : i < 64
    · have hlt2 : (i : Int) < 64 := by omega
      have g0 := block_cell i hC1 (hC4 i (Nat.le_refl _) hlt)
      have f0 := block_free i hC1
      have hx8 := xor8 (byL s.data.toList i) pad (byL_lt _ _) hp
      have hnew := setCell_block (i := i) (u := .int .u8 ((byL s.data.toList i ^^^ pad : Nat) : Int)) hC1
      have HN : Hid ((∃ C, (wr.setCell ⟨w.heap.size + 1, i, none⟩ (.int .u8 ((byL s.data.toList i ^^^ pad : Nat) : Int))).heap[w.heap.size + 1]? = some (.cells C 48 (0, 0)) ∧ C.size = 64 ∧ (∀ j, j < i + 1 → C[j]? = some (.int .u8 ((byL s.data.toList j ^^^ pad : Nat) : Int))) ∧ ∀ j, i + 1 ≤ j → j < 64 → C[j]? = some (.int .u8 (byL s.data.toList j : Int))) ∧ (wr.setCell ⟨w.heap.size + 1, i, none⟩ (.int .u8 ((byL s.data.toList i ^^^ pad : Nat) : Int))).heap[w.heap.size]? = some (.cells zeroDig 51 (0, 0)) ∧ Below w.heap.size w (wr.setCell ⟨w.heap.size + 1, i, none⟩ (.int .u8 ((byL s.data.toList i ^^^ pad : Nat) : Int)))) := by
        refine ⟨⟨_, hnew, by simp [hC2], fun j hj => ?_, fun j hj1 hj2 => ?_⟩, block_other ⟨w.heap.size + 1, i, none⟩ _ hR (by show w.heap.size ≠ w.heap.size + 1; omega), hb.setCell (p := ⟨w.heap.size + 1, i, none⟩) (Nat.le_succ _) _⟩
        · by_cases e : j = i
          · rw [e, Array.getElem?_setIfInBounds_self, if_pos (by omega)]
          · rw [Array.getElem?_setIfInBounds_ne (fun h => e h.symm)]
            exact hC3 j (by omega)
        · rw [Array.getElem?_setIfInBounds_ne (by omega)]
          exact hC4 j (by omega) hj2
      generalize byL s.data.toList i ^^^ pad = XX at *
      generalize byL s.data.toList i = YY at *
      clear hC1 hC2 hC3 hC4 hR hnew
      go_wp2_with fail
      go_roundw
      case rel => exact ⟨i + 1, by omega, by go_num, HN.out.1, HN.out.2.1, HN.out.2.2⟩
      case measure => simp [intOf]; omega
    · have hlt2 : ¬ (i : Int) < 64 := by omega
      obtain rfl : i = 64 := by omega
      have hpk : C.toList = Lib.byteCells (padK s.data.toList pad) := by
        apply List.ext_getElem?
        intro j
        by_cases hj : j < 64
        · rw [Array.getElem?_toList, hC3 j hj]
          unfold Lib.byteCells padK
          rw [List.map_map, List.getElem?_map, List.getElem?_range hj]
          show _ = some (Value.int .u8 ((UInt8.ofNat (byL s.data.toList j ^^^ pad)).toNat : Int))
          rw [UInt8.toNat_ofNat', Nat.mod_eq_of_lt (Nat.xor_lt_two_pow (n := 8) (byL_lt _ _) hp)]
        · rw [List.getElem?_eq_none (by rw [Array.length_toList]; omega), List.getElem?_eq_none (by simp [Lib.byteCells, padK_length]; omega)]
      have hPB : wr.heap[w.heap.size + 1]? = some (.cells (Lib.byteCells (padK s.data.toList pad)).toArray 48 (0, 0)) := by rw [← hpk]; exact hC1
      have hIP := bytes_in hPB (padK_length _ _) (by omega)
      have hPL := padK_length s.data.toList pad
      obtain ⟨PK, hPK⟩ : ∃ PK, padK s.data.toList pad = PK := ⟨_, rfl⟩
      have HPK := show Hid (padK s.data.toList pad = PK) from hPK
      rw [hPK] at hIP hPL hPB
      clear hC1 hC2 hC3 hC4 hpk hPK
      go_wp2_with fail
      refine (hBg0 wr).mono ?_
      rintro e w1 ⟨rfl, hb1⟩
      have hN1 := heap_push_at w1 (.cells zeroDig 51)
      have hb2 : Below w1.heap.size w1 (w1.alloc (.cells zeroDig 51)) := (Below.refl _ w1).alloc (Nat.le_refl _) _
      have hD2 : Dg w1.heap.size [] 0 ((w1.alloc (.cells zeroDig 51)).setRow w1.heap.size DB) := hDgb _ _ (setRow_block hN1)
      have hb3 : Below w1.heap.size w1 ((w1.alloc (.cells zeroDig 51)).setRow w1.heap.size DB) := below_setRow hb2 (Nat.le_refl _) _
      have hs1 := hb1.size
      have hbr3 := hb1.trans (hb3.mono hs1)
      go_wp2_with (refine wpList_store_row rfl 51 _ _ rfl w1.heap.size DB rfl (by simp [Act.eval]) _ _ hN1 hi74 hzd hone ?_)
      have hz3 : ((w1.alloc (.cells zeroDig 51)).setRow w1.heap.size DB).heap.size = w1.heap.size + 1 := by rw [setRow_size]; simp
      generalize (w1.alloc (.cells zeroDig 51)).setRow w1.heap.size DB = W3 at *
      obtain ⟨db, hdb⟩ : ∃ db, w1.heap.size = db := ⟨_, rfl⟩
      rw [hdb] at hD2 hs1 hz3 ⊢
      have hwr : w.heap.size + 2 ≤ wr.heap.size := by have := block_lt hPB; omega
      have hb4 : Below wr.heap.size wr (W3.alloc (.cells #[.slice (some ⟨w.heap.size + 1, 0, none⟩) 64 64] 23)) := hbr3.alloc hbr3.size _
      have hN4 := heap_push_at W3 (.cells #[.slice (some ⟨w.heap.size + 1, 0, none⟩) 64 64] 23)
      rw [hz3] at hN4
      have hD4 := hD2.later ((Below.refl _ W3).alloc (Nat.le_refl _) (.cells #[.slice (some ⟨w.heap.size + 1, 0, none⟩) 64 64] 23))
      have hO4 : Off db (.slice (some ⟨w.heap.size + 1, 0, none⟩) 64 64) := by
        intro y _ _ h _
        simp only [Value.slice.injEq, Option.some.injEq] at h
        rw [← h.1]
        show w.heap.size + 1 ≠ db
        omega
      have hI4 : IsSlices db (W3.alloc (.cells #[.slice (some ⟨w.heap.size + 1, 0, none⟩) 64 64] 23)) (.slice (some ⟨db + 1, 0, none⟩) 1 1) [⟨PK.toArray⟩] := by
        refine ⟨_, 1, rfl, .inr ⟨db + 1, 0, rfl, by omega, block_lt hN4, fun i t ht => ?_⟩⟩
        rcases i with _ | i
        · simp only [List.getElem?_cons_zero, Option.some.injEq] at ht
          subst ht
          exact ⟨_, block_cell 0 hN4 rfl, hIP.later hb4, hO4⟩
        · cases ht
      have hK4 := (hK.later hb).later hb4
      have hne : db ≠ 0 := by have := hK.lt; omega
      have hfl : flatB [⟨PK.toArray⟩] = PK := by simp [flatB]
      have hAdd := kAdd_any db (.slice (some ⟨db + 1, 0, none⟩) 1 1) [⟨PK.toArray⟩] [] _ hD4 hI4 hK4 hne (by rw [hfl, hPL]; simp) (by simp)
      rw [List.nil_append, hfl, hPL] at hAdd
      refine hAdd.mono ?_
      rintro e w5 ⟨rfl, hD5, hk5⟩
      have hR5 : w5.heap[w.heap.size]? = some (.cells zeroDig 51 (0, 0)) := by
        have h1 := (hb4.block w.heap.size (by omega)).trans hR
        exact (hk5.block w.heap.size (block_lt h1) (by omega)).trans h1
      have hb5 : Below w.heap.size w w5 := (hb.trans (hb4.mono hb.size)).trans (hk5.below (by omega) (by have := hb.size; have := hb4.size; omega))
      obtain ⟨D, hD5a, hD5b⟩ := dgv_of hD5
      have hiD : (Tryd.prog.info? 51).map (·.size) = some D.size := by rw [hD5b.1]; exact hi
      have hzD : zeroDig.size = D.size := by rw [hD5b.1]; rfl
      have HDV := show Hid (DgV D PK 64) from hD5b
      have h1D := hD5b.2.1
      clear hAdd hD2 hD4 hI4 hD5 hD5b
      go_wp2_with (first
        | refine wpList_load_row rfl 51 _ rfl db rfl _ D _ _ hD5a Tryd.underlying51 rfl hiD ?_
        | refine wpList_store_row rfl 51 _ _ rfl w.heap.size D rfl (by simp [Act.eval, Act.put]) _ _ hR5 hiD hzD h1D ?_)
      refine bodyPost_ret (v := .agg D) ?_ rfl ⟨⟨D, rfl, by rw [HPK.out]; exact HDV.out⟩, below_setRow hb5 (Nat.le_refl _) _⟩
      exact results_cell_row rfl _ _ w.heap.size _ _ _ _ rfl (setRow_block hR5) Tryd.underlying51 rfl hiD
end Go.Proofs.YtgehgcnaoapbbaaDoor

namespace Go.Proofs.YtgehgcnaoapbbaaDoor
open Go.RowKit
set_option maxRecDepth 100000

section
variable {P : Program} {ops : Array Oper} {Q : Exit → Act → World → Prop} {md : Region.Mode}

/-- What is known ahead of operation i: the slots that no operation writes are as they were; those of the operations that it waits for are told by Sem. -/
structure FreeIn (md : Region.Mode) (ops : Array Oper) (Sem : Nat → Value → World → Prop) (a0 : Act) (o : Oper) (a : Act) (w : World) : Prop where
  size : a.tmps.size = a0.tmps.size
  defers : a.defers = a0.defers
  out : ∀ k, (ops.toList.all fun o => !(o.dst == some k)) = true → a.tmps[k]? = a0.tmps[k]?
  dep : ∀ i d, (o.after.toList.any fun e => Region.binds md e && e.on == i) = true → ((ops[i]?).bind (·.dst)) = some d → ∃ v, a.tmps[d]? = some v ∧ Sem i v w
/-- What is known of a region under way. -/
structure FreeAt (ops : Array Oper) (Sem : Nat → Value → World → Prop) (a0 : Act) (listed : Array Bool) (a : Act) (w : World) : Prop where
  size : a.tmps.size = a0.tmps.size
  defers : a.defers = a0.defers
  lsize : listed.size = ops.size
  out : ∀ k, (ops.toList.all fun o => !(o.dst == some k)) = true → a.tmps[k]? = a0.tmps[k]?
  done : ∀ i d, listed.getD i false = true → ((ops[i]?).bind (·.dst)) = some d → ∃ v, a.tmps[d]? = some v ∧ Sem i v w
def leftN (ops : Array Oper) (listed : Array Bool) : List Nat := (List.range ops.size).filter fun i => !listed.getD i true
theorem leftN_set {listed : Array Bool} {i : Nat} (h : i ∈ leftN ops listed) (hl : listed.size = ops.size) : (leftN ops (listed.setIfInBounds i true)).length < (leftN ops listed).length := by
  have e : leftN ops (listed.setIfInBounds i true) = (leftN ops listed).filter fun k => k != i := by
    unfold leftN
    rw [List.filter_filter]
    apply List.filter_congr
    intro k _
    by_cases hk : k = i
    · subst hk
      have : k < listed.size := by
        have := (List.mem_filter.1 h).1
        rw [List.mem_range] at this
        omega
      simp [this]
    · have : (k != i) = true := by simpa using hk
      rw [this]
      simp [Ne.symm hk]
  rw [e]
  refine (List.length_filter_lt_length_iff_exists).2 ⟨i, h, by simp⟩
theorem mem_left {listed : Array Bool} {i : Nat} : i ∈ leftN ops listed ↔ i < ops.size ∧ listed.getD i true = false := by
  unfold leftN
  rw [List.mem_filter, List.mem_range]
  simp
/-- No operation waits for a later one. -/
def Region.inRow (md : Region.Mode) (ops : Array Oper) : Bool := (List.range ops.size).all fun i => match ops[i]? with
  | some o => o.after.toList.all fun e => !Region.binds md e || decide (e.on < i)
  | none => true
theorem all_listed (hrow : Region.inRow md ops = true) {listed : Array Bool} (hl : listed.size = ops.size) (hr : Region.ready md ops listed = []) : ∀ i, i < ops.size → listed.getD i false = true := by
  intro i
  induction i using Nat.strongRecOn with
  | _ i ih =>
    intro hi
    apply Classical.byContradiction
    intro hn
    have hf : listed.getD i true = false := by
      have : i < listed.size := by omega
      simp [this] at hn ⊢
      exact hn
    have : i ∈ Region.ready md ops listed := by
      rw [mem_ready]
      refine ⟨hf, ops[i], by simp [hi], fun e he hb => ?_⟩
      have h1 := List.all_eq_true.1 hrow i (List.mem_range.2 hi)
      rw [show ops[i]? = some ops[i] by simp [hi]] at h1
      have h2 := List.all_eq_true.1 h1 e (by simpa using he)
      rw [hb] at h2
      have h3 : e.on < i := by simpa using h2
      have := ih e.on h3 (by omega)
      exact this
    rw [hr] at this
    cases this
/-- No two operations write one slot; all slots are there. -/
def Region.apartD (ops : Array Oper) (n : Nat) : Bool := (List.range ops.size).all fun i => (match (ops[i]?).bind (·.dst) with
  | some d => decide (d < n)
  | none => true) && (List.range ops.size).all fun j => i == j || match (ops[i]?).bind (·.dst), (ops[j]?).bind (·.dst) with
  | some d, some e => !(d == e)
  | _, _ => true
theorem free_any {Sem : Nat → Value → World → Prop} {a0 : Act} {w0 : World} {n0 : Nat} (hrow : Region.inRow md ops = true) (hap : Region.apartD ops a0.tmps.size = true)
    (hmono : ∀ i v u u', Sem i v u → Below u.heap.size u u' → Sem i v u')
    (hstep : ∀ i o a w, ops[i]? = some o → FreeIn md ops Sem a0 o a w → Below n0 w0 w → wpOp P ops Q i (fun b u => ∃ v, b = a.put o.dst v ∧ Sem i v u ∧ Below w.heap.size w u) a w)
    (hfin : ∀ a w, FreeAt ops Sem a0 (Array.replicate ops.size true) a w → Below n0 w0 w → Q .normal a w) (hn0 : n0 ≤ w0.heap.size) :
    ∀ n listed a w, (leftN ops listed).length ≤ n → FreeAt ops Sem a0 listed a w → Below n0 w0 w → wpAny P md ops Q n listed a w := by
  have hend : ∀ listed a w, Region.ready md ops listed = [] → FreeAt ops Sem a0 listed a w → Below n0 w0 w → Q .normal a w := by
    intro listed a w hr hF hb
    refine hfin a w ⟨hF.size, hF.defers, by simp, hF.out, fun i d _ hd => hF.done i d ?_ hd⟩ hb
    refine all_listed hrow hF.lsize hr i ?_
    apply Classical.byContradiction
    intro h
    rw [Array.getElem?_eq_none (by omega)] at hd
    cases hd
  intro n
  induction n with
  | zero =>
    intro listed a w hn hF hb
    have hr : Region.ready md ops listed = [] := by
      apply List.eq_nil_iff_forall_not_mem.2
      intro i hi
      obtain ⟨h1, o, ho, _⟩ := mem_ready.1 hi
      have : i ∈ leftN ops listed := mem_left.2 ⟨(Array.getElem?_eq_some_iff.1 ho).1, h1⟩
      have h0 : leftN ops listed = [] := List.eq_nil_of_length_eq_zero (by omega)
      rw [h0] at this
      cases this
    exact ⟨hr, hend _ _ _ hr hF hb⟩
  | succ n ih =>
    intro listed a w hn hF hb
    refine ⟨fun hr => hend _ _ _ hr hF hb, fun i hi => ?_⟩
    obtain ⟨h1, o, ho, hall⟩ := mem_ready.1 hi
    have hio : i < ops.size := (Array.getElem?_eq_some_iff.1 ho).1
    have hil : i < listed.size := by rw [hF.lsize]; exact hio
    have hIn : FreeIn md ops Sem a0 o a w := ⟨hF.size, hF.defers, hF.out, fun k d hk hd => by
      obtain ⟨e, he, h2⟩ : ∃ e ∈ o.after, (Region.binds md e && e.on == k) = true := by
        obtain ⟨e, he, h2⟩ := List.any_eq_true.1 hk
        exact ⟨e, by simpa using he, h2⟩
      rw [Bool.and_eq_true, beq_iff_eq] at h2
      obtain ⟨h2, rfl⟩ := h2
      exact hF.done e.on d (hall e he h2) hd⟩
    refine wpOp_mono (fun b u h => ?_) (hstep i o a w ho hIn hb)
    obtain ⟨v, rfl, hS, hbu⟩ := h
    refine ih _ _ _ (by have := leftN_set (mem_left.2 ⟨hio, h1⟩) hF.lsize; omega) ?_ (hb.trans (hbu.mono (Nat.le_trans hn0 hb.size)))
    have hA := List.all_eq_true.1 hap i (List.mem_range.2 hio)
    rw [Bool.and_eq_true] at hA
    obtain ⟨hA1, hA2⟩ := hA
    rw [ho, Option.bind_some] at hA1
    refine ⟨?_, ?_, by simp [hF.lsize], fun k hk => ?_, fun j d hj hd => ?_⟩
    · unfold Act.put
      split
      · simp [hF.size]
      · exact hF.size
    · unfold Act.put
      split <;> exact hF.defers
    · have := List.all_eq_true.1 hk o (by simpa using Array.mem_of_getElem? ho)
      unfold Act.put
      split
      · rename_i d hd
        rw [hd] at this
        have hdk : d ≠ k := by simpa using this
        show (a.tmps.setIfInBounds d v)[k]? = _
        rw [Array.getElem?_setIfInBounds_ne hdk]
        exact hF.out k hk
      · exact hF.out k hk
    · by_cases hji : j = i
      · subst hji
        rw [ho] at hd
        have hd' : o.dst = some d := hd
        rw [hd'] at hA1
        have hdn : d < a0.tmps.size := by simpa using hA1
        refine ⟨v, ?_, hS⟩
        unfold Act.put
        rw [hd']
        show (a.tmps.setIfInBounds d v)[d]? = _
        rw [Array.getElem?_setIfInBounds_self, if_pos (by rw [hF.size]; exact hdn)]
      · have hj2 : listed.getD j false = true := by
          have : (listed.setIfInBounds i true)[j]? = listed[j]? := Array.getElem?_setIfInBounds_ne (Ne.symm hji)
          simpa [this] using hj
        obtain ⟨v', h5, h6⟩ := hF.done j d hj2 hd
        refine ⟨v', ?_, hmono _ _ _ _ h6 hbu⟩
        unfold Act.put
        split
        · rename_i d' hd'
          have hne : d' ≠ d := by
            have hjo : j < ops.size := by
              apply Classical.byContradiction
              intro h
              rw [Array.getElem?_eq_none (by omega)] at hd
              cases hd
            have h7 := List.all_eq_true.1 hA2 j (List.mem_range.2 hjo)
            rw [ho, hd] at h7
            have hib : (i == j) = false := by simpa using Ne.symm hji
            rw [hib] at h7
            simp only [Option.bind_some, hd', Bool.false_or] at h7
            simpa using h7
          show (a.tmps.setIfInBounds d' v)[d]? = _
          rw [Array.getElem?_setIfInBounds_ne hne]
          exact h5
        · exact h5
theorem free_region {id : Nat} {Sem : Nat → Value → World → Prop} {a0 : Act} {w : World} (hm : P.follows .mixedOrders = true) {n : Nat} (hrow : Region.inRow .any ops = true) (hsz : a0.tmps.size = n) (hap : Region.apartD ops n = true)
    (hmono : ∀ i v u u', Sem i v u → Below u.heap.size u u' → Sem i v u')
    (hstep : ∀ i o a u, ops[i]? = some o → FreeIn .any ops Sem a0 o a u → Below w.drew.heap.size w.drew u → wpOp P ops Q i (fun b u' => ∃ v, b = a.put o.dst v ∧ Sem i v u' ∧ Below u.heap.size u u') a u)
    (hfin : ∀ a u, FreeAt ops Sem a0 (Array.replicate ops.size true) a u → Below w.drew.heap.size w.drew u → Q .normal a u) : (Code.region id ops true).wp P Q a0 w :=
  wp_region_any hm (free_any hrow (by rw [hsz]; exact hap) hmono hstep hfin (Nat.le_refl _) _ _ _ _ (by unfold leftN; exact Nat.le_trans (List.length_filter_le _ _) (by simp)) ⟨rfl, rfl, by simp, fun _ _ => rfl, fun i d h _ => by
    simp [Array.getElem?_replicate] at h
    split at h <;> simp_all⟩ (Below.refl _ _))
/-- The slots written one behind the other. -/
def putFrom (vs : Nat → Value) : Act → List Oper → Nat → Act
  | a, [], _ => a
  | a, o :: os, i => putFrom vs (a.put o.dst (vs i)) os (i + 1)
theorem putFrom_eq {a : Act} (vs : Nat → Value) : ∀ (os : List Oper) (i : Nat) (b : Act), (∀ j d, ((os[j]?).bind (·.dst)) = some d → d < a.tmps.size → a.tmps[d]? = some (vs (i + j))) → b.tmps.size = a.tmps.size → b.defers = a.defers →
    (∀ k, (os.all fun o => !(o.dst == some k)) = true → b.tmps[k]? = a.tmps[k]?) → putFrom vs b os i = a
  | [], i, b, _, h1, h2, h3 => by
    have : b.tmps = a.tmps := Array.ext_getElem? fun k => h3 k rfl
    cases a; cases b
    simp only at this h2
    rw [putFrom, this, h2]
  | o :: os, i, b, hv, h1, h2, h3 => by
    rw [putFrom]
    refine putFrom_eq vs os (i + 1) _ (fun j d hj hd => ?_) ?_ ?_ (fun k hk => ?_)
    · have := hv (j + 1) d (by simpa using hj) hd
      rw [this, show i + (j + 1) = i + 1 + j by omega]
    · unfold Act.put
      split
      · simp [h1]
      · exact h1
    · unfold Act.put
      split <;> exact h2
    · unfold Act.put
      split
      · rename_i d hd
        show (b.tmps.setIfInBounds d (vs i))[k]? = _
        by_cases hdk : d = k
        · subst hdk
          by_cases hds : d < a.tmps.size
          · rw [Array.getElem?_setIfInBounds_self, if_pos (by rw [h1]; exact hds)]
            have := hv 0 d (by simpa using hd) hds
            rw [this]; rfl
          · rw [Array.getElem?_eq_none (by rw [Array.size_setIfInBounds, h1]; exact Nat.not_lt.1 hds), Array.getElem?_eq_none (Nat.not_lt.1 hds)]
        · rw [Array.getElem?_setIfInBounds_ne hdk]
          refine h3 k ?_
          simp only [List.all_cons, hk, Bool.and_true, hd]
          simpa using hdk
      · rename_i hd
        refine h3 k ?_
        simp only [List.all_cons, hk, Bool.and_true, hd]
        rfl
/-- A region whose orders are left alone: its end, with a letter a slot. -/
theorem free_walk {id : Nat} {Sem : Nat → Value → World → Prop} {a0 : Act} {w : World} (hm : P.follows .mixedOrders = true) {n : Nat} (hrow : Region.inRow .any ops = true) (hsz : a0.tmps.size = n) (hap : Region.apartD ops n = true)
    (hmono : ∀ i v u u', Sem i v u → Below u.heap.size u u' → Sem i v u')
    (hstep : ∀ i o a u, ops[i]? = some o → FreeIn .any ops Sem a0 o a u → Below w.drew.heap.size w.drew u → wpOp P ops Q i (fun b u' => ∃ v, b = a.put o.dst v ∧ Sem i v u' ∧ Below u.heap.size u u') a u)
    (hfin : ∀ (vs : Nat → Value) u, (∀ i d, ((ops[i]?).bind (·.dst)) = some d → Sem i (vs i) u) → Below w.drew.heap.size w.drew u → Q .normal (putFrom vs a0 ops.toList 0) u) : (Code.region id ops true).wp P Q a0 w := by
  refine free_region hm hrow hsz hap hmono hstep (fun a u hF hb => ?_)
  have hin : ∀ (i : Nat) (d : Tmp), ((ops[i]?).bind (fun x => Oper.dst x)) = some d → i < ops.size := by
    intro i d hd
    apply Classical.byContradiction
    intro h
    rw [Array.getElem?_eq_none (by omega)] at hd
    cases hd
  have hlist : ∀ (i : Nat) (d : Tmp), ((ops[i]?).bind (fun x => Oper.dst x)) = some d → (Array.replicate ops.size true).getD i false = true := by
    intro i d hd
    simp [hin i d hd]
  have h1 : ∀ (i : Nat) (d : Tmp), ((ops[i]?).bind (fun x => Oper.dst x)) = some d → a.tmps[d]? = some ((((ops[i]?).bind (fun x => Oper.dst x)).bind (a.tmps[·]?)).getD undef) := by
    intro i d hd
    obtain ⟨v, h1, _⟩ := hF.done i d (hlist i d hd) hd
    rw [hd]
    show _ = some ((a.tmps[d]?).getD undef)
    rw [h1]; rfl
  have key := hfin (fun i => (((ops[i]?).bind (fun x => Oper.dst x)).bind (a.tmps[·]?)).getD undef) u (fun i d hd => by
    obtain ⟨v, h2, h3⟩ := hF.done i d (hlist i d hd) hd
    have h4 := h1 i d hd
    rw [h2] at h4
    exact Option.some.inj h4 ▸ h3) hb
  rw [putFrom_eq (a := a) _ ops.toList 0 a0 (fun j d hj _ => by
    rw [Nat.zero_add]
    exact h1 j d (by simpa using hj)) hF.size.symm hF.defers.symm (fun k hk => (hF.out k hk).symm)] at key
  exact key
/-- An operation that is done, with the world that it leaves. -/
theorem free_op {i : Nat} {o : Oper} {K : Act → World → Prop} {a : Act} {w : World} (ho : ops[i]? = some o) (hw : Region.wanted o (yielded ops a.tmps) = true) (h : Oper.wp P o a w K Q) : wpOp P ops Q i K a w :=
  wpOp_step ho (fun K' hK => by rw [if_pos hw]; exact Oper.wp_mono hK h)
theorem free_not {i : Nat} {o : Oper} {K : Act → World → Prop} {a : Act} {w : World} (ho : ops[i]? = some o) (hw : Region.wanted o (yielded ops a.tmps) = false) (h : K (a.put o.dst undef) w) : wpOp P ops Q i K a w :=
  wpOp_step ho (fun K' hK => by rw [if_neg (by rw [hw]; simp)]; exact hK _ _ h)
/-- An operation that is done, and what is to be shown of it. -/
theorem free_step {i : Nat} {o : Oper} {Sem : Nat → Value → World → Prop} {a : Act} {w : World} (ho : ops[i]? = some o) (hw : Region.wanted o (yielded ops a.tmps) = true) (h : ∀ K' : Act → World → Prop, Hid (∀ v u, Sem i v u → Below w.heap.size w u → K' (a.put o.dst v) u) → Oper.wp P o a w K' Q) : wpOp P ops Q i (fun b u => ∃ v, b = a.put o.dst v ∧ Sem i v u ∧ Below w.heap.size w u) a w :=
  free_op ho hw (h _ (fun v _ hS hb => ⟨v, rfl, hS, hb⟩))
/-- One that is passed over. -/
theorem free_skip {i : Nat} {o : Oper} {Sem : Nat → Value → World → Prop} {a : Act} {w : World} (ho : ops[i]? = some o) (hw : Region.wanted o (yielded ops a.tmps) = false) (hS : Sem i undef w) : wpOp P ops Q i (fun b u => ∃ v, b = a.put o.dst v ∧ Sem i v u ∧ Below w.heap.size w u) a w :=
  free_not ho hw ⟨undef, rfl, hS, Below.refl _ _⟩
end
end Go.Proofs.YtgehgcnaoapbbaaDoor

namespace Go.Proofs.YtgehgcnaoapbbaaDoor
open Go.RowKit
set_option maxRecDepth 100000

theorem grown_refl (w : World) (row : Option Nat) : w.grownBy w row := ⟨rfl, rfl, rfl, Nat.le_refl _, fun _ _ _ => rfl⟩
theorem grown_trans {a b c : World} {row : Option Nat} (h : a.grownBy b row) (h2 : b.grownBy c row) : a.grownBy c row :=
  ⟨h2.os.trans h.os, h2.tape.trans h.tape, h2.output.trans h.output, Nat.le_trans h.size h2.size, fun k hk hn => (h2.block k (Nat.lt_of_lt_of_le hk h.size) hn).trans (h.block k hk hn)⟩
theorem grown_of_below {a b : World} {row : Option Nat} (h : Below a.heap.size a b) : a.grownBy b row := ⟨h.os, h.tape, h.output, h.size, fun k hk _ => h.block k hk⟩

section
variable {P : Program} {ops : Array Oper} {Q : Exit → Act → World → Prop} {md : Region.Mode}
/-- Does operation z wait for the first of these, that for the next, ..? -/
def Region.path (md : Region.Mode) (ops : Array Oper) : Nat → List Nat → Bool
  | _, [] => true
  | z, y :: ys => (match ops[z]? with
    | some o => o.after.toList.any fun e => Region.binds md e && e.on == y
    | none => false) && Region.path md ops y ys
/-- What is listed has what it waits for listed. -/
def ClosedL (md : Region.Mode) (ops : Array Oper) (listed : Array Bool) : Prop := ∀ (i : Nat) (o : Oper), ops[i]? = some o → listed.getD i false = true → ∀ e ∈ o.after, Region.binds md e = true → listed.getD e.on false = true
theorem path_listed {listed : Array Bool} (hc : ClosedL md ops listed) : ∀ (l : List Nat) (z : Nat), Region.path md ops z l = true → listed.getD z false = true → ∀ i ∈ l, listed.getD i false = true := by
  intro l
  induction l with
  | nil => intro _ _ _ i hi; cases hi
  | cons y ys ih =>
    intro z h hz i hi
    rw [Region.path, Bool.and_eq_true] at h
    obtain ⟨h1, h2⟩ := h
    split at h1
    · rename_i o ho
      obtain ⟨e, he, h3⟩ := List.any_eq_true.1 h1
      rw [Bool.and_eq_true, beq_iff_eq] at h3
      have hy := hc z o ho hz e (by simpa using he) h3.1
      rw [h3.2] at hy
      rcases List.mem_cons.1 hi with rfl | h
      · exact hy
      · exact ih y h2 hy i h
    · cases h1
/-- What isn't written yet is as it was. -/
def KeepU (ops : Array Oper) (a0 : Act) (listed : Array Bool) (a : Act) : Prop := ∀ (j : Nat) (d : Tmp), listed.getD j true = false → ((ops[j]?).bind (fun x => Oper.dst x)) = some d → a.tmps[d]? = a0.tmps[d]?
theorem freeZ_any {Sem : Nat → Value → World → Prop} {J : World → Prop} {z : Nat} {late : Nat → Bool} {row : Option Nat} {a0 : Act} {w0 : World} (hrow : Region.inRow md ops = true) (hap : Region.apartD ops a0.tmps.size = true)
    (hlate : ∀ j, late j = true → j = z ∨ ∃ l, Region.path md ops j (l ++ [z]) = true) (hmono : ∀ i v u u', late i = false → Sem i v u → u.grownBy u' row → Sem i v u') (hmonoL : ∀ i v u u', late i = true → Sem i v u → Below u.heap.size u u' → Sem i v u') (hJ : ∀ u u', J u → Below u.heap.size u u' → J u')
    (hstep : ∀ i o a w, ops[i]? = some o → i ≠ z → FreeIn md ops Sem a0 o a w → w0.grownBy w row → (∀ l, Region.path md ops z (l ++ [i]) = true → J w) → (∀ (j : Nat) (d : Tmp) (l : List Nat), ((ops[j]?).bind (fun x => Oper.dst x)) = some d → Region.path md ops j (l ++ [i]) = true → a.tmps[d]? = a0.tmps[d]?) → wpOp P ops Q i (fun b u => ∃ v, b = a.put o.dst v ∧ Sem i v u ∧ Below w.heap.size w u) a w)
    (hz : ∀ o a w, ops[z]? = some o → FreeIn md ops Sem a0 o a w → w0.grownBy w row → J w → (∀ (j : Nat) (d : Tmp) (l : List Nat), ((ops[j]?).bind (fun x => Oper.dst x)) = some d → Region.path md ops j (l ++ [z]) = true → a.tmps[d]? = a0.tmps[d]?) → wpOp P ops Q z (fun b u => ∃ v, b = a.put o.dst v ∧ Sem z v u ∧ w.grownBy u row) a w)
    (hfin : ∀ a w, FreeAt ops Sem a0 (Array.replicate ops.size true) a w → w0.grownBy w row → (∃ v, Sem z v w) → Q .normal a w) (hlz : late z = true) :
    ∀ n listed a w, (leftN ops listed).length ≤ n → FreeAt ops Sem a0 listed a w → w0.grownBy w row → (listed.getD z true = false → J w) → (listed.getD z false = true → ∃ v, Sem z v w) → z < ops.size → ClosedL md ops listed → KeepU ops a0 listed a → wpAny P md ops Q n listed a w := by
  have hend : ∀ listed a w, Region.ready md ops listed = [] → FreeAt ops Sem a0 listed a w → w0.grownBy w row → (listed.getD z false = true → ∃ v, Sem z v w) → z < ops.size → Q .normal a w := by
    intro listed a w hr hF hb hZ hzo
    refine hfin a w ⟨hF.size, hF.defers, by simp, hF.out, fun i d _ hd => hF.done i d ?_ hd⟩ hb (hZ (all_listed hrow hF.lsize hr z hzo))
    refine all_listed hrow hF.lsize hr i ?_
    apply Classical.byContradiction
    intro h
    rw [Array.getElem?_eq_none (by omega)] at hd
    cases hd
  intro n
  induction n with
  | zero =>
    intro listed a w hn hF hb _ hZ hzo _ _
    have hr : Region.ready md ops listed = [] := by
      apply List.eq_nil_iff_forall_not_mem.2
      intro i hi
      obtain ⟨h1, o, ho, _⟩ := mem_ready.1 hi
      have : i ∈ leftN ops listed := mem_left.2 ⟨(Array.getElem?_eq_some_iff.1 ho).1, h1⟩
      have h0 : leftN ops listed = [] := List.eq_nil_of_length_eq_zero (by omega)
      rw [h0] at this
      cases this
    exact ⟨hr, hend _ _ _ hr hF hb hZ hzo⟩
  | succ n ih =>
    intro listed a w hn hF hb hJw hZ hzo hcl hku
    refine ⟨fun hr => hend _ _ _ hr hF hb hZ hzo, fun i hi => ?_⟩
    obtain ⟨h1, o, ho, hall⟩ := mem_ready.1 hi
    have hio : i < ops.size := (Array.getElem?_eq_some_iff.1 ho).1
    have hIn : FreeIn md ops Sem a0 o a w := ⟨hF.size, hF.defers, hF.out, fun k d hk hd => by
      obtain ⟨e, he, h2⟩ : ∃ e ∈ o.after, (Region.binds md e && e.on == k) = true := by
        obtain ⟨e, he, h2⟩ := List.any_eq_true.1 hk
        exact ⟨e, by simpa using he, h2⟩
      rw [Bool.and_eq_true, beq_iff_eq] at h2
      obtain ⟨h2, rfl⟩ := h2
      exact hF.done e.on d (hall e he h2) hd⟩
    have hwait : ∀ (j : Nat) (d : Tmp) (l : List Nat), ((ops[j]?).bind (fun x => Oper.dst x)) = some d → Region.path md ops j (l ++ [i]) = true → a.tmps[d]? = a0.tmps[d]? := by
      intro j d l hd hp
      refine hku j d ?_ hd
      apply Classical.byContradiction
      intro hnl
      have hjo : j < ops.size := by
        apply Classical.byContradiction
        intro h
        rw [Array.getElem?_eq_none (by omega)] at hd
        cases hd
      have hjs : j < listed.size := by rw [hF.lsize]; exact hjo
      have hj1 : listed.getD j false = true := by
        simp [hjs] at hnl ⊢
        exact hnl
      have h9 := path_listed hcl _ _ hp hj1 i (by simp)
      have his : i < listed.size := by rw [hF.lsize]; exact hio
      simp [his] at h1 h9
      rw [h1] at h9
      cases h9
    -- what is known behind an operation
    have key : ∀ v u, Sem i v u → w.grownBy u row → (i ≠ z → Below w.heap.size w u) → wpAny P md ops Q n (listed.setIfInBounds i true) (a.put o.dst v) u := by
      intro v u hS hgu hbu
      refine ih _ _ _ (by have := leftN_set (mem_left.2 ⟨hio, h1⟩) hF.lsize; omega) ?_ (grown_trans hb hgu) ?_ ?_ hzo ?_ ?_
      · have hA := List.all_eq_true.1 hap i (List.mem_range.2 hio)
        rw [Bool.and_eq_true] at hA
        obtain ⟨hA1, hA2⟩ := hA
        rw [ho, Option.bind_some] at hA1
        refine ⟨?_, ?_, by simp [hF.lsize], fun k hk => ?_, fun j d hj hd => ?_⟩
        · unfold Act.put
          split
          · simp [hF.size]
          · exact hF.size
        · unfold Act.put
          split <;> exact hF.defers
        · have := List.all_eq_true.1 hk o (by simpa using Array.mem_of_getElem? ho)
          unfold Act.put
          split
          · rename_i d hd
            rw [hd] at this
            have hdk : d ≠ k := by simpa using this
            show (a.tmps.setIfInBounds d v)[k]? = _
            rw [Array.getElem?_setIfInBounds_ne hdk]
            exact hF.out k hk
          · exact hF.out k hk
        · by_cases hji : j = i
          · subst hji
            rw [ho] at hd
            have hd' : o.dst = some d := hd
            rw [hd'] at hA1
            have hdn : d < a0.tmps.size := by simpa using hA1
            refine ⟨v, ?_, hS⟩
            unfold Act.put
            rw [hd']
            show (a.tmps.setIfInBounds d v)[d]? = _
            rw [Array.getElem?_setIfInBounds_self, if_pos (by rw [hF.size]; exact hdn)]
          · have hj2 : listed.getD j false = true := by
              have : (listed.setIfInBounds i true)[j]? = listed[j]? := Array.getElem?_setIfInBounds_ne (Ne.symm hji)
              simpa [this] using hj
            obtain ⟨v', h5, h6⟩ := hF.done j d hj2 hd
            refine ⟨v', ?_, ?_⟩
            rotate_left
            · by_cases hl : late j = true
              · by_cases hiz : i = z
                · exfalso
                  subst hiz
                  have hzl : listed.getD i false = true := by
                    rcases hlate j hl with h | ⟨l, hp⟩
                    · exact absurd h hji
                    · exact path_listed hcl _ _ hp hj2 i (by simp)
                  have his : i < listed.size := by rw [hF.lsize]; exact hio
                  simp [his] at h1 hzl
                  rw [h1] at hzl
                  cases hzl
                · exact hmonoL _ _ _ _ hl h6 (hbu hiz)
              · exact hmono _ _ _ _ (by simpa using hl) h6 hgu
            unfold Act.put
            split
            · rename_i d' hd'
              have hne : d' ≠ d := by
                have hjo : j < ops.size := by
                  apply Classical.byContradiction
                  intro h
                  rw [Array.getElem?_eq_none (by omega)] at hd
                  cases hd
                have h7 := List.all_eq_true.1 hA2 j (List.mem_range.2 hjo)
                rw [ho, hd] at h7
                have hib : (i == j) = false := by simpa using Ne.symm hji
                rw [hib] at h7
                simp only [Option.bind_some, hd', Bool.false_or] at h7
                simpa using h7
              show (a.tmps.setIfInBounds d' v)[d]? = _
              rw [Array.getElem?_setIfInBounds_ne hne]
              exact h5
            · exact h5
      · intro hlz
        by_cases hiz : i = z
        · subst hiz
          have : i < listed.size := by rw [hF.lsize]; exact hio
          simp [this] at hlz
        · have h9 : listed.getD z true = false := by
            have : (listed.setIfInBounds i true)[z]? = listed[z]? := Array.getElem?_setIfInBounds_ne hiz
            simpa [this] using hlz
          exact hJ _ _ (hJw h9) (hbu hiz)
      · intro hlz2
        by_cases hiz : i = z
        · subst hiz
          exact ⟨v, hS⟩
        · have h9 : listed.getD z false = true := by
            have : (listed.setIfInBounds i true)[z]? = listed[z]? := Array.getElem?_setIfInBounds_ne hiz
            simpa [this] using hlz2
          obtain ⟨v', h10⟩ := hZ h9
          exact ⟨v', hmonoL _ _ _ _ hlz h10 (hbu hiz)⟩
      · intro j oj hj hlj e he hbe
        have hset : ∀ k, k ≠ i → (listed.setIfInBounds i true).getD k false = listed.getD k false := fun k hk => by
          have : (listed.setIfInBounds i true)[k]? = listed[k]? := Array.getElem?_setIfInBounds_ne (Ne.symm hk)
          simp [this]
        have hold : listed.getD e.on false = true := by
          by_cases hji : j = i
          · subst hji
            rw [ho] at hj
            obtain rfl := Option.some.inj hj
            exact hall e he hbe
          · rw [hset j hji] at hlj
            exact hcl j oj hj hlj e he hbe
        by_cases hei : e.on = i
        · have : i < listed.size := by rw [hF.lsize]; exact hio
          rw [hei]
          simp [this]
        · rw [hset e.on hei]; exact hold
      · intro j d hlj hd
        have hA := List.all_eq_true.1 hap i (List.mem_range.2 hio)
        rw [Bool.and_eq_true] at hA
        have hji : j ≠ i := by
          intro h
          subst h
          have : j < listed.size := by rw [hF.lsize]; exact hio
          simp [this] at hlj
        have hl2 : listed.getD j true = false := by
          have : (listed.setIfInBounds i true)[j]? = listed[j]? := Array.getElem?_setIfInBounds_ne (Ne.symm hji)
          simpa [this] using hlj
        unfold Act.put
        split
        · rename_i d' hd'
          have hne : d' ≠ d := by
            have hjo : j < ops.size := by
              apply Classical.byContradiction
              intro h
              rw [Array.getElem?_eq_none (by omega)] at hd
              cases hd
            have h7 := List.all_eq_true.1 hA.2 j (List.mem_range.2 hjo)
            rw [ho, hd] at h7
            have hib : (i == j) = false := by simpa using Ne.symm hji
            rw [hib] at h7
            simp only [Option.bind_some, hd', Bool.false_or] at h7
            simpa using h7
          show (a.tmps.setIfInBounds d' v)[d]? = _
          rw [Array.getElem?_setIfInBounds_ne hne]
          exact hku j d hl2 hd
        · exact hku j d hl2 hd
    by_cases hiz : i = z
    · subst hiz
      refine wpOp_mono (fun b u h => ?_) (hz o a w ho hIn hb (hJw h1) hwait)
      obtain ⟨v, rfl, hS, hgu⟩ := h
      exact key v u hS hgu (fun h => absurd rfl h)
    · refine wpOp_mono (fun b u h => ?_) (hstep i o a w ho hiz hIn hb (fun l hanc => hJw (by
        apply Classical.byContradiction
        intro hzl
        have hzs : z < listed.size := by rw [hF.lsize]; exact hzo
        have hz1 : listed.getD z false = true := by
          simp [hzs] at hzl ⊢
          exact hzl
        have h9 := path_listed hcl _ _ hanc hz1 i (by simp)
        have his : i < listed.size := by rw [hF.lsize]; exact hio
        simp [his] at h1 h9
        rw [h1] at h9
        cases h9)) hwait)
      obtain ⟨v, rfl, hS, hbu⟩ := h
      exact key v u hS (grown_of_below hbu) (fun _ => hbu)
/-- The region, with a letter a slot at its end. -/
theorem freeZ_walk {id : Nat} {Sem : Nat → Value → World → Prop} {J : World → Prop} (z : Nat) (late : Nat → Bool) (row : Option Nat) {a0 : Act} {w : World} (hm : P.follows .mixedOrders = true) {n : Nat} (hrow : Region.inRow .any ops = true) (hsz : a0.tmps.size = n) (hap : Region.apartD ops n = true)
    (hJ0 : J w.drew) (hlate : ∀ j, late j = true → j = z ∨ ∃ l, Region.path .any ops j (l ++ [z]) = true) (hmono : ∀ i v u u', late i = false → Sem i v u → u.grownBy u' row → Sem i v u') (hmonoL : ∀ i v u u', late i = true → Sem i v u → Below u.heap.size u u' → Sem i v u') (hJ : ∀ u u', J u → Below u.heap.size u u' → J u')
    (hzo : z < ops.size) (hstep : ∀ i o a u, ops[i]? = some o → i ≠ z → FreeIn .any ops Sem a0 o a u → w.drew.grownBy u row → (∀ l, Region.path .any ops z (l ++ [i]) = true → J u) → (∀ (j : Nat) (d : Tmp) (l : List Nat), ((ops[j]?).bind (fun x => Oper.dst x)) = some d → Region.path .any ops j (l ++ [i]) = true → a.tmps[d]? = a0.tmps[d]?) → wpOp P ops Q i (fun b u' => ∃ v, b = a.put o.dst v ∧ Sem i v u' ∧ Below u.heap.size u u') a u)
    (hz : ∀ o a u, ops[z]? = some o → FreeIn .any ops Sem a0 o a u → w.drew.grownBy u row → J u → (∀ (j : Nat) (d : Tmp) (l : List Nat), ((ops[j]?).bind (fun x => Oper.dst x)) = some d → Region.path .any ops j (l ++ [z]) = true → a.tmps[d]? = a0.tmps[d]?) → wpOp P ops Q z (fun b u' => ∃ v, b = a.put o.dst v ∧ Sem z v u' ∧ u.grownBy u' row) a u)
    (hlz : late z = true) (hfin : ∀ (vs : Nat → Value) u, (∀ i d, ((ops[i]?).bind (·.dst)) = some d → Sem i (vs i) u) → w.drew.grownBy u row → (∃ v, Sem z v u) → Q .normal (putFrom vs a0 ops.toList 0) u) : (Code.region id ops true).wp P Q a0 w := by
  refine wp_region_any hm (freeZ_any hrow (by rw [hsz]; exact hap) hlate hmono hmonoL hJ hstep hz ?_ hlz _ _ _ _ (by unfold leftN; exact Nat.le_trans (List.length_filter_le _ _) (by simp)) ⟨rfl, rfl, by simp, fun _ _ => rfl, fun i d h _ => by
    simp [Array.getElem?_replicate] at h
    split at h <;> simp_all⟩ (grown_refl _ _) (fun _ => hJ0) (fun h => by
    simp [Array.getElem?_replicate] at h
    split at h <;> simp_all) hzo (fun i o _ h => by
    simp [Array.getElem?_replicate] at h
    split at h <;> simp_all) (fun _ _ _ _ => rfl))
  intro a u hF hb hZu
  have hin : ∀ (i : Nat) (d : Tmp), ((ops[i]?).bind (fun x => Oper.dst x)) = some d → i < ops.size := by
    intro i d hd
    apply Classical.byContradiction
    intro h
    rw [Array.getElem?_eq_none (by omega)] at hd
    cases hd
  have hlist : ∀ (i : Nat) (d : Tmp), ((ops[i]?).bind (fun x => Oper.dst x)) = some d → (Array.replicate ops.size true).getD i false = true := by
    intro i d hd
    simp [hin i d hd]
  have h1 : ∀ (i : Nat) (d : Tmp), ((ops[i]?).bind (fun x => Oper.dst x)) = some d → a.tmps[d]? = some ((((ops[i]?).bind (fun x => Oper.dst x)).bind (a.tmps[·]?)).getD undef) := by
    intro i d hd
    obtain ⟨v, h1, _⟩ := hF.done i d (hlist i d hd) hd
    rw [hd]
    show _ = some ((a.tmps[d]?).getD undef)
    rw [h1]; rfl
  have key := hfin (fun i => (((ops[i]?).bind (fun x => Oper.dst x)).bind (a.tmps[·]?)).getD undef) u (fun i d hd => by
    obtain ⟨v, h2, h3⟩ := hF.done i d (hlist i d hd) hd
    have h4 := h1 i d hd
    rw [h2] at h4
    exact Option.some.inj h4 ▸ h3) hb hZu
  rw [putFrom_eq (a := a) _ ops.toList 0 a0 (fun j d hj _ => by
    rw [Nat.zero_add]
    exact h1 j d (by simpa using hj)) hF.size.symm hF.defers.symm (fun k hk => (hF.out k hk).symm)] at key
  exact key
/-- The operation z, and what is to be shown of it. -/
theorem freeZ_step {i : Nat} {o : Oper} {Sem : Nat → Value → World → Prop} {row : Option Nat} {a : Act} {w : World} (ho : ops[i]? = some o) (hw : Region.wanted o (yielded ops a.tmps) = true) (h : ∀ K' : Act → World → Prop, Hid (∀ v u, Sem i v u → w.grownBy u row → K' (a.put o.dst v) u) → Oper.wp P o a w K' Q) : wpOp P ops Q i (fun b u => ∃ v, b = a.put o.dst v ∧ Sem i v u ∧ w.grownBy u row) a w :=
  free_op ho hw (h _ (fun v _ hS hb => ⟨v, rfl, hS, hb⟩))
end
end Go.Proofs.YtgehgcnaoapbbaaDoor
