/-
  Package hash: a digest's end.
-/
import Derived.Test.YtpcmpeeflnlkpaaDoorKWord
namespace Go.Proofs.YtpcmpeeflnlkpaaDoor
open Go.RowKit Ch
set_option maxRecDepth 100000

def zero32b : Array Value := #[.int .u8 0, .int .u8 0, .int .u8 0, .int .u8 0, .int .u8 0, .int .u8 0, .int .u8 0, .int .u8 0, .int .u8 0, .int .u8 0, .int .u8 0, .int .u8 0, .int .u8 0, .int .u8 0, .int .u8 0, .int .u8 0, .int .u8 0, .int .u8 0, .int .u8 0, .int .u8 0, .int .u8 0, .int .u8 0, .int .u8 0, .int .u8 0, .int .u8 0, .int .u8 0, .int .u8 0, .int .u8 0, .int .u8 0, .int .u8 0, .int .u8 0, .int .u8 0]
def zero8b : Array Value := #[.int .u8 0, .int .u8 0, .int .u8 0, .int .u8 0, .int .u8 0, .int .u8 0, .int .u8 0, .int .u8 0]
def zero64b : Array Value := #[.int .u8 0, .int .u8 0, .int .u8 0, .int .u8 0, .int .u8 0, .int .u8 0, .int .u8 0, .int .u8 0, .int .u8 0, .int .u8 0, .int .u8 0, .int .u8 0, .int .u8 0, .int .u8 0, .int .u8 0, .int .u8 0, .int .u8 0, .int .u8 0, .int .u8 0, .int .u8 0, .int .u8 0, .int .u8 0, .int .u8 0, .int .u8 0, .int .u8 0, .int .u8 0, .int .u8 0, .int .u8 0, .int .u8 0, .int .u8 0, .int .u8 0, .int .u8 0, .int .u8 0, .int .u8 0, .int .u8 0, .int .u8 0, .int .u8 0, .int .u8 0, .int .u8 0, .int .u8 0, .int .u8 0, .int .u8 0, .int .u8 0, .int .u8 0, .int .u8 0, .int .u8 0, .int .u8 0, .int .u8 0, .int .u8 0, .int .u8 0, .int .u8 0, .int .u8 0, .int .u8 0, .int .u8 0, .int .u8 0, .int .u8 0, .int .u8 0, .int .u8 0, .int .u8 0, .int .u8 0, .int .u8 0, .int .u8 0, .int .u8 0, .int .u8 0]
def fillC : Array Value := (Lib.byteCells (128 :: List.replicate 63 0)).toArray
theorem zero32b_eq : zero32b = (Lib.byteCells (List.replicate 32 0)).toArray := rfl
/-- The first i cells of a block hold these bytes. -/
def BytesIn (B i n : Nat) (ty : TypeId) (f : Nat → Nat) (W : World) : Prop := ∃ C, W.heap[B]? = some (.cells C ty (0, 0)) ∧ C.size = n ∧ (∀ j, j < i → C[j]? = some (.int .u8 (f j : Int))) ∧ ∀ j, j < n → ∃ z : Nat, C[j]? = some (.int .u8 (z : Int))
theorem BytesIn.set {B t n : Nat} {ty : TypeId} {f : Nat → Nat} {W : World} (h : BytesIn B t n ty f W) (ht : t < n) {x : Int} (hx : x = (f t : Int)) : BytesIn B (t + 1) n ty f (W.setCell ⟨B, t, none⟩ (.int .u8 x)) := by
  obtain ⟨C, h1, h2, h3, h4⟩ := h
  refine ⟨_, setCell_block h1, by simp [h2], fun i hi => ?_, fun i hi => ?_⟩
  · by_cases e : i = t
    · rw [e, Array.getElem?_setIfInBounds_self, if_pos (by omega), hx]
    · rw [Array.getElem?_setIfInBounds_ne (fun h => e h.symm)]
      exact h3 i (by omega)
  · by_cases e : i = t
    · rw [e, Array.getElem?_setIfInBounds_self, if_pos (by omega), hx]
      exact ⟨_, rfl⟩
    · rw [Array.getElem?_setIfInBounds_ne (fun h => e h.symm)]
      exact h4 i hi
theorem BytesIn.old {B t n : Nat} {ty : TypeId} {f : Nat → Nat} {W : World} (h : BytesIn B t n ty f W) {i : Nat} (hi : i < n) : (∃ z : Nat, W.cell? ⟨B, i, none⟩ = some (.int .u8 (z : Int))) ∧ W.frozen? ⟨B, i, none⟩ = false := by
  obtain ⟨C, h1, h2, h3, h4⟩ := h
  obtain ⟨z, hz⟩ := h4 i hi
  exact ⟨⟨z, block_cell i h1 hz⟩, block_free i h1⟩
theorem BytesIn.lt {B t n : Nat} {ty : TypeId} {f : Nat → Nat} {W : World} (h : BytesIn B t n ty f W) : B < W.heap.size := by
  obtain ⟨C, h1, _⟩ := h
  exact block_lt h1
theorem zero8b_bytes (W : World) (B : Nat) (ty : TypeId) (f : Nat → Nat) (h : W.heap[B]? = some (.cells zero8b ty (0, 0))) : BytesIn B 0 8 ty f W := by
  refine ⟨zero8b, h, rfl, fun i hi => absurd hi (Nat.not_lt_zero _), fun i hi => ⟨0, ?_⟩⟩
  have e : zero8b = (List.replicate 8 (Value.int .u8 0)).toArray := rfl
  rw [e, List.getElem?_toArray, List.getElem?_replicate, if_pos hi]
  rfl
/-- What a block's cells say of a slice of them. -/
theorem bytes_of {B n c k : Nat} {ty : TypeId} {W : World} {C : Array Value} {s : ByteArray} (h : W.heap[B]? = some (.cells C ty (0, 0))) (hs : s.size = n) (hc : ∀ j, j < n → C[j]? = some (.int .u8 (byte s j : Int))) (hk : n ≤ c) (hm : c ≤ maxLen) (_ : k = 0) : IsBytes W (.slice (some ⟨B, 0, none⟩) n c) s := by
  refine ⟨some ⟨B, 0, none⟩, c, by rw [hs], by rw [hs]; exact hk, hm, .inr ⟨_, rfl, .inr ⟨B, 0, rfl, block_lt h, fun j hj => ?_⟩⟩⟩
  rw [Nat.zero_add] at hj
  rw [Nat.zero_add]
  exact block_cell j h (hc j (by omega))
theorem index8_any (st : S8) (k : Nat) (hk : k < 8) (w : World) : (Instr.index 88 (.agg (cells8 st)) (.int .i64 (k : Int))).run Tryd.prog w = .ok (.int .u32 (atN st.l k : Int)) w := by
  rcases k with _ | _ | _ | _ | _ | _ | _ | _ | k
  · exact index8_0 _ _ _ _ _ _ _ _ w
  · exact index8_1 _ _ _ _ _ _ _ _ w
  · exact index8_2 _ _ _ _ _ _ _ _ w
  · exact index8_3 _ _ _ _ _ _ _ _ w
  · exact index8_4 _ _ _ _ _ _ _ _ w
  · exact index8_5 _ _ _ _ _ _ _ _ w
  · exact index8_6 _ _ _ _ _ _ _ _ w
  · exact index8_7 _ _ _ _ _ _ _ _ w
  · omega
theorem atN_lt {st : S8} (h : st.ok) (k : Nat) : atN st.l k < 4294967296 := by
  obtain ⟨ha, hb, hc, hd, he, hf, hg, hh⟩ := h
  unfold atN S8.l
  rcases k with _ | _ | _ | _ | _ | _ | _ | _ | k
  · exact ha
  · exact hb
  · exact hc
  · exact hd
  · exact he
  · exact hf
  · exact hg
  · exact hh
  · show (0 : Nat) < 4294967296
    decide
theorem fillC_at (n nd j : Nat) (hnd : 1 + (119 - n % 64) % 64 = nd) (hj : j < nd) : fillC[j]? = some (.int .u8 (byte ⟨(fillB n).toArray⟩ j : Int)) := by
  have hl := fillB_length n
  rw [byte_list, List.toList_toArray]
  unfold fillC
  rw [List.getElem?_toArray]
  unfold fillB Lib.byteCells
  cases j with
  | zero => rfl
  | succ j =>
    rw [List.map_cons, List.getElem?_cons_succ, List.getElem?_map, List.getElem?_replicate, if_pos (by omega), List.getElem?_cons_succ, List.getElem?_replicate, if_pos (by omega)]
    rfl
theorem count_at (n j : Nat) (hj : j < 8) : byte ⟨(countB n).toArray⟩ j = n * 8 / 2 ^ (8 * (7 - j)) % 256 := by
  rw [byte_list, List.toList_toArray]
  unfold countB
  rw [List.getElem?_map, List.getElem?_range hj]
  show (UInt8.ofNat (n * 8 / 2 ^ (8 * (7 - j)) % 256)).toNat = _
  rw [UInt8.toNat_ofNat']
  omega
/-- The sum, when i words are laid. -/
def sumL (st : S8) (i : Nat) : List UInt8 := (stateB st).take (4 * i) ++ List.replicate (32 - 4 * i) 0
theorem sumL_length (st : S8) (i : Nat) (h : i ≤ 8) : (sumL st i).length = 32 := by
  unfold sumL
  rw [List.length_append, List.length_take, stateB_length, List.length_replicate]
  omega
theorem stateB_take (st : S8) (i : Nat) (h : i < 8) : (stateB st).take (4 * (i + 1)) = (stateB st).take (4 * i) ++ wordB (atN st.l i) := by
  rcases i with _ | _ | _ | _ | _ | _ | _ | _ | i
  all_goals first | rfl | omega
theorem sumL_next (st : S8) (i : Nat) (h : i < 8) : (Lib.byteCells (sumL st i)).take (4 * i) ++ Lib.byteCells (wordB (atN st.l i)) ++ (Lib.byteCells (sumL st i)).drop (4 * i + (Lib.byteCells (wordB (atN st.l i))).length) = Lib.byteCells (sumL st (i + 1)) := by
  have hw : (Lib.byteCells (wordB (atN st.l i))).length = 4 := rfl
  rw [hw]
  have ht : ((stateB st).take (4 * i)).length = 4 * i := by rw [List.length_take, stateB_length]; omega
  unfold Lib.byteCells
  rw [← List.map_take, ← List.map_drop, ← List.map_append, ← List.map_append]
  congr 1
  unfold sumL
  rw [List.take_append_of_le_length (by omega), List.take_of_length_le (by omega), stateB_take st i h, List.drop_append, ht, List.drop_of_length_le (by omega), List.nil_append, show 4 * i + 4 - 4 * i = 4 by omega, List.drop_replicate, show 32 - 4 * i - 4 = 32 - 4 * (i + 1) by omega]
theorem sumL_end (st : S8) : sumL st 8 = stateB st := by
  unfold sumL
  rw [List.take_of_length_le (by rw [stateB_length]; omega)]
  simp
set_option maxHeartbeats 8000000 in
theorem kEnd_any (db : Nat) (m : List UInt8) (w : World) (hD : Dg db m m.length w) (hK : KTab w) (hdb : db ≠ 3) (hl : m.length ≤ 900000) :
    Calls Tryd.prog 76 #[.pointer (some ⟨db, 0, none⟩)] w fun e w' => e = .returned (.agg (Lib.byteCells (shaL m)).toArray) ∧ KeptD db w w' := by
  go_enter Tryd.func76, Tryd.ntmps76
  go_wp2_with fail
  have hb0 : Below w.heap.size w ((w.alloc (.cells zero32b 94)).alloc (.cells zero8b 102)) := ((Below.refl _ w).alloc (Nat.le_refl _) _).alloc (by simp) _
  have hR0 : ((w.alloc (.cells zero32b 94)).alloc (.cells zero8b 102)).heap[w.heap.size]? = some (.cells zero32b 94 (0, 0)) := block_alloc _ (heap_push_at w _)
  have hC0 : ((w.alloc (.cells zero32b 94)).alloc (.cells zero8b 102)).heap[w.heap.size + 1]? = some (.cells zero8b 102 (0, 0)) := by
    have := heap_push_at (w.alloc (.cells zero32b 94)) (.cells zero8b 102)
    simpa using this
  have HC0 := show Hid (BytesIn (w.heap.size + 1) 0 8 102 (fun i => m.length * 8 / 2 ^ (8 * (7 - i)) % 256) ((w.alloc (.cells zero32b 94)).alloc (.cells zero8b 102))) from zero8b_bytes _ _ _ _ hC0
  have HR0 := show Hid (((w.alloc (.cells zero32b 94)).alloc (.cells zero8b 102)).heap[w.heap.size]? = some (.cells zero32b 94 (0, 0))) from hR0
  clear hR0 hC0
  generalize hg : (w.alloc (.cells zero32b 94)).alloc (.cells zero8b 102) = W0 at *
  unfold zero32b zero8b at hg
  rw [hg]
  clear hg
  have HD := show Hid (Dg db m m.length w) from hD
  have HK := show Hid (KTab w) from hK
  have HDB := show Hid (db ≠ 3) from hdb
  have hdl := hD.block
  clear hD hK hdb
  go_loopw [11] (fun t wr => ∃ i : Nat, i ≤ 8 ∧ t = .int .i64 (i : Int) ∧ BytesIn (w.heap.size + 1) i 8 102 (fun i => m.length * 8 / 2 ^ (8 * (7 - i)) % 256) wr ∧ Below w.heap.size w wr ∧ wr.heap[w.heap.size]? = some (.cells zero32b 94 (0, 0))) (fun t _ => 8 - (intOf t).toNat)
  case atStart => exact ⟨0, by omega, rfl, HC0.out, hb0, HR0.out⟩
  case round =>
    obtain ⟨i, hi, rfl, hC, hb, hR⟩ := hrel
    obtain ⟨rest, r1, r2, r3⟩ := HD.out.later hb
    have gs := block_cell 73 r3 (digC_count _ r1 _ _)
    have gh := block_cell 72 r3 (digC_held _ r1 _ _)
    by_cases hlt : i < 8
    · have hlt2 : (i : Int) < 8 := by omega
      obtain ⟨sh, hsh⟩ : ∃ sh, 8 * (7 - i) = sh := ⟨_, rfl⟩
      have e1 : (8 : Int) * (7 - (i : Int)) = (sh : Int) := by omega
      obtain ⟨q, hq⟩ : ∃ q, m.length * 8 = q := ⟨_, rfl⟩
      have e2 : (m.length : Int) * 8 = (q : Int) := by omega
      have hql : q ≤ 10000000 := by omega
      have hshl : sh ≤ 56 := by omega
      obtain ⟨⟨z, hz⟩, hfz⟩ := hC.old (i := i) (by omega)
      have HV : Hid ((q : Int) / 2 ^ sh % 256 = ((m.length * 8 / 2 ^ (8 * (7 - i)) % 256 : Nat) : Int)) := by
        unfold Hid
        rw [hq, hsh]
        simp
      have HC := show Hid (BytesIn (w.heap.size + 1) i 8 102 (fun i => m.length * 8 / 2 ^ (8 * (7 - i)) % 256) wr) from hC
      have HR := show Hid (wr.heap[w.heap.size]? = some (.cells zero32b 94 (0, 0))) from hR
      clear hC hR hsh hq r1 r2 r3
      go_wp2_with fail
      go_roundw
      case rel =>
        refine ⟨i + 1, by omega, by go_num, HC.out.set (by omega) HV.out, hb.setCell (p := ⟨w.heap.size + 1, i, none⟩) (Nat.le_succ _) _, ?_⟩
        exact block_other ⟨w.heap.size + 1, i, none⟩ _ HR.out (by show w.heap.size ≠ w.heap.size + 1; omega)
      case measure => simp [intOf]; omega
    · have hlt2 : ¬ (i : Int) < 8 := by omega
      obtain rfl : i = 8 := by omega
      obtain ⟨Cc, hC1, hC2, hC3, _⟩ := hC
      have hwr : w.heap.size + 2 ≤ wr.heap.size := by have := block_lt hC1; omega
      have hN := heap_push_at wr (.cells zero64b 89)
      have hbf : Tryd.prog.built 89 [(0, .int .u8 128)] = some fillC := by kernel_rfl
      have hi64 : (Tryd.prog.info? 89).map (·.size) = some fillC.size := by kernel_rfl
      have hone : fillC.all (·.oneCell') = true := by kernel_rfl
      obtain ⟨hd, hhd⟩ : ∃ hd, m.length % 64 = hd := ⟨_, rfl⟩
      rw [hhd] at gh
      have hd64 : hd < 64 := by omega
      obtain ⟨nd, hnd⟩ : ∃ nd, 1 + (119 - hd) % 64 = nd := ⟨_, rfl⟩
      have end1 : (1 : Int) + (119 - (hd : Int)) % 64 = (nd : Int) := by omega
      have hndl : nd ≤ 64 := by omega
      have hnd0 : 0 < nd := by omega
      have hF3 : ((wr.alloc (.cells zero64b 89)).setRow wr.heap.size fillC).heap[wr.heap.size]? = some (.cells fillC 89 (0, 0)) := setRow_block hN
      have hC4 : ((wr.alloc (.cells zero64b 89)).setRow wr.heap.size fillC).heap[w.heap.size + 1]? = some (.cells Cc 102 (0, 0)) := (setRow_other (by omega)).trans (block_alloc _ hC1)
      have hR4 : ((wr.alloc (.cells zero64b 89)).setRow wr.heap.size fillC).heap[w.heap.size]? = some (.cells zero32b 94 (0, 0)) := (setRow_other (by omega)).trans (block_alloc _ hR)
      have hb4 : Below w.heap.size w ((wr.alloc (.cells zero64b 89)).setRow wr.heap.size fillC) := below_setRow (hb.alloc (by omega) _) (by omega) _
      have gh4 : ((wr.alloc (.cells zero64b 89)).setRow wr.heap.size fillC).cell? ⟨db, 72, none⟩ = some (.int .i64 (hd : Int)) := by
        rw [← gh]
        exact World.cell?_of_block (w := wr) (a := ⟨db, 72, none⟩) ((setRow_other (by have := hb.size; show db ≠ wr.heap.size; omega)).trans (heap_push_old wr _ (by have := hb.size; show db < wr.heap.size; omega)))
      unfold zero64b at hN hF3 hC4 hR4 hb4 gh4
      clear r3 gs gh hC1 hR
      go_wp2_with (first
        | refine wpList_build rfl 89 _ rfl (by simp [Act.eval, hbf]) ?_
        | refine wpList_store_row rfl 89 _ _ rfl wr.heap.size fillC rfl (by simp [Act.eval]) _ _ hN hi64 rfl hone ?_)
      have hs4 : wr.heap.size < ((wr.alloc (.cells #[.int .u8 0, .int .u8 0, .int .u8 0, .int .u8 0, .int .u8 0, .int .u8 0, .int .u8 0, .int .u8 0, .int .u8 0, .int .u8 0, .int .u8 0, .int .u8 0, .int .u8 0, .int .u8 0, .int .u8 0, .int .u8 0, .int .u8 0, .int .u8 0, .int .u8 0, .int .u8 0, .int .u8 0, .int .u8 0, .int .u8 0, .int .u8 0, .int .u8 0, .int .u8 0, .int .u8 0, .int .u8 0, .int .u8 0, .int .u8 0, .int .u8 0, .int .u8 0, .int .u8 0, .int .u8 0, .int .u8 0, .int .u8 0, .int .u8 0, .int .u8 0, .int .u8 0, .int .u8 0, .int .u8 0, .int .u8 0, .int .u8 0, .int .u8 0, .int .u8 0, .int .u8 0, .int .u8 0, .int .u8 0, .int .u8 0, .int .u8 0, .int .u8 0, .int .u8 0, .int .u8 0, .int .u8 0, .int .u8 0, .int .u8 0, .int .u8 0, .int .u8 0, .int .u8 0, .int .u8 0, .int .u8 0, .int .u8 0, .int .u8 0, .int .u8 0] 89)).setRow wr.heap.size fillC).heap.size := block_lt hF3
      generalize (wr.alloc (.cells #[.int .u8 0, .int .u8 0, .int .u8 0, .int .u8 0, .int .u8 0, .int .u8 0, .int .u8 0, .int .u8 0, .int .u8 0, .int .u8 0, .int .u8 0, .int .u8 0, .int .u8 0, .int .u8 0, .int .u8 0, .int .u8 0, .int .u8 0, .int .u8 0, .int .u8 0, .int .u8 0, .int .u8 0, .int .u8 0, .int .u8 0, .int .u8 0, .int .u8 0, .int .u8 0, .int .u8 0, .int .u8 0, .int .u8 0, .int .u8 0, .int .u8 0, .int .u8 0, .int .u8 0, .int .u8 0, .int .u8 0, .int .u8 0, .int .u8 0, .int .u8 0, .int .u8 0, .int .u8 0, .int .u8 0, .int .u8 0, .int .u8 0, .int .u8 0, .int .u8 0, .int .u8 0, .int .u8 0, .int .u8 0, .int .u8 0, .int .u8 0, .int .u8 0, .int .u8 0, .int .u8 0, .int .u8 0, .int .u8 0, .int .u8 0, .int .u8 0, .int .u8 0, .int .u8 0, .int .u8 0, .int .u8 0, .int .u8 0, .int .u8 0, .int .u8 0] 89)).setRow wr.heap.size fillC = W4 at *
      obtain ⟨FB, hFB⟩ : ∃ FB, wr.heap.size = FB := ⟨_, rfl⟩
      rw [hFB] at hF3 hs4 hwr ⊢
      have hzF : (⟨(fillB m.length).toArray⟩ : ByteArray).size = nd := by rw [size_of_list, fillB_length, hhd, hnd]
      have hzC : (⟨(countB m.length).toArray⟩ : ByteArray).size = 8 := by rw [size_of_list, countB_length]
      have hIF : IsBytes W4 (.slice (some ⟨FB, 0, none⟩) nd nd) ⟨(fillB m.length).toArray⟩ := bytes_of (k := 0) hF3 hzF (fun j hj => fillC_at m.length nd j (by rw [hhd, hnd]) hj) (Nat.le_refl _) (by unfold maxLen; omega) rfl
      have hIC : IsBytes W4 (.slice (some ⟨w.heap.size + 1, 0, none⟩) 8 8) ⟨(countB m.length).toArray⟩ := bytes_of (k := 0) hC4 hzC (fun j hj => by rw [hC3 j hj, count_at _ _ hj]) (Nat.le_refl _) (by unfold maxLen; omega) rfl
      have hdbF : FB ≠ db := by omega
      have hdbC : w.heap.size + 1 ≠ db := by omega
      have hOF : Off db (.slice (some ⟨FB, 0, none⟩) nd nd) := by
        intro x _ _ h _
        simp only [Value.slice.injEq, Option.some.injEq] at h
        rw [← h.1]
        exact hdbF
      have hOC : Off db (.slice (some ⟨w.heap.size + 1, 0, none⟩) 8 8) := by
        intro x _ _ h _
        simp only [Value.slice.injEq, Option.some.injEq] at h
        rw [← h.1]
        exact hdbC
      have hb5 : Below W4.heap.size W4 (W4.drew.alloc (.cells #[.slice (some ⟨FB, 0, none⟩) nd nd, .slice (some ⟨w.heap.size + 1, 0, none⟩) 8 8] 22)) := ((Below.refl _ W4).drew).alloc (Nat.le_refl _) _
      have hN5 := heap_push_at W4.drew (.cells #[.slice (some ⟨FB, 0, none⟩) nd nd, .slice (some ⟨w.heap.size + 1, 0, none⟩) 8 8] 22)
      have hN5' : (W4.drew.alloc (.cells #[.slice (some ⟨FB, 0, none⟩) nd nd, .slice (some ⟨w.heap.size + 1, 0, none⟩) 8 8] 22)).heap[W4.heap.size]? = some (.cells #[.slice (some ⟨FB, 0, none⟩) nd nd, .slice (some ⟨w.heap.size + 1, 0, none⟩) 8 8] 22 (0, 0)) := hN5
      have hbw5 : Below w.heap.size w (W4.drew.alloc (.cells #[.slice (some ⟨FB, 0, none⟩) nd nd, .slice (some ⟨w.heap.size + 1, 0, none⟩) 8 8] 22)) := hb4.trans (hb5.mono hb4.size)
      have hI5 : IsSlices db (W4.drew.alloc (.cells #[.slice (some ⟨FB, 0, none⟩) nd nd, .slice (some ⟨w.heap.size + 1, 0, none⟩) 8 8] 22)) (.slice (some ⟨W4.heap.size, 0, none⟩) 2 2) [⟨(fillB m.length).toArray⟩, ⟨(countB m.length).toArray⟩] := by
        refine ⟨_, 2, rfl, .inr ⟨W4.heap.size, 0, rfl, by omega, block_lt hN5', fun i t hit => ?_⟩⟩
        rcases i with _ | _ | i
        · simp only [List.getElem?_cons_zero, Option.some.injEq] at hit
          subst hit
          exact ⟨_, block_cell 0 hN5' rfl, hIF.later hb5, hOF⟩
        · simp only [List.getElem?_cons_succ, List.getElem?_cons_zero, Option.some.injEq] at hit
          subst hit
          exact ⟨_, block_cell 1 hN5' rfl, hIC.later hb5, hOC⟩
        · cases hit
      have hfl : flatB [⟨(fillB m.length).toArray⟩, ⟨(countB m.length).toArray⟩] = fillB m.length ++ countB m.length := by simp [flatB]
      have hAdd := kAdd_any db (.slice (some ⟨W4.heap.size, 0, none⟩) 2 2) [⟨(fillB m.length).toArray⟩, ⟨(countB m.length).toArray⟩] m _ (HD.out.later hbw5) hI5 (HK.out.later hbw5) HDB.out (by rw [hfl, List.length_append, fillB_length, countB_length]; omega) (by simp)
      rw [hfl, ← List.append_assoc] at hAdd
      have HR4 := show Hid (W4.heap[w.heap.size]? = some (.cells zero32b 94 (0, 0))) from hR4
      have HB5 := show Hid (Below W4.heap.size W4 (W4.drew.alloc (.cells #[.slice (some ⟨FB, 0, none⟩) nd nd, .slice (some ⟨w.heap.size + 1, 0, none⟩) 8 8] 22))) from hb5
      have HB4 := show Hid (Below w.heap.size w W4) from hb4
      have hnd2 : (nd : Int) ≤ 64 := by omega
      clear hN5 hN5' hI5 hIF hIC hOF hOC hF3 hC4 hR4 hb5 hb4 hbw5 hzF hzC hC3 hN gh4 hfl hFB r1 r2
      go_region_law (
        (go_simp
         go_wp2_with (go_at_call 75; refine hAdd.mono ?_)
         rintro e w6 ⟨rfl, hD6, hK6⟩))
      obtain ⟨rest6, q1, q2, q3⟩ := hD6
      have hpad : m ++ fillB m.length ++ countB m.length = padL m := rfl
      rw [hpad] at q3
      have hok := blocksS_ok (padL m) ((padL m).length / 64)
      have HSHA := show Hid (shaL m = stateB (blocksS (padL m) ((padL m).length / 64))) from rfl
      obtain ⟨st, hst⟩ : ∃ st, blocksS (padL m) ((padL m).length / 64) = st := ⟨_, rfl⟩
      rw [hst] at q3 hok HSHA
      have k6 : KeptD db w w6 := ((KeptD.of (Below.refl _ w)).trans (.of HB4.out)).trans ((KeptD.of HB5.out).trans hK6)
      have hR6 : w6.heap[w.heap.size]? = some (.cells zero32b 94 (0, 0)) := by
        have h1 := (HB5.out.block w.heap.size (block_lt HR4.out)).trans HR4.out
        exact (hK6.block w.heap.size (block_lt h1) (by omega)).trans h1
      have HR6 := show Hid (w6.heap[w.heap.size]? = some (.cells zero32b 94 (0, 0))) from hR6
      have HK6 := show Hid (KeptD db w w6) from k6
      have hN7 := heap_push_at w6 (.cells zero32b 94)
      have hn3 : (w6.alloc (.cells zero32b 94)).heap[db]? = _ := block_alloc _ q3
      have hb7 : Below w6.heap.size w6 (w6.alloc (.cells zero32b 94)) := (Below.refl _ w6).alloc (Nat.le_refl _) _
      obtain ⟨c0, c1, c2, c3, c4, c5, c6, c7⟩ := digC_state st rest6 ((padL m).length % 64) (padL m).length
      have d0 := block_cell 0 hn3 c0
      have d1 := block_cell 1 hn3 c1
      have d2 := block_cell 2 hn3 c2
      have d3 := block_cell 3 hn3 c3
      have d4 := block_cell 4 hn3 c4
      have d5 := block_cell 5 hn3 c5
      have d6 := block_cell 6 hn3 c6
      have d7 := block_cell 7 hn3 c7
      obtain ⟨a, b', c, d, e, f, g, h⟩ := st
      simp only at d0 d1 d2 d3 d4 d5 d6 d7
      have HOK := show Hid (S8.ok ⟨a, b', c, d, e, f, g, h⟩) from hok
      have HN7 := show Hid ((w6.alloc (.cells zero32b 94)).heap[w6.heap.size]? = some (.cells zero32b 94 (0, 0))) from hN7
      have HB7 := show Hid (Below w6.heap.size w6 (w6.alloc (.cells zero32b 94))) from hb7
      unfold zero32b at d0 d1 d2 d3 d4 d5 d6 d7
      clear c0 c1 c2 c3 c4 c5 c6 c7 hn3 hN7 hb7 q3 q1 q2 hok hst hpad hR6 k6 hAdd
      go_wp2_with fail
      have hsum0 : (w6.alloc (.cells zero32b 94)).heap[w6.heap.size]? = some (.cells (Lib.byteCells (sumL ⟨a, b', c, d, e, f, g, h⟩ 0)).toArray 94 (0, 0)) := HN7.out
      have hW7 : Below w6.heap.size w6 (w6.alloc (.cells zero32b 94)) := HB7.out
      clear d0 d1 d2 d3 d4 d5 d6 d7 HN7 HB7
      generalize hg7 : w6.alloc (.cells zero32b 94) = W7 at *
      unfold zero32b at hg7
      rw [hg7]
      clear hg7
      obtain ⟨SB, hSB⟩ : ∃ SB, w6.heap.size = SB := ⟨_, rfl⟩
      have HSB := show Hid (w6.heap.size = SB) from hSB
      rw [hSB] at hsum0 hW7 ⊢
      have hdl6 : w.heap.size < SB := by rw [← hSB]; exact block_lt HR6.out
      clear hSB
      go_loopw [46] (fun t wr => ∃ i : Nat, i ≤ 8 ∧ t = .int .i64 (i : Int) ∧ wr.heap[SB]? = some (.cells (Lib.byteCells (sumL ⟨a, b', c, d, e, f, g, h⟩ i)).toArray 94 (0, 0)) ∧ Below SB w6 wr) (fun t _ => 8 - (intOf t).toNat)
      case atStart => exact ⟨0, by omega, rfl, hsum0, hW7⟩
      case round =>
        obtain ⟨i, hi, rfl, hS, hbS⟩ := hrel
        by_cases hlt : i < 8
        · have hlt3 : (i : Int) < 8 := by omega
          have hix := fun w => index8_any ⟨a, b', c, d, e, f, g, h⟩ i hlt w
          unfold cells8 at hix
          simp only at hix
          have hX := atN_lt HOK.out i
          obtain ⟨X, hXe⟩ : ∃ X, atN (S8.l ⟨a, b', c, d, e, f, g, h⟩) i = X := ⟨_, rfl⟩
          rw [hXe] at hX
          simp only [hXe] at hix
          have HXE := show Hid (atN (S8.l ⟨a, b', c, d, e, f, g, h⟩) i = X) from hXe
          have hwb := fun w => kWordBytes_any X w hX
          obtain ⟨wS, hwS⟩ : ∃ wS, wS = wr := ⟨_, rfl⟩
          subst hwS
          clear hXe hsum0 hW7
          go_wp2_with fail
          refine (hwb _).mono ?_
          rintro e w8 ⟨rfl, hb8⟩
          have hN8 := heap_push_at w8 (.cells #[.int .u8 0, .int .u8 0, .int .u8 0, .int .u8 0] 103)
          have hi4 : (Tryd.prog.info? 103).map (·.size) = some (cells4 X).size := by kernel_rfl
          have h1a : (cells4 X).all (·.oneCell') = true := by
            refine Array.all_eq_true_iff_forall_mem.2 (fun v hv => ?_)
            unfold cells4 at hv
            simp only [List.mem_toArray, List.mem_cons, List.not_mem_nil, or_false] at hv
            rcases hv with rfl | rfl | rfl | rfl <;> rfl
          have hSBl : SB < wS.heap.size := block_lt hS
          have hs8 := hb8.size
          have hW9a : ((w8.alloc (.cells #[.int .u8 0, .int .u8 0, .int .u8 0, .int .u8 0] 103)).setRow w8.heap.size (cells4 X)).heap[w8.heap.size]? = some (.cells (cells4 X) 103 (0, 0)) := setRow_block hN8
          have hS9 : ((w8.alloc (.cells #[.int .u8 0, .int .u8 0, .int .u8 0, .int .u8 0] 103)).setRow w8.heap.size (cells4 X)).heap[SB]? = some (.cells (Lib.byteCells (sumL ⟨a, b', c, d, e, f, g, h⟩ i)).toArray 94 (0, 0)) := (setRow_other (by omega)).trans (block_alloc _ ((hb8.block SB hSBl).trans hS))
          have hbb9 : Below SB w6 ((w8.alloc (.cells #[.int .u8 0, .int .u8 0, .int .u8 0, .int .u8 0] 103)).setRow w8.heap.size (cells4 X)) := below_setRow ((hbS.trans (hb8.mono (by omega))).alloc (by omega) _) (by omega) _
          have hwl : w8.heap.size < ((w8.alloc (.cells #[.int .u8 0, .int .u8 0, .int .u8 0, .int .u8 0] 103)).setRow w8.heap.size (cells4 X)).heap.size := block_lt hW9a
          go_wp2_with (refine wpList_store_row rfl 103 _ _ rfl w8.heap.size (cells4 X) rfl (by simp [Act.eval]) _ _ hN8 hi4 rfl h1a ?_)
          generalize (w8.alloc (.cells #[.int .u8 0, .int .u8 0, .int .u8 0, .int .u8 0] 103)).setRow w8.heap.size (cells4 X) = W9 at *
          obtain ⟨WB, hWB⟩ : ∃ WB, w8.heap.size = WB := ⟨_, rfl⟩
          rw [hWB] at hW9a ⊢
          clear hN8
          have hcopy := run_copy_row (P := Tryd.prog) W9.drew 22 22 3 5 SB (4 * i) (32 - 4 * i) (32 - 4 * i) ⟨WB, 0, none⟩ 4 4 (Lib.byteCells (sumL ⟨a, b', c, d, e, f, g, h⟩ i)).toArray 94 (Lib.byteCells (wordB X)) Tryd.underlying22 (by kernel_rfl) hS9 (by
              have e1 : (Lib.byteCells (wordB X)).length = 4 := rfl
              have e2 : Nat.min 4 (32 - 4 * i) = min 4 (32 - 4 * i) := rfl
              rw [e1, e2]; omega) (fun j u hj => by
              have hadd : (⟨WB, 0, none⟩ : Addr).add j = ⟨WB, j, none⟩ := by unfold Addr.add; split <;> simp_all
              rw [hadd]
              rw [← cells4_eq, Array.getElem?_toList] at hj
              exact block_cell j hW9a hj) (by
              have e1 : (Lib.byteCells (wordB X)).length = 4 := rfl
              rw [e1, List.size_toArray]
              have := sumL_length ⟨a, b', c, d, e, f, g, h⟩ i (by omega)
              simp only [Lib.byteCells, List.length_map, this]
              omega) (fun u hu => by
              obtain ⟨z, _, rfl⟩ := List.mem_map.1 hu
              rfl)
          rw [List.toList_toArray, ← HXE.out, sumL_next _ i hlt] at hcopy
          have hlen4 : (Lib.byteCells (wordB (atN (S8.l ⟨a, b', c, d, e, f, g, h⟩) i))).length = 4 := rfl
          rw [hlen4] at hcopy
          have hS10 : (W9.drew.setRow SB (Lib.byteCells (sumL ⟨a, b', c, d, e, f, g, h⟩ (i + 1))).toArray).heap[SB]? = some (.cells (Lib.byteCells (sumL ⟨a, b', c, d, e, f, g, h⟩ (i + 1))).toArray 94 (0, 0)) := setRow_block hS9
          have hb10 : Below SB w6 (W9.drew.setRow SB (Lib.byteCells (sumL ⟨a, b', c, d, e, f, g, h⟩ (i + 1))).toArray) := below_setRow hbb9.drew (Nat.le_refl _) _
          have HS10 := show Hid ((W9.drew.setRow SB (Lib.byteCells (sumL ⟨a, b', c, d, e, f, g, h⟩ (i + 1))).toArray).heap[SB]? = some (.cells (Lib.byteCells (sumL ⟨a, b', c, d, e, f, g, h⟩ (i + 1))).toArray 94 (0, 0)) ∧ Below SB w6 (W9.drew.setRow SB (Lib.byteCells (sumL ⟨a, b', c, d, e, f, g, h⟩ (i + 1))).toArray)) from ⟨hS10, hb10⟩
          obtain ⟨i4, hi4e⟩ : ∃ i4, 4 * i = i4 := ⟨_, rfl⟩
          have ei4 : (i : Int) * 4 = (i4 : Int) := by omega
          have hi4l : i4 < 32 := by omega
          have hi4n : ¬ 32 = i4 := by omega
          have wi4 : IntKind.i64.wrap (i4 : Int) = (i4 : Int) := by rw [IntKind.wrap_i64]; omega
          have hi4m : (i4 : Int) ≤ 32 := by omega
          rw [hi4e] at hcopy
          have hgo : goInt ((4 : Nat) : Int) = .int .i64 4 := rfl
          rw [hgo] at hcopy
          clear hS10 hb10 hbb9 hS9 hW9a hi4e hi4 h1a hwl
          go_wp2_with fail
          go_region_law (refine Go.Proofs.step_copy_runI rfl (.tmp 54) (.tmp 55) 22 22 rfl _ _ (by simp [Act.eval, Act.put]) (by simp [Act.eval, Act.put]) hcopy ?_)
          generalize W9.drew.setRow SB (Lib.byteCells (sumL ⟨a, b', c, d, e, f, g, h⟩ (i + 1))).toArray = W10 at *
          go_wp2_with fail
          go_roundw
          case rel => exact ⟨i + 1, by omega, by go_num, HS10.out.1, HS10.out.2⟩
          case measure => simp [intOf]; omega
        · have hlt3 : ¬ (i : Int) < 8 := by omega
          obtain rfl : i = 8 := by omega
          have hRf := (hbS.block w.heap.size hdl6).trans HR6.out
          rw [sumL_end] at hS
          obtain ⟨OUT, hOUT⟩ : ∃ OUT, (Lib.byteCells (stateB ⟨a, b', c, d, e, f, g, h⟩)).toArray = OUT := ⟨_, rfl⟩
          have hi32 : (Tryd.prog.info? 94).map (·.size) = some OUT.size := by rw [← hOUT]; kernel_rfl
          have hone : OUT.all (·.oneCell') = true := by
            rw [← hOUT]
            refine Array.all_eq_true_iff_forall_mem.2 (fun v hv => ?_)
            have hv' : v ∈ Lib.byteCells (stateB ⟨a, b', c, d, e, f, g, h⟩) := by simpa using hv
            obtain ⟨z, _, rfl⟩ := List.mem_map.1 hv'
            rfl
          have hzs : zero32b.size = OUT.size := by rw [← hOUT]; rfl
          rw [hOUT] at hS
          have HO := show Hid ((Lib.byteCells (shaL m)).toArray = OUT) from by unfold Hid; rw [HSHA.out]; exact hOUT
          have kw : KeptD db w wr := HK6.out.trans (.of (by rw [HSB.out]; exact hbS))
          go_wp2_with (first
            | refine wpList_load_row rfl 94 _ rfl SB rfl _ OUT _ _ hS Tryd.underlying94 rfl hi32 ?_
            | refine wpList_store_row rfl 94 _ _ rfl w.heap.size OUT rfl (by simp [Act.eval, Act.put]) _ _ hRf hi32 hzs hone ?_)
          refine bodyPost_ret (v := .agg OUT) ?_ rfl ⟨by rw [HO.out], ?_⟩
          · exact results_cell_row rfl _ _ w.heap.size _ _ _ _ rfl (setRow_block hRf) Tryd.underlying94 rfl hi32
          · exact ⟨kw.os, kw.tape, kw.output, by rw [setRow_size]; exact kw.size, fun k hk hn => (setRow_other (by omega)).trans (kw.block k hk hn)⟩
end Go.Proofs.YtpcmpeeflnlkpaaDoor
