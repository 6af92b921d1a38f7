/-
  
  
  
  
-/
import Derived.Test.YtpcmpeeflnlkpaaGreatDoorKWordEtc
import Derived.Test.YtpcmpeeflnlkpaaGreatDoorNSumEtc
import Derived.Test.YtpcmpeeflnlkpaaGreatDoorQOwn
import Derived.Test.YtpcmpeeflnlkpaaGreatDoorNBitsEtc
import Derived.Lib.MakeNoZero
import Derived.Laws.CopyRow
import Derived.Shelf.Spec.SlicesInsert
import Derived.Test.YtpcmpeeflnlkpaaGreatDoorQRightEtc
import Derived.Lib.AppendStr
import Derived.Test.YtpcmpeeflnlkpaaGreatDoorQMake
/-
  Package hash: Sum.
-/
namespace Go.Proofs.YtpcmpeeflnlkpaaGreatDoor
open Go.RowKit Ch
set_option maxRecDepth 100000

theorem off_of {W : World} {u : Value} {t : ByteArray} {db : Nat} (h : IsBytes W u t) (hd : W.heap.size ≤ db) : Off db u := by
  intro x n c hv hn
  obtain ⟨a, cap, hu, hc, hm, ⟨h1, h2, h3⟩ | ⟨y, h1, h2 | ⟨b, o, h2, h3, _⟩⟩⟩ := h
  · rw [hu, h1] at hv
    cases hv
  · rw [hu, h1] at hv
    simp only [Value.slice.injEq] at hv
    omega
  · rw [hu, h1, h2] at hv
    simp only [Value.slice.injEq, Option.some.injEq] at hv
    rw [← hv.1]
    show b ≠ db
    omega
theorem IsSl.slices {W W' : World} {v : Value} {ls : List ByteArray} {db : Nat} (h : IsSl W v ls) (hb : Below W.heap.size W W') (hd : W.heap.size ≤ db) : IsSlices db W' v ls := by
  obtain ⟨a, cap, hv, h | ⟨b, o, h1, h2, h3⟩⟩ := h
  · exact ⟨a, cap, hv, .inl h⟩
  · refine ⟨a, cap, hv, .inr ⟨b, o, h1, by omega, Nat.lt_of_lt_of_le h2 hb.size, fun i t ht => ?_⟩⟩
    obtain ⟨u, hu, hI⟩ := h3 i t ht
    exact ⟨u, (hb.cell (p := ⟨b, o + i, none⟩) h2).trans hu, hI.later hb, off_of hI hd⟩
theorem Dg_begin {db : Nat} {W : World} (h : W.heap[db]? = some (.cells (digC beginS (List.replicate 64 0) 0 0) 92 (0, 0))) : Dg db [] 0 W := ⟨List.replicate 64 0, by simp, by simp, h⟩
theorem sha_cells (l : List UInt8) : (Lib.byteCells l).toArray.all (·.oneCell') = true := by
  refine Array.all_eq_true_iff_forall_mem.2 (fun v hv => ?_)
  have hv' : v ∈ Lib.byteCells l := by simpa using hv
  obtain ⟨z, _, rfl⟩ := List.mem_map.1 hv'
  rfl
theorem bytes_in {W : World} {B : Nat} {ty : TypeId} {l : List UInt8} (h : W.heap[B]? = some (.cells (Lib.byteCells l).toArray ty (0, 0))) {n : Nat} (hn : l.length = n) (hm : n ≤ 1000000) : IsBytes W (.slice (some ⟨B, 0, none⟩) n n) ⟨l.toArray⟩ := by
  refine bytes_of (k := 0) h (by rw [size_of_list]; exact hn) (fun j hj => ?_) (Nat.le_refl _) (by unfold maxLen; omega) rfl
  rw [List.getElem?_toArray, byte_list, List.toList_toArray]
  unfold Lib.byteCells
  rw [List.getElem?_map, List.getElem?_eq_getElem (by omega)]
  rfl
set_option maxHeartbeats 4000000 in
theorem kSum_any (v : Value) (ls : List ByteArray) (w : World) (hI : IsSl w v ls) (hK : KTab w) (hl : (flatB ls).length ≤ 900000) (hn : ls.length ≤ 1000000) :
    Calls Tryz.prog 35 #[v] w fun e w' => (∃ B, e = .returned (.slice (some ⟨B, 0, none⟩) 32 32) ∧ w.heap.size ≤ B ∧ IsBytes w' (.slice (some ⟨B, 0, none⟩) 32 32) ⟨(shaL (flatB ls)).toArray⟩) ∧ Below w.heap.size w w' := by
  obtain ⟨hz, hi⟩ := zero_of_info infoDig
  have hBg := kBegin_any w
  have hi74 : (Tryz.prog.info? 92).map (·.size) = some (digC beginS (List.replicate 64 0) 0 0).size := hi
  have hone : (digC beginS (List.replicate 64 0) 0 0).all (·.oneCell') = true := by kernel_rfl
  have hzd : zeroDig.size = (digC beginS (List.replicate 64 0) 0 0).size := rfl
  have hDgb := fun (db : Nat) (W : World) => Dg_begin (db := db) (W := W)
  generalize digC beginS (List.replicate 64 0) 0 0 = DB at *
  go_enter Tryz.func35, Tryz.ntmps35
  go_wp2_with fail
  refine hBg.mono ?_
  rintro e w1 ⟨rfl, hb1⟩
  have hN1 := heap_push_at w1 (.cells zeroDig 92)
  have hb2 : Below w1.heap.size w1 (w1.alloc (.cells zeroDig 92)) := (Below.refl _ w1).alloc (Nat.le_refl _) _
  have hD2 : Dg w1.heap.size [] 0 ((w1.alloc (.cells zeroDig 92)).setRow w1.heap.size DB) := hDgb _ _ (setRow_block hN1)
  have hb3 : Below w1.heap.size w1 ((w1.alloc (.cells zeroDig 92)).setRow w1.heap.size DB) := below_setRow hb2 (Nat.le_refl _) _
  have hs1 := hb1.size
  have hbw3 := hb1.trans (hb3.mono hs1)
  go_wp2_with (refine wpList_store_row rfl 92 _ _ rfl w1.heap.size DB rfl (by simp [Act.eval]) _ _ hN1 hi74 hzd hone ?_)
  generalize (w1.alloc (.cells zeroDig 92)).setRow w1.heap.size DB = W3 at *
  obtain ⟨db, hdb⟩ : ∃ db, w1.heap.size = db := ⟨_, rfl⟩
  rw [hdb] at hD2 hs1 ⊢
  have hK3 := hK.later hbw3
  have hne : db ≠ 1 := by have := hK.lt; omega
  have hAdd := kAdd_any db v ls [] W3 hD2 (hI.slices hbw3 hs1) hK3 hne (by simp; omega) hn
  rw [List.nil_append] at hAdd
  refine hAdd.mono ?_
  rintro e w4 ⟨rfl, hD4, hk4⟩
  have hK4 := hK3.keepD hne hk4
  have hb4 : Below w.heap.size w w4 := hbw3.trans (hk4.below hs1 hbw3.size)
  have hEnd := kEnd_any db (flatB ls) w4 hD4 hK4 hne hl
  clear hAdd hD2 hD4
  go_wp2_with fail
  refine hEnd.mono ?_
  rintro e w5 ⟨rfl, hk5⟩
  have hb5 : Below w.heap.size w w5 := hb4.trans (hk5.below hs1 hb4.size)
  have hs5 := hb5.size
  have hSl := shaL_length (flatB ls)
  obtain ⟨SH, hSH⟩ : ∃ SH, shaL (flatB ls) = SH := ⟨_, rfl⟩
  have HSH := show Hid (shaL (flatB ls) = SH) from hSH
  rw [hSH] at hSl ⊢
  clear hSH hEnd
  have hcl : (Lib.byteCells SH).toArray.size = 32 := by rw [List.size_toArray]; simp [Lib.byteCells, hSl]
  have hN5 := heap_push_at w5 (.cells zero32b 95)
  have hi32 : (Tryz.prog.info? 95).map (·.size) = some (Lib.byteCells SH).toArray.size := by rw [hcl]; kernel_rfl
  have hzs : zero32b.size = (Lib.byteCells SH).toArray.size := by rw [hcl]; rfl
  have hS6 := setRow_block (D := (Lib.byteCells SH).toArray) hN5
  have hb6 : Below w.heap.size w ((w5.alloc (.cells zero32b 95)).setRow w5.heap.size (Lib.byteCells SH).toArray) := below_setRow (hb5.alloc hs5 _) hs5 _
  have hone6 := sha_cells SH
  unfold zero32b at hN5 hzs hS6 hb6
  go_wp2_with (refine wpList_store_row rfl 95 _ _ rfl w5.heap.size (Lib.byteCells SH).toArray rfl (by simp [Act.eval]) _ _ hN5 hi32 hzs hone6 ?_)
  generalize (w5.alloc (.cells #[.int .u8 0, .int .u8 0, .int .u8 0, .int .u8 0, .int .u8 0, .int .u8 0, .int .u8 0, .int .u8 0, .int .u8 0, .int .u8 0, .int .u8 0, .int .u8 0, .int .u8 0, .int .u8 0, .int .u8 0, .int .u8 0, .int .u8 0, .int .u8 0, .int .u8 0, .int .u8 0, .int .u8 0, .int .u8 0, .int .u8 0, .int .u8 0, .int .u8 0, .int .u8 0, .int .u8 0, .int .u8 0, .int .u8 0, .int .u8 0, .int .u8 0, .int .u8 0] 95)).setRow w5.heap.size (Lib.byteCells SH).toArray = W6 at *
  have hIB := bytes_in hS6 hSl (by omega)
  go_wp2_with fail
  go_ret
  refine ⟨⟨_, rfl, hs5, ?_⟩, hb6⟩
  rw [HSH.out]
  exact hIB
end Go.Proofs.YtpcmpeeflnlkpaaGreatDoor

/-
  bytes.Repeat of one byte (1 to 8192 times).
-/
namespace Go.Proofs.YtpcmpeeflnlkpaaGreatDoor
open Go.RowKit Ch
set_option maxRecDepth 100000

theorem mulOne (n : Nat) (hn : n ≤ 8192) (w : World) : Calls Tryz.prog 65 #[.int .u64 1, .int .u64 (n : Int)] w fun e w' => e = .returned (.tuple #[.int .u64 0, .int .u64 (n : Int)]) ∧ w' = w := by
  have h := Tryz.bits_Mul64 1 n (by decide) (by omega) w
  have e1 : 1 * n / 18446744073709551616 = 0 := by omega
  have e2 : 1 * n % 18446744073709551616 = n := by omega
  rw [e1, e2] at h
  have h' := show Calls Tryz.prog 84 #[.int .u64 1, .int .u64 (n : Int)] w _ from h
  clear h e1 e2
  go_enter Tryz.func65, Tryz.ntmps65
  go_wp2_with fail
  refine h'.mono ?_
  rintro e w1 ⟨rfl, rfl⟩
  go_wp2_with fail
  go_ret2
  exact ⟨rfl, rfl⟩
theorem mkNZ (n : Nat) (hn : n ≤ 8192) (w : World) : ∃ cs : Array Value, (callFunc 66 #[.int .i64 (n : Int)]).run Tryz.prog w = .ok (.value (.slice (some ⟨w.heap.size, 0, none⟩) n cs.size)) (w.drew.drew.alloc (.cells cs 5)) ∧ n ≤ cs.size ∧ cs.size ≤ maxLen := by
  obtain ⟨cs, hrun, hle, hmax⟩ := Lib.run_makeNoZero (P := Tryz.prog) w #[3] 22 5 Tryz.underlying22 n (by omega)
  refine ⟨cs, ?_, hle, hmax (by unfold maxLen; omega)⟩
  rw [run_callFunc_extern Tryz.func66 (by kernel_rfl) (by kernel_rfl) (by kernel_rfl) (e := Extern.BytealgMakeNoZero.makeNoZero #[3] #[22]) (by kernel_rfl), hrun]
  rfl
/-- The first k cells of a block are this byte. -/
def Fill (w : World) (g cap k : Nat) : Prop := ∃ C : Array Value, w.heap[g]? = some (.cells C 5 (0, 0)) ∧ C.size = cap ∧ ∀ i, i < k → C[i]? = some (.int .u8 255)
theorem Fill.cell {w : World} {g cap k : Nat} (h : Fill w g cap k) {i : Nat} (hi : i < k) : w.cell? ⟨g, i, none⟩ = some (.int .u8 255) := by
  obtain ⟨C, h1, _, h3⟩ := h
  exact block_cell i h1 (h3 i hi)
theorem fill_more {w : World} {g cap k m : Nat} {C : Array Value} (h1 : w.heap[g]? = some (.cells C 5 (0, 0))) (h2 : C.size = cap) (h3 : ∀ i, i < k → C[i]? = some (.int .u8 255)) (hm : k + m ≤ cap) : Fill (w.setRow g (C.toList.take k ++ List.replicate m (Value.int .u8 255) ++ C.toList.drop (k + m)).toArray) g cap (k + m) := by
  refine ⟨_, setRow_block h1, ?_, fun i hi => ?_⟩
  · simp only [List.size_toArray, List.length_append, List.length_take, List.length_drop, List.length_replicate, Array.length_toList]
    omega
  · rw [List.getElem?_toArray, List.getElem?_append_left (by simp only [List.length_append, List.length_take, List.length_replicate, Array.length_toList]; omega)]
    by_cases hik : i < k
    · rw [List.getElem?_append_left (by simp only [List.length_take, Array.length_toList]; omega), List.getElem?_take_of_lt hik, Array.getElem?_toList]
      exact h3 i hik
    · rw [List.getElem?_append_right (by simp only [List.length_take, Array.length_toList]; omega), List.getElem?_replicate, if_pos (by simp only [List.length_take, Array.length_toList]; omega)]
set_option maxHeartbeats 8000000 in
theorem sRepeat_ff (n : Nat) (v : Value) (w : World) (h : IsBytes w v ⟨([255] : List UInt8).toArray⟩) (h1 : 1 ≤ n) (hn : n ≤ 8192) :
    Calls Tryz.prog 36 #[v, .int .i64 (n : Int)] w fun e w' => (∃ x, e = .returned x ∧ IsBytes w' x ⟨(List.replicate n (255 : UInt8)).toArray⟩) ∧ Below w.heap.size w w' := by
  obtain ⟨y, c, rfl⟩ := isb_shape h
  obtain ⟨b0, o0, rfl, hb0, g0'⟩ := IsBytes.cellAt (s := ⟨([255] : List UInt8).toArray⟩) h (i := 0) (by decide)
  have HS := show Hid (w.cell? ⟨b0, o0, none⟩ = some (.int .u8 255) ∧ b0 < w.heap.size) from ⟨g0'.trans rfl, hb0⟩
  have hM := mulOne n hn
  obtain ⟨cs, hmk, hcs, hcm⟩ := mkNZ n hn w
  obtain ⟨g, hg⟩ : ∃ g, w.heap.size = g := ⟨_, rfl⟩
  obtain ⟨W1, hW1⟩ : ∃ W, w.drew.drew.alloc (.cells cs 5) = W := ⟨_, rfl⟩
  have hb1 : Below w.heap.size w W1 := by rw [← hW1]; exact ((Below.refl _ w).drew.drew).alloc (Nat.le_refl _) _
  have hN1 : W1.heap[g]? = some (.cells cs 5 (0, 0)) := by rw [← hW1, ← hg]; exact heap_push_at w.drew.drew _
  rw [hW1, hg] at hmk
  have u1 : IntKind.u64.wrap (n : Int) = (n : Int) := by rw [IntKind.wrap_u64]; omega
  have u2 : IntKind.i64.wrap (n : Int) = (n : Int) := by rw [IntKind.wrap_i64]; omega
  have e0 : ((n : Int) == 0) = false := beq_eq_false_iff_ne.2 (by omega)
  have e1 : ¬ (n : Int) < 0 := by omega
  have e2 : ¬ (9223372036854775807 : Int) < (n : Int) := by omega
  have e3 : ¬ (8192 : Int) < (n : Int) := by omega
  have e4 : (n : Int) ≤ (cs.size : Int) := by omega
  have e5 : (0 : Int) ≤ (n : Int) := by omega
  have hcb : W1.cell? ⟨b0, o0, none⟩ = some (.int .u8 255) := (hb1.cell (p := ⟨b0, o0, none⟩) hb0).trans HS.out.1
  have hC0 := run_copy_row (P := Tryz.prog) W1 22 22 3 5 g 0 n n ⟨b0, o0, none⟩ 1 c cs 5 [Value.int .u8 255] Tryz.underlying22 (by kernel_rfl) hN1 (by
      have e2 : Nat.min 1 n = min 1 n := rfl
      rw [e2]; show 1 = _; omega) (fun j u hj => by
      rcases j with _ | j
      · have hadd : (⟨b0, o0, none⟩ : Addr).add 0 = ⟨b0, o0, none⟩ := by unfold Addr.add; simp
        rw [hadd, hcb]; exact hj
      · simp at hj) (by show 0 + 1 ≤ _; omega) (fun u hu => by rw [List.mem_singleton.1 hu]; rfl)
  have hF1 := fill_more (m := 1) hN1 rfl (k := 0) (fun i hi => absurd hi (Nat.not_lt_zero _)) (by omega)
  have hb2 := below_setRow hb1 (B := g) (by omega) (cs.toList.take 0 ++ [Value.int .u8 255] ++ cs.toList.drop (0 + 1)).toArray
  obtain ⟨W2, hW2⟩ : ∃ W, W1.setRow g (cs.toList.take 0 ++ [Value.int .u8 255] ++ cs.toList.drop (0 + 1)).toArray = W := ⟨_, rfl⟩
  have hF1' := show Fill (W1.setRow g (cs.toList.take 0 ++ [Value.int .u8 255] ++ cs.toList.drop (0 + 1)).toArray) g cs.size (0 + 1) from hF1
  have hC1 := show (Builtin.copy_ #[22, 22] 3 #[.slice (some ⟨g, 0, none⟩) n n, .slice (some ⟨b0, o0, none⟩) 1 c]).run Tryz.prog W1 = .ok (.int .i64 1) (W1.setRow g (cs.toList.take 0 ++ [Value.int .u8 255] ++ cs.toList.drop (0 + 1)).toArray) from hC0
  rw [hW2] at hF1' hb2 hC1
  have HX := show Hid (Fill W2 g cs.size (0 + 1) ∧ Below w.heap.size w W2) from ⟨hF1', hb2⟩
  have hgl : w.heap.size ≤ g := by omega
  have hnm : n ≤ cs.size := hcs
  clear h g0' hb0 hC0 hF1 hF1' hb2 hN1 hb1 hcb hW1 hW2
  go_enter Tryz.func36, Tryz.ntmps36
  go_wp2_with fail
  refine (hM w).mono ?_
  rintro e w2 ⟨rfl, rfl⟩
  go_wp2_with (at_builtin; go_must (refine Go.Proofs.wpList_copy_runI W1 rfl _ _ 22 22 rfl _ _ rfl rfl hC1 ?_))
  clear hC1 hmk hM
  go_loopw [10] (fun t wr => ∃ k : Nat, Hid (1 ≤ k) ∧ k ≤ n ∧ t = .int .i64 (k : Int) ∧ Hid (Fill wr g cs.size k ∧ Below w2.heap.size w2 wr)) (fun t _ => n - (intOf t).toNat)
  case atStart => exact ⟨1, Nat.le_refl 1, h1, rfl, HX.out⟩
  case round =>
    obtain ⟨k, hk1, hk2, rfl, HF⟩ := hrel
    by_cases hlt : k < n
    · have hlt2 : (k : Int) < (n : Int) := by omega
      have hmin : min (k : Int) (n : Int) = (k : Int) := by omega
      obtain ⟨m, hm⟩ : ∃ m, min k (n - k) = m := ⟨_, rfl⟩
      obtain ⟨r, hr⟩ : ∃ r, n - k = r := ⟨_, rfl⟩
      have hkm : k + m ≤ n := by omega
      have hm1 : 1 ≤ m := by have := hk1.out; omega
      obtain ⟨⟨C, c1, c2, c3⟩, hbb⟩ := HF.out
      have hC0 := run_copy_row (P := Tryz.prog) wr.drew 22 22 3 5 g k r r ⟨g, 0, none⟩ k n C 5 (List.replicate m (Value.int .u8 255)) Tryz.underlying22 (by kernel_rfl) c1 (by
          have e2 : Nat.min k r = min k r := rfl
          rw [e2, List.length_replicate]; omega) (fun j u hj => by
          obtain ⟨hj1, rfl⟩ := List.getElem?_eq_some_iff.1 hj
          rw [List.length_replicate] at hj1
          rw [List.getElem_replicate]
          have hadd : (⟨g, 0, none⟩ : Addr).add j = ⟨g, j, none⟩ := by unfold Addr.add; split <;> simp_all
          rw [hadd]
          exact block_cell j c1 (c3 j (by omega))) (by rw [List.length_replicate]; omega) (fun u hu => by rw [List.eq_of_mem_replicate hu]; rfl)
      rw [List.length_replicate] at hC0
      have hF1 := fill_more (w := wr.drew) (m := m) c1 c2 c3 (by omega)
      have hb2 := below_setRow (hbb.drew) (B := g) (by omega) (C.toList.take k ++ List.replicate m (Value.int .u8 255) ++ C.toList.drop (k + m)).toArray
      obtain ⟨W3, hW3⟩ : ∃ W, wr.drew.setRow g (C.toList.take k ++ List.replicate m (Value.int .u8 255) ++ C.toList.drop (k + m)).toArray = W := ⟨_, rfl⟩
      have hgo : goInt (m : Int) = .int .i64 (m : Int) := by
        unfold goInt
        have p9 : IntKind.i64.wrap (m : Int) = (m : Int) := by rw [IntKind.wrap_i64]; omega
        first | rw [p9] | rfl
      rw [hgo] at hC0
      rw [hW3] at hC0 hF1 hb2
      have HX2 := show Hid (Fill W3 g cs.size (k + m) ∧ Below w2.heap.size w2 W3) from ⟨hF1, hb2⟩
      have er : (n : Int) - (k : Int) = (r : Int) := by omega
      have p1 : (0 : Int) ≤ (k : Int) := by omega
      have p2 : (k : Int) ≤ (n : Int) := by omega
      have p3 : IntKind.i64.wrap ((k : Int) + (m : Int)) = ((k : Int) + (m : Int)) := by rw [IntKind.wrap_i64]; omega
      have p4 : ¬ n = k := by omega
      clear hF1 hb2 hW3 hgo hbb c1 c2 c3 hm
      go_wp2_with fail
      go_region_law (refine Go.Proofs.step_copy_runI rfl (.tmp 70) (.tmp 73) 22 22 rfl _ _ (by simp [Act.eval, Act.put]) (by simp [Act.eval, Act.put]) hC0 ?_)
      have hfin : (∃ k' : Nat, Hid (1 ≤ k') ∧ k' ≤ n ∧ Value.int .i64 ((k : Int) + (m : Int)) = .int .i64 (k' : Int) ∧ Hid (Fill W3 g cs.size k' ∧ Below w2.heap.size w2 W3)) := ⟨k + m, show 1 ≤ k + m by omega, by omega, by rw [Int.natCast_add], HX2.out⟩
      refine ⟨⟨.int .i64 ((k : Int) + (m : Int)), _, _, _, _, _, _, _, _, _, _, _, _, _, _, _, _, ?_, rfl⟩, ?_⟩
      · obtain ⟨k', a1, a2, a3, a4⟩ := hfin
        exact ⟨k', a1, a2, a3, a4⟩
      show n - ((k : Int) + (m : Int)).toNat < n - ((k : Int)).toNat
      omega
    · obtain rfl : k = n := by omega
      have hlt3 : ¬ (k : Int) < (k : Int) := by omega
      go_wp2_with fail
      go_ret
      obtain ⟨⟨C, c1, c2, c3⟩, hbb⟩ := HF.out
      refine ⟨⟨_, rfl, bytes_of (k := 0) c1 (by rw [size_of_list]; exact List.length_replicate) (fun j hj => ?_) (Nat.le_refl _) (by unfold maxLen at hcm; unfold maxLen; omega) rfl⟩, by rw [← hg]; exact hbb⟩
      have h9 : (List.replicate k (255 : UInt8))[j]? = some 255 := by rw [List.getElem?_replicate, if_pos hj]
      rw [c3 j hj, byte_list]
      show _ = some (Value.int .u8 (((((List.replicate k (255 : UInt8)).toArray.toList)[j]?).getD 0).toNat : Int))
      rw [List.toList_toArray, h9]
      rfl
end Go.Proofs.YtpcmpeeflnlkpaaGreatDoor

/-
  rsa.Seal: the sealed form of bytes.
-/
namespace Go.Proofs.YtpcmpeeflnlkpaaGreatDoor
open Go.RowKit Ch
set_option maxRecDepth 100000

/-- append of a constant string onto a row of the call's own. -/
theorem wpList_append_s {w : World} {ops : Array Oper} {rest : List Oper} {o : Oper} {ac : Act} {Q : Exit → Act → World → Prop} (hgd : o.guard = none) (so x : Operand)
    (ho : o.op = .call { callee := .builtin .append, args := #[so, x], argTypes := #[22, 9] })
    (base : Nat) (v : Value) (l : List UInt8) (hs : ac.eval so = v) (hown : OwnL base w v l)
    (t : ByteArray) (hx : ac.eval x = .string t) (hsz : l.length + t.size ≤ 1000000) (hbase : base ≤ w.heap.size)
    (h : ∀ v' w', OwnL base w' v' (l ++ t.data.toList) → Below base w w' → wpList Tryz.prog ops Q rest (ac.put o.dst v') w') : wpList Tryz.prog ops Q (o :: rest) ac w := by
  obtain ⟨i0, hi, hz0, hz1, hz2⟩ := info5
  refine Lib.wpList_append_own_string w hgd so x 22 9 ho base 5 i0 Tryz.underlying22 Tryz.underlying9 hi hz0 hz1 hz2 v l.length _ hs hown t hx (by unfold maxLen; omega) (by omega) hbase ?_
  intro v' w' ho' hg _
  refine h v' w' ?_ ((Below.refl _ w).grown hg hbase (own_ge hown))
  have e1 : (l ++ t.data.toList).length = l.length + t.size := by rw [List.length_append, len_eq]
  have e2 : Lib.byteCells (l ++ t.data.toList) = Lib.byteCells l ++ Lib.strCells t := by simp [Lib.byteCells, Lib.strCells]
  unfold OwnL
  rw [e1, e2]
  exact ho'
def algL : List UInt8 := [48, 49, 48, 13, 6, 9, 96, 134, 72, 1, 101, 3, 4, 2, 1, 5, 0, 4, 32]
/-- The sealed form of bytes in n bytes. -/
def sealL (b : List UInt8) (n : Nat) : List UInt8 := [0, 1] ++ List.replicate (n - 54) 255 ++ (0 :: algL) ++ shaL b
theorem sealL_length (b : List UInt8) {n : Nat} (h : 54 ≤ n) : (sealL b n).length = n := by
  unfold sealL algL
  simp only [List.length_append, List.length_cons, List.length_nil, List.length_replicate, shaL_length]
  omega
theorem own20 {base : Nat} {w : World} {v : Value} (h : OwnL base w v ([0] ++ algL)) : ∃ y c, v = .slice y 20 c := isb_shape h.is
set_option maxHeartbeats 8000000 in
theorem qSeal_any (v : Value) (b : List UInt8) (n : Nat) (w : World) (h : IsBytes w v ⟨b.toArray⟩) (hK : KTab w) (hl : b.length ≤ 900000) (h1 : 62 ≤ n) (h2 : n ≤ 512) :
    Calls Tryz.prog 16 #[v, .int .i64 (n : Int)] w fun e w' => (∃ x, e = .returned (.tuple #[x, .int .i64 0]) ∧ IsBytes w' x ⟨(sealL b n).toArray⟩) ∧ Below w.heap.size w w' := by
  obtain ⟨y, k, c, rfl⟩ := isb_open h
  have hFt := rFits_any n w (by omega)
  rw [decide_eq_true ⟨h1, h2⟩] at hFt
  obtain ⟨W1, hW1⟩ : ∃ W, w.alloc (.cells #[.int .u8 0, .int .u8 1] 5) = W := ⟨_, rfl⟩
  have b1 : Below w.heap.size w W1 := by rw [← hW1]; exact alB _ _
  have i1 : IsBytes W1 (.slice (some ⟨w.heap.size, 0, none⟩) 2 2) ⟨([0, 1] : List UInt8).toArray⟩ := by rw [← hW1]; exact litM w ⟨#[0, 1]⟩ _ _ rfl (show (2 : Nat) ≤ maxLen by unfold maxLen; decide)
  obtain ⟨W2, hW2⟩ : ∃ W, W1.alloc (.cells #[.slice y k c] 22) = W := ⟨_, rfl⟩
  have b2 : Below W1.heap.size W1 W2 := by rw [← hW2]; exact alB _ _
  have s2 : IsSl W2 (.slice (some ⟨W1.heap.size, 0, none⟩) 1 1) [⟨b.toArray⟩] := by rw [← hW2]; exact IsSl.one (h.later b1)
  have hSum := kSum_any (.slice (some ⟨W1.heap.size, 0, none⟩) 1 1) [⟨b.toArray⟩] W2 s2 (hK.later (bl2 b1 b2)) (by simp [flatB]; omega) (by simp)
  have hfl : flatB [⟨b.toArray⟩] = b := by simp [flatB]
  rw [hfl] at hSum
  have hs32 := shaL_length b
  have HG := show Hid (IsBytes W2 (.slice (some ⟨w.heap.size, 0, none⟩) 2 2) ⟨([0, 1] : List UInt8).toArray⟩ ∧ Below w.heap.size w W2) from ⟨i1.later b2, bl2 b1 b2⟩
  obtain ⟨m, hm⟩ : ∃ m, n - 54 = m := ⟨_, rfl⟩
  have HSL := show Hid (sealL b n = [0, 1] ++ List.replicate m 255 ++ (0 :: algL) ++ shaL b) from by unfold Hid sealL; rw [hm]
  generalize sealL b n = ZL at *
  have hm1 : 1 ≤ m := by omega
  have hm2 : m ≤ 8192 := by omega
  have p1 : IntKind.i64.wrap ((n : Int) - 2) = ((n - 2 : Nat) : Int) := by rw [IntKind.wrap_i64]; omega
  have p2 : IntKind.i64.wrap (((n - 2 : Nat) : Int) - 20) = ((n - 22 : Nat) : Int) := by rw [IntKind.wrap_i64]; omega
  have p3 : IntKind.i64.wrap (((n - 22 : Nat) : Int) - 32) = (m : Int) := by rw [IntKind.wrap_i64]; omega
  generalize shaL b = SH at *
  obtain ⟨n2, hn2⟩ : ∃ n2, n - 2 = n2 := ⟨_, rfl⟩
  obtain ⟨n22, hn22⟩ : ∃ n22, n - 22 = n22 := ⟨_, rfl⟩
  rw [hn2] at p1 p2
  rw [hn22] at p2 p3
  clear hn2 hn22 hm h b1 hfl i1 b2 s2 hK
  go_enter Tryz.func16, Tryz.ntmps16
  go_wp2_with fail
  refine hFt.mono ?_
  rintro e w0 ⟨rfl, rfl⟩
  clear hFt
  go_wp2_with fail
  refine hSum.mono ?_
  rintro e w3 ⟨⟨B, rfl, _, hIB⟩, hb3⟩
  clear hSum
  obtain ⟨W4, hW4⟩ : ∃ W, w3.alloc (.cells #[.int .u8 0] 5) = W := ⟨_, rfl⟩
  have b4 : Below w3.heap.size w3 W4 := by rw [← hW4]; exact alB _ _
  have o4 : OwnL w3.heap.size W4 (.slice (some ⟨w3.heap.size, 0, none⟩) 1 1) [0] := by rw [← hW4]; exact ownL_one w3 0
  have HG3 := show Hid (IsBytes w3 (.slice (some ⟨w0.heap.size, 0, none⟩) 2 2) ⟨([0, 1] : List UInt8).toArray⟩ ∧ IsBytes w3 (.slice (some ⟨B, 0, none⟩) 32 32) ⟨SH.toArray⟩ ∧ Below w0.heap.size w0 w3) from ⟨HG.out.1.later hb3, hIB, bl2 HG.out.2 hb3⟩
  clear HG hIB hb3
  go_wp2_with (at_builtin; go_must (refine wpList_append_s rfl _ _ rfl w3.heap.size (.slice (some ⟨w3.heap.size, 0, none⟩) 1 1) [0] rfl o4 ⟨#[48, 49, 48, 13, 6, 9, 96, 134, 72, 1, 101, 3, 4, 2, 1, 5, 0, 4, 32]⟩ rfl (by decide) b4.size ?_; intro v5 w5 ho5 hb5; obtain ⟨y5, c5, rfl⟩ := own20 ho5))
  have HG5 := show Hid (IsBytes w5 (.slice (some ⟨w0.heap.size, 0, none⟩) 2 2) ⟨([0, 1] : List UInt8).toArray⟩ ∧ IsBytes w5 (.slice (some ⟨B, 0, none⟩) 32 32) ⟨SH.toArray⟩ ∧ IsBytes w5 (.slice y5 20 c5) ⟨(0 :: algL).toArray⟩ ∧ Below w0.heap.size w0 w5) from by
    have hbb := b4.trans hb5
    exact ⟨HG3.out.1.later hbb, HG3.out.2.1.later hbb, ho5.is, bl2 HG3.out.2.2 hbb⟩
  have b6 := alB w5 (.cells #[.int .u8 255] 5)
  have i6 : IsBytes (w5.alloc (.cells #[.int .u8 255] 5)) (.slice (some ⟨w5.heap.size, 0, none⟩) 1 1) ⟨([255] : List UInt8).toArray⟩ := litM w5 ⟨#[255]⟩ _ _ rfl (show (1 : Nat) ≤ maxLen by unfold maxLen; decide)
  refine (sRepeat_ff m (.slice (some ⟨w5.heap.size, 0, none⟩) 1 1) (w5.alloc (.cells #[.int .u8 255] 5)) i6 hm1 hm2).mono ?_
  rintro e w7 ⟨⟨x7, rfl, i7⟩, b7⟩
  have hb7 := bl2 b6 b7
  obtain ⟨y7, c7, rfl⟩ := isb_shape i7
  obtain ⟨W8, hW8⟩ : ∃ W, w7.alloc (.cells #[.slice (some ⟨w0.heap.size, 0, none⟩) 2 2, .slice y7 (List.replicate m (255 : UInt8)).length c7, .slice y5 20 c5, .slice (some ⟨B, 0, none⟩) 32 32] 22) = W := ⟨_, rfl⟩
  have b8 : Below w7.heap.size w7 W8 := by rw [← hW8]; exact alB _ _
  have s8 : IsSl W8 (.slice (some ⟨w7.heap.size, 0, none⟩) 4 4) [⟨([0, 1] : List UInt8).toArray⟩, ⟨(List.replicate m (255 : UInt8)).toArray⟩, ⟨(0 :: algL).toArray⟩, ⟨SH.toArray⟩] := by
    rw [← hW8]
    exact isSl_lit w7 [(.slice (some ⟨w0.heap.size, 0, none⟩) 2 2, ⟨([0, 1] : List UInt8).toArray⟩), (.slice y7 (List.replicate m (255 : UInt8)).length c7, ⟨(List.replicate m (255 : UInt8)).toArray⟩), (.slice y5 20 c5, ⟨(0 :: algL).toArray⟩), (.slice (some ⟨B, 0, none⟩) 32 32, ⟨SH.toArray⟩)] (allc (HG5.out.1.later hb7) (allc i7 (allc (HG5.out.2.2.1.later hb7) (allc (HG5.out.2.1.later hb7) alln)))) _ rfl 4 rfl
  have hFL : flatL [⟨([0, 1] : List UInt8).toArray⟩, ⟨(List.replicate m (255 : UInt8)).toArray⟩, ⟨(0 :: algL).toArray⟩, ⟨SH.toArray⟩] = ZL := by
    rw [HSL.out]
    simp [flatL]
  have hCc := sConcat_any (some ⟨w7.heap.size, 0, none⟩) 4 4 _ W8 s8 rfl (by rw [hFL, HSL.out]; simp only [List.length_append, List.length_cons, List.length_nil, List.length_replicate, algL]; omega) (by omega)
  rw [hFL] at hCc
  have HB8 := show Hid (Below w0.heap.size w0 W8) from bl2 (bl2 HG5.out.2.2.2 hb7) b8
  have hrl : (List.replicate m (255 : UInt8)).length = m := List.length_replicate
  rw [hrl] at hW8 ⊢
  clear i6 b6 b7 hb7 i7 b8 s8 hFL ho5 hb5 HG3 HG5 o4 b4 hrl
  go_wp2_with fail
  refine hCc.mono ?_
  rintro e w9 ⟨⟨v9, rfl, o9⟩, b9⟩
  have HF := show Hid (IsBytes w9 v9 ⟨ZL.toArray⟩ ∧ Below w0.heap.size w0 w9) from ⟨o9.is, bl2 HB8.out b9⟩
  clear o9 b9 hCc
  go_wp2_with fail
  go_ret2
  exact ⟨⟨_, rfl, HF.out.1⟩, HF.out.2⟩
end Go.Proofs.YtpcmpeeflnlkpaaGreatDoor

/-
  Package rsa: private, opens; bytes.Clone; nat.Cmp and nat.Exp by bytes.
-/
namespace Go.Proofs.YtpcmpeeflnlkpaaGreatDoor
open Go.RowKit Ch
set_option maxRecDepth 100000

theorem isb_none (w : World) : IsBytes w (.slice none 0 0) ⟨([] : List UInt8).toArray⟩ := ⟨none, 0, rfl, Nat.le_refl _, by unfold maxLen; decide, .inl ⟨rfl, rfl, rfl⟩⟩
theorem cmpV (A B : List UInt8) (u v : Value) (w : World) (h1 : IsBytes w u ⟨A.toArray⟩) (h2 : IsBytes w v ⟨B.toArray⟩) (hA : A.length ≤ 1000000) (hB : B.length ≤ 1000000) :
    Calls Tryz.prog 26 #[u, v] w fun e w' => e = .returned (.int .i64 (cmpL A B)) ∧ w' = w := by
  obtain ⟨y, c, rfl⟩ := isb_shape h1
  obtain ⟨z, d, rfl⟩ := isb_shape h2
  have e1 : (⟨A.toArray⟩ : ByteArray).size = A.length := size_of_list A
  have e2 : (⟨B.toArray⟩ : ByteArray).size = B.length := size_of_list B
  have := nCmp_any y z c d ⟨A.toArray⟩ ⟨B.toArray⟩ w (by rw [e1]; exact h1) (by rw [e2]; exact h2) (by rw [e1]; exact hA) (by rw [e2]; exact hB)
  rw [e1, e2] at this
  exact this
theorem expV (A E N : List UInt8) (v u z : Value) (w : World) (h1 : IsBytes w v ⟨A.toArray⟩) (h2 : IsBytes w u ⟨E.toArray⟩) (h3 : IsBytes w z ⟨N.toArray⟩) (hA : A.length ≤ 1024) (hE : E.length ≤ 1024) (hN : N.length ≤ 1024) (h0 : numB N ≠ 0) (hb : bareL N = N) :
    Calls Tryz.prog 24 #[v, u, z] w fun e w' => (∃ x, e = .returned (.tuple #[x, .int .i64 0]) ∧ IsNb N.length w' x (numB A ^ numB E % numB N)) ∧ Below w.heap.size w w' := by
  have l3 : numB N < 256 ^ N.length := (show IsNb N.length w z (numB N) from ⟨N, h3, hb, rfl, Nat.le_refl _⟩).lt
  obtain ⟨x, cx, rfl⟩ := isb_shape h1
  obtain ⟨y, cy, rfl⟩ := isb_shape h2
  obtain ⟨z, cz, rfl⟩ := isb_shape h3
  have z1 : (⟨A.toArray⟩ : ByteArray).size = A.length := size_of_list A
  have z2 : (⟨E.toArray⟩ : ByteArray).size = E.length := size_of_list E
  have z3 : (⟨N.toArray⟩ : ByteArray).size = N.length := size_of_list N
  have := nExp_any x y z cx cy cz ⟨A.toArray⟩ ⟨E.toArray⟩ ⟨N.toArray⟩ w (by rw [z1]; exact h1) (by rw [z2]; exact h2) (by rw [z3]; exact h3) (by omega) (by omega) (by omega) (show numB N ≠ 0 from h0)
  rw [z1, z2, z3] at this
  refine this.mono ?_
  rintro e w' ⟨v, e1, e2, e3⟩
  have e2' := show IsNum w' v (numB A ^ numB E % numB N) from e2
  exact ⟨⟨v, e1, .of e2' (Nat.lt_trans (Nat.mod_lt _ (Nat.pos_of_ne_zero h0)) l3)⟩, e3⟩
/-- Has a key a private exponent? -/
theorem qPrivate_any (v1 v2 v3 : Value) (N E D : List UInt8) (w : World) (h1 : IsBytes w v1 ⟨N.toArray⟩) (h2 : IsBytes w v2 ⟨E.toArray⟩) (h3 : IsBytes w v3 ⟨D.toArray⟩) (lD : D.length ≤ 1000000) :
    Calls Tryz.prog 22 #[.agg #[v1, v2, v3]] w fun e w' => e = .returned (.bool (decide (numB D ≠ 0))) ∧ Below w.heap.size w w' := by
  obtain ⟨y1, k1, c1, rfl⟩ := isb_open h1
  obtain ⟨y2, k2, c2, rfl⟩ := isb_open h2
  obtain ⟨y3, k3, c3, rfl⟩ := isb_open h3
  have kb := keyBox w (.slice y1 k1 c1) (.slice y2 k2 c2) (.slice y3 k3 c3)
  obtain ⟨q, hq⟩ : ∃ q, w.heap.size = q := ⟨_, rfl⟩
  obtain ⟨W0, hW0⟩ : ∃ W, w.alloc (.cells #[.slice y1 k1 c1, .slice y2 k2 c2, .slice y3 k3 c3] 25) = W := ⟨_, rfl⟩
  rw [hW0, hq] at kb
  have hC := cmpV D [] (.slice y3 k3 c3) (.slice none 0 0) W0 (h3.later kb.below) (isb_none _) lD (by decide)
  have hc := (cmp_num D []).2
  obtain ⟨cc, hcc⟩ : ∃ c, cmpL D [] = c := ⟨_, rfl⟩
  rw [hcc] at hc hC
  have g2 := (kb.cells (Below.refl _ W0)).2.2
  have HB := show Hid (Below w.heap.size w W0) from kb.below
  have hn0 : numB ([] : List UInt8) = 0 := rfl
  rw [hn0] at hc
  clear kb hcc h1 h2 h3 hn0
  by_cases h : numB D = 0
  · obtain rfl : cc = 0 := hc.2 h
    rw [decide_eq_false (fun h' => h' h)]
    clear hc h
    go_enter Tryz.func22, Tryz.ntmps22
    go_wp2_with fail
    refine hC.mono ?_
    rintro e w2 ⟨rfl, rfl⟩
    clear hC
    go_wp2_with fail
    go_ret
    exact ⟨rfl, HB.out⟩
  · have hq0 : (cc != 0) = true := bne_iff_ne.2 (fun h' => h (hc.1 h'))
    rw [decide_eq_true (show numB D ≠ 0 from h)]
    clear hc h
    go_enter Tryz.func22, Tryz.ntmps22
    go_wp2_with fail
    refine hC.mono ?_
    rintro e w2 ⟨rfl, rfl⟩
    clear hC
    go_wp2_with fail
    go_ret
    exact ⟨by rw [← hq0] <;> rfl, HB.out⟩
/-- Does a power by D become the sealed form again? -/
theorem qOpens_any (v1 v2 v3 vp vf : Value) (N E D P F : List UInt8) (w : World) (h1 : IsBytes w v1 ⟨N.toArray⟩) (h2 : IsBytes w v2 ⟨E.toArray⟩) (h3 : IsBytes w v3 ⟨D.toArray⟩) (h4 : IsBytes w vp ⟨P.toArray⟩) (h5 : IsBytes w vf ⟨F.toArray⟩)
    (lN : N.length ≤ 1024) (lE : E.length ≤ 1024) (lP : P.length ≤ 1024) (lF : F.length ≤ 1000000) (h0 : numB N ≠ 0) (hb : bareL N = N) :
    Calls Tryz.prog 25 #[.agg #[v1, v2, v3], vp, vf] w fun e w' => e = .returned (.bool (decide (numB P ^ numB E % numB N = numB F))) ∧ Below w.heap.size w w' := by
  obtain ⟨y1, k1, c1, rfl⟩ := isb_open h1
  obtain ⟨y2, k2, c2, rfl⟩ := isb_open h2
  obtain ⟨y3, k3, c3, rfl⟩ := isb_open h3
  obtain ⟨y4, k4, c4, rfl⟩ := isb_open h4
  obtain ⟨y5, k5, c5, rfl⟩ := isb_open h5
  have kb := keyBox w (.slice y1 k1 c1) (.slice y2 k2 c2) (.slice y3 k3 c3)
  obtain ⟨q, hq⟩ : ∃ q, w.heap.size = q := ⟨_, rfl⟩
  obtain ⟨W0, hW0⟩ : ∃ W, w.alloc (.cells #[.slice y1 k1 c1, .slice y2 k2 c2, .slice y3 k3 c3] 25) = W := ⟨_, rfl⟩
  rw [hW0, hq] at kb
  have hX := expV P E N (.slice y4 k4 c4) (.slice y2 k2 c2) (.slice y1 k1 c1) W0 (h4.later kb.below) (h2.later kb.below) (h1.later kb.below) lP lE lN h0 hb
  have HF5 := show Hid (IsBytes W0 (.slice y5 k5 c5) ⟨F.toArray⟩ ∧ Below w.heap.size w W0 ∧ N.length ≤ 1024 ∧ F.length ≤ 1000000) from ⟨h5.later kb.below, kb.below, lN, lF⟩
  obtain ⟨g0, g1, _⟩ := kb.cells (Below.refl _ W0)
  generalize numB P ^ numB E % numB N = X at *
  obtain ⟨r, hr⟩ : ∃ r, Hid (decide (X = numB F) = r) := ⟨_, rfl⟩
  rw [hr.out]
  clear kb h1 h2 h3 h4 h5 lP lE lN h0 hb lF
  go_enter Tryz.func25, Tryz.ntmps25
  go_wp2_with fail
  refine hX.mono ?_
  rintro e w2 ⟨⟨x2, rfl, R, i2, _, n2, l2⟩, b2⟩
  obtain ⟨y6, k6, c6, rfl⟩ := isb_open i2
  have hC := cmpV R F (.slice y6 k6 c6) (.slice y5 k5 c5) w2 i2 (HF5.out.1.later b2) (by have := HF5.out.2.2.1; omega) HF5.out.2.2.2
  have hc := (cmp_num R F).2
  obtain ⟨cc, hcc⟩ : ∃ c, cmpL R F = c := ⟨_, rfl⟩
  rw [hcc] at hc hC
  rw [n2] at hc
  have HB := show Hid (Below w.heap.size w w2) from bl2 HF5.out.2.1 b2
  clear hX i2 n2 l2 b2 hcc HF5
  have HRC := show Hid ((cc == 0) = r) from by
    unfold Hid
    rw [← hr.out]
    by_cases h : X = numB F
    · rw [decide_eq_true h, hc.2 h]
      rfl
    · rw [decide_eq_false h]
      exact beq_eq_false_iff_ne.2 (fun h' => h (hc.1 h'))
  clear hc
  go_wp2_with fail
  refine hC.mono ?_
  rintro e w3 ⟨rfl, rfl⟩
  clear hC
  go_wp2_with fail
  go_ret
  exact ⟨by rw [← HRC.out] <;> rfl, HB.out⟩
/-- bytes.Clone. -/
theorem sClone_any (A : List UInt8) (v : Value) (w : World) (h : IsBytes w v ⟨A.toArray⟩) (hA : A.length ≤ 900000) : Calls Tryz.prog 27 #[v] w (Gives w A) := by
  obtain ⟨y, c, rfl⟩ := isb_shape h
  have hz : (⟨A.toArray⟩ : ByteArray).size = A.length := size_of_list A
  refine (cBytesClone_any y A.length c ⟨A.toArray⟩ w h hz.symm (by omega)).mono ?_
  rintro e w' ⟨v, h1, h2, h3⟩
  refine ⟨⟨v, h1, ?_⟩, h3⟩
  rw [hz] at h2
  exact (show OwnL w.heap.size w' v A from h2).is
end Go.Proofs.YtpcmpeeflnlkpaaGreatDoor
