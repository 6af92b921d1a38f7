/-
  Package hash: Sum.
  bytes.Repeat of one byte (1 to 8192 times).
-/
import Derived.Test.YtpcmpeeflnlkpaaDoorKEnd
import Derived.Test.YtpcmpeeflnlkpaaDoorNSumEtc
import Derived.Test.YtpcmpeeflnlkpaaDoorQOwn
import Derived.Test.YtpcmpeeflnlkpaaDoorNBitsEtc
import Derived.Lib.MakeNoZero
import Derived.Laws.CopyRow
import Derived.Shelf.Spec.SlicesInsert
namespace Go.Proofs.YtpcmpeeflnlkpaaDoor
open Go.RowKit Ch
set_option maxRecDepth 100000

theorem off_of {W : World} {u : Value} {t : ByteArray} {db : Nat} (h : IsBytes W u t) (hd : W.heap.size ≤ db) : Off db u := by
  intro x n c hv hn
  obtain ⟨a, cap, hu, hc, hm, ⟨h1, h2, h3⟩ | ⟨y, h1, h2 | ⟨b, o, h2, h3, _⟩⟩⟩ := h
  · rw [hu, h1] at hv
    cases hv
  · rw [hu, h1] at hv
    simp only [Value.slice.injEq] at hv
    omega
  · rw [hu, h1, h2] at hv
    simp only [Value.slice.injEq, Option.some.injEq] at hv
    rw [← hv.1]
    show b ≠ db
    omega
theorem IsSl.slices {W W' : World} {v : Value} {ls : List ByteArray} {db : Nat} (h : IsSl W v ls) (hb : Below W.heap.size W W') (hd : W.heap.size ≤ db) : IsSlices db W' v ls := by
  obtain ⟨a, cap, hv, h | ⟨b, o, h1, h2, h3⟩⟩ := h
  · exact ⟨a, cap, hv, .inl h⟩
  · refine ⟨a, cap, hv, .inr ⟨b, o, h1, by omega, Nat.lt_of_lt_of_le h2 hb.size, fun i t ht => ?_⟩⟩
    obtain ⟨u, hu, hI⟩ := h3 i t ht
    exact ⟨u, (hb.cell (p := ⟨b, o + i, none⟩) h2).trans hu, hI.later hb, off_of hI hd⟩
theorem Dg_begin {db : Nat} {W : World} (h : W.heap[db]? = some (.cells (digC beginS (List.replicate 64 0) 0 0) 91 (0, 0))) : Dg db [] 0 W := ⟨List.replicate 64 0, by simp, by simp, h⟩
theorem sha_cells (l : List UInt8) : (Lib.byteCells l).toArray.all (·.oneCell') = true := by
  refine Array.all_eq_true_iff_forall_mem.2 (fun v hv => ?_)
  have hv' : v ∈ Lib.byteCells l := by simpa using hv
  obtain ⟨z, _, rfl⟩ := List.mem_map.1 hv'
  rfl
theorem bytes_in {W : World} {B : Nat} {ty : TypeId} {l : List UInt8} (h : W.heap[B]? = some (.cells (Lib.byteCells l).toArray ty (0, 0))) {n : Nat} (hn : l.length = n) (hm : n ≤ 1000000) : IsBytes W (.slice (some ⟨B, 0, none⟩) n n) ⟨l.toArray⟩ := by
  refine bytes_of (k := 0) h (by rw [size_of_list]; exact hn) (fun j hj => ?_) (Nat.le_refl _) (by unfold maxLen; omega) rfl
  rw [List.getElem?_toArray, byte_list, List.toList_toArray]
  unfold Lib.byteCells
  rw [List.getElem?_map, List.getElem?_eq_getElem (by omega)]
  rfl
set_option maxHeartbeats 4000000 in
theorem kSum_any (v : Value) (ls : List ByteArray) (w : World) (hI : IsSl w v ls) (hK : KTab w) (hl : (flatB ls).length ≤ 900000) (hn : ls.length ≤ 1000000) :
    Calls Tryd.prog 56 #[v] w fun e w' => (∃ B, e = .returned (.slice (some ⟨B, 0, none⟩) 32 32) ∧ w.heap.size ≤ B ∧ IsBytes w' (.slice (some ⟨B, 0, none⟩) 32 32) ⟨(shaL (flatB ls)).toArray⟩) ∧ Below w.heap.size w w' := by
  obtain ⟨hz, hi⟩ := zero_of_info infoDig
  have hBg := kBegin_any w
  have hi74 : (Tryd.prog.info? 91).map (·.size) = some (digC beginS (List.replicate 64 0) 0 0).size := hi
  have hone : (digC beginS (List.replicate 64 0) 0 0).all (·.oneCell') = true := by kernel_rfl
  have hzd : zeroDig.size = (digC beginS (List.replicate 64 0) 0 0).size := rfl
  have hDgb := fun (db : Nat) (W : World) => Dg_begin (db := db) (W := W)
  generalize digC beginS (List.replicate 64 0) 0 0 = DB at *
  go_enter Tryd.func56, Tryd.ntmps56
  go_wp2_with fail
  refine hBg.mono ?_
  rintro e w1 ⟨rfl, hb1⟩
  have hN1 := heap_push_at w1 (.cells zeroDig 91)
  have hb2 : Below w1.heap.size w1 (w1.alloc (.cells zeroDig 91)) := (Below.refl _ w1).alloc (Nat.le_refl _) _
  have hD2 : Dg w1.heap.size [] 0 ((w1.alloc (.cells zeroDig 91)).setRow w1.heap.size DB) := hDgb _ _ (setRow_block hN1)
  have hb3 : Below w1.heap.size w1 ((w1.alloc (.cells zeroDig 91)).setRow w1.heap.size DB) := below_setRow hb2 (Nat.le_refl _) _
  have hs1 := hb1.size
  have hbw3 := hb1.trans (hb3.mono hs1)
  go_wp2_with (refine wpList_store_row rfl 91 _ _ rfl w1.heap.size DB rfl (by simp [Act.eval]) _ _ hN1 hi74 hzd hone ?_)
  generalize (w1.alloc (.cells zeroDig 91)).setRow w1.heap.size DB = W3 at *
  obtain ⟨db, hdb⟩ : ∃ db, w1.heap.size = db := ⟨_, rfl⟩
  rw [hdb] at hD2 hs1 ⊢
  have hK3 := hK.later hbw3
  have hne : db ≠ 3 := by have := hK.lt; omega
  have hAdd := kAdd_any db v ls [] W3 hD2 (hI.slices hbw3 hs1) hK3 hne (by simp; omega) hn
  rw [List.nil_append] at hAdd
  refine hAdd.mono ?_
  rintro e w4 ⟨rfl, hD4, hk4⟩
  have hK4 := hK3.keepD hne hk4
  have hb4 : Below w.heap.size w w4 := hbw3.trans (hk4.below hs1 hbw3.size)
  have hEnd := kEnd_any db (flatB ls) w4 hD4 hK4 hne hl
  clear hAdd hD2 hD4
  go_wp2_with fail
  refine hEnd.mono ?_
  rintro e w5 ⟨rfl, hk5⟩
  have hb5 : Below w.heap.size w w5 := hb4.trans (hk5.below hs1 hb4.size)
  have hs5 := hb5.size
  have hSl := shaL_length (flatB ls)
  obtain ⟨SH, hSH⟩ : ∃ SH, shaL (flatB ls) = SH := ⟨_, rfl⟩
  have HSH := show Hid (shaL (flatB ls) = SH) from hSH
  rw [hSH] at hSl ⊢
  clear hSH hEnd
  have hcl : (Lib.byteCells SH).toArray.size = 32 := by rw [List.size_toArray]; simp [Lib.byteCells, hSl]
  have hN5 := heap_push_at w5 (.cells zero32b 94)
  have hi32 : (Tryd.prog.info? 94).map (·.size) = some (Lib.byteCells SH).toArray.size := by rw [hcl]; kernel_rfl
  have hzs : zero32b.size = (Lib.byteCells SH).toArray.size := by rw [hcl]; rfl
  have hS6 := setRow_block (D := (Lib.byteCells SH).toArray) hN5
  have hb6 : Below w.heap.size w ((w5.alloc (.cells zero32b 94)).setRow w5.heap.size (Lib.byteCells SH).toArray) := below_setRow (hb5.alloc hs5 _) hs5 _
  have hone6 := sha_cells SH
  unfold zero32b at hN5 hzs hS6 hb6
  go_wp2_with (refine wpList_store_row rfl 94 _ _ rfl w5.heap.size (Lib.byteCells SH).toArray rfl (by simp [Act.eval]) _ _ hN5 hi32 hzs hone6 ?_)
  generalize (w5.alloc (.cells #[.int .u8 0, .int .u8 0, .int .u8 0, .int .u8 0, .int .u8 0, .int .u8 0, .int .u8 0, .int .u8 0, .int .u8 0, .int .u8 0, .int .u8 0, .int .u8 0, .int .u8 0, .int .u8 0, .int .u8 0, .int .u8 0, .int .u8 0, .int .u8 0, .int .u8 0, .int .u8 0, .int .u8 0, .int .u8 0, .int .u8 0, .int .u8 0, .int .u8 0, .int .u8 0, .int .u8 0, .int .u8 0, .int .u8 0, .int .u8 0, .int .u8 0, .int .u8 0] 94)).setRow w5.heap.size (Lib.byteCells SH).toArray = W6 at *
  have hIB := bytes_in hS6 hSl (by omega)
  go_wp2_with fail
  go_ret
  refine ⟨⟨_, rfl, hs5, ?_⟩, hb6⟩
  rw [HSH.out]
  exact hIB
end Go.Proofs.YtpcmpeeflnlkpaaDoor

namespace Go.Proofs.YtpcmpeeflnlkpaaDoor
open Go.RowKit Ch
set_option maxRecDepth 100000

theorem mulOne (n : Nat) (hn : n ≤ 8192) (w : World) : Calls Tryd.prog 77 #[.int .u64 1, .int .u64 (n : Int)] w fun e w' => e = .returned (.tuple #[.int .u64 0, .int .u64 (n : Int)]) ∧ w' = w := by
  have h := Tryd.bits_Mul64 1 n (by decide) (by omega) w
  have e1 : 1 * n / 18446744073709551616 = 0 := by omega
  have e2 : 1 * n % 18446744073709551616 = n := by omega
  rw [e1, e2] at h
  have h' := show Calls Tryd.prog 60 #[.int .u64 1, .int .u64 (n : Int)] w _ from h
  clear h e1 e2
  go_enter Tryd.func77, Tryd.ntmps77
  go_wp2_with fail
  refine h'.mono ?_
  rintro e w1 ⟨rfl, rfl⟩
  go_wp2_with fail
  go_ret2
  exact ⟨rfl, rfl⟩
theorem mkNZ (n : Nat) (hn : n ≤ 8192) (w : World) : ∃ cs : Array Value, (callFunc 78 #[.int .i64 (n : Int)]).run Tryd.prog w = .ok (.value (.slice (some ⟨w.heap.size, 0, none⟩) n cs.size)) (w.drew.drew.alloc (.cells cs 5)) ∧ n ≤ cs.size ∧ cs.size ≤ maxLen := by
  obtain ⟨cs, hrun, hle, hmax⟩ := Lib.run_makeNoZero (P := Tryd.prog) w #[3] 22 5 Tryd.underlying22 n (by omega)
  refine ⟨cs, ?_, hle, hmax (by unfold maxLen; omega)⟩
  rw [run_callFunc_extern Tryd.func78 (by kernel_rfl) (by kernel_rfl) (by kernel_rfl) (e := Extern.BytealgMakeNoZero.makeNoZero #[3] #[22]) (by kernel_rfl), hrun]
  rfl
/-- The first k cells of a block are this byte. -/
def Fill (w : World) (g cap k : Nat) : Prop := ∃ C : Array Value, w.heap[g]? = some (.cells C 5 (0, 0)) ∧ C.size = cap ∧ ∀ i, i < k → C[i]? = some (.int .u8 255)
theorem Fill.cell {w : World} {g cap k : Nat} (h : Fill w g cap k) {i : Nat} (hi : i < k) : w.cell? ⟨g, i, none⟩ = some (.int .u8 255) := by
  obtain ⟨C, h1, _, h3⟩ := h
  exact block_cell i h1 (h3 i hi)
theorem fill_more {w : World} {g cap k m : Nat} {C : Array Value} (h1 : w.heap[g]? = some (.cells C 5 (0, 0))) (h2 : C.size = cap) (h3 : ∀ i, i < k → C[i]? = some (.int .u8 255)) (hm : k + m ≤ cap) : Fill (w.setRow g (C.toList.take k ++ List.replicate m (Value.int .u8 255) ++ C.toList.drop (k + m)).toArray) g cap (k + m) := by
  refine ⟨_, setRow_block h1, ?_, fun i hi => ?_⟩
  · simp only [List.size_toArray, List.length_append, List.length_take, List.length_drop, List.length_replicate, Array.length_toList]
    omega
  · rw [List.getElem?_toArray, List.getElem?_append_left (by simp only [List.length_append, List.length_take, List.length_replicate, Array.length_toList]; omega)]
    by_cases hik : i < k
    · rw [List.getElem?_append_left (by simp only [List.length_take, Array.length_toList]; omega), List.getElem?_take_of_lt hik, Array.getElem?_toList]
      exact h3 i hik
    · rw [List.getElem?_append_right (by simp only [List.length_take, Array.length_toList]; omega), List.getElem?_replicate, if_pos (by simp only [List.length_take, Array.length_toList]; omega)]
set_option maxHeartbeats 8000000 in
theorem sRepeat_ff (n : Nat) (v : Value) (w : World) (h : IsBytes w v ⟨([255] : List UInt8).toArray⟩) (h1 : 1 ≤ n) (hn : n ≤ 8192) :
    Calls Tryd.prog 57 #[v, .int .i64 (n : Int)] w fun e w' => (∃ x, e = .returned x ∧ IsBytes w' x ⟨(List.replicate n (255 : UInt8)).toArray⟩) ∧ Below w.heap.size w w' := by
  obtain ⟨y, c, rfl⟩ := isb_shape h
  obtain ⟨b0, o0, rfl, hb0, g0'⟩ := IsBytes.cellAt (s := ⟨([255] : List UInt8).toArray⟩) h (i := 0) (by decide)
  have HS := show Hid (w.cell? ⟨b0, o0, none⟩ = some (.int .u8 255) ∧ b0 < w.heap.size) from ⟨g0'.trans rfl, hb0⟩
  have hM := mulOne n hn
  obtain ⟨cs, hmk, hcs, hcm⟩ := mkNZ n hn w
  obtain ⟨g, hg⟩ : ∃ g, w.heap.size = g := ⟨_, rfl⟩
  obtain ⟨W1, hW1⟩ : ∃ W, w.drew.drew.alloc (.cells cs 5) = W := ⟨_, rfl⟩
  have hb1 : Below w.heap.size w W1 := by rw [← hW1]; exact ((Below.refl _ w).drew.drew).alloc (Nat.le_refl _) _
  have hN1 : W1.heap[g]? = some (.cells cs 5 (0, 0)) := by rw [← hW1, ← hg]; exact heap_push_at w.drew.drew _
  rw [hW1, hg] at hmk
  have u1 : IntKind.u64.wrap (n : Int) = (n : Int) := by rw [IntKind.wrap_u64]; omega
  have u2 : IntKind.i64.wrap (n : Int) = (n : Int) := by rw [IntKind.wrap_i64]; omega
  have e0 : ((n : Int) == 0) = false := beq_eq_false_iff_ne.2 (by omega)
  have e1 : ¬ (n : Int) < 0 := by omega
  have e2 : ¬ (9223372036854775807 : Int) < (n : Int) := by omega
  have e3 : ¬ (8192 : Int) < (n : Int) := by omega
  have e4 : (n : Int) ≤ (cs.size : Int) := by omega
  have e5 : (0 : Int) ≤ (n : Int) := by omega
  have hcb : W1.cell? ⟨b0, o0, none⟩ = some (.int .u8 255) := (hb1.cell (p := ⟨b0, o0, none⟩) hb0).trans HS.out.1
  have hC0 := run_copy_row (P := Tryd.prog) W1 22 22 3 5 g 0 n n ⟨b0, o0, none⟩ 1 c cs 5 [Value.int .u8 255] Tryd.underlying22 (by kernel_rfl) hN1 (by
      have e2 : Nat.min 1 n = min 1 n := rfl
      rw [e2]; show 1 = _; omega) (fun j u hj => by
      rcases j with _ | j
      · have hadd : (⟨b0, o0, none⟩ : Addr).add 0 = ⟨b0, o0, none⟩ := by unfold Addr.add; simp
        rw [hadd, hcb]; exact hj
      · simp at hj) (by show 0 + 1 ≤ _; omega) (fun u hu => by rw [List.mem_singleton.1 hu]; rfl)
  have hF1 := fill_more (m := 1) hN1 rfl (k := 0) (fun i hi => absurd hi (Nat.not_lt_zero _)) (by omega)
  have hb2 := below_setRow hb1 (B := g) (by omega) (cs.toList.take 0 ++ [Value.int .u8 255] ++ cs.toList.drop (0 + 1)).toArray
  obtain ⟨W2, hW2⟩ : ∃ W, W1.setRow g (cs.toList.take 0 ++ [Value.int .u8 255] ++ cs.toList.drop (0 + 1)).toArray = W := ⟨_, rfl⟩
  have hF1' := show Fill (W1.setRow g (cs.toList.take 0 ++ [Value.int .u8 255] ++ cs.toList.drop (0 + 1)).toArray) g cs.size (0 + 1) from hF1
  have hC1 := show (Builtin.copy_ #[22, 22] 3 #[.slice (some ⟨g, 0, none⟩) n n, .slice (some ⟨b0, o0, none⟩) 1 c]).run Tryd.prog W1 = .ok (.int .i64 1) (W1.setRow g (cs.toList.take 0 ++ [Value.int .u8 255] ++ cs.toList.drop (0 + 1)).toArray) from hC0
  rw [hW2] at hF1' hb2 hC1
  have HX := show Hid (Fill W2 g cs.size (0 + 1) ∧ Below w.heap.size w W2) from ⟨hF1', hb2⟩
  have hgl : w.heap.size ≤ g := by omega
  have hnm : n ≤ cs.size := hcs
  clear h g0' hb0 hC0 hF1 hF1' hb2 hN1 hb1 hcb hW1 hW2
  go_enter Tryd.func57, Tryd.ntmps57
  go_wp2_with fail
  refine (hM w).mono ?_
  rintro e w2 ⟨rfl, rfl⟩
  go_wp2_with (at_builtin; go_must (refine Go.Proofs.wpList_copy_runI W1 rfl _ _ 22 22 rfl _ _ rfl rfl hC1 ?_))
  clear hC1 hmk hM
  go_loopw [10] (fun t wr => ∃ k : Nat, Hid (1 ≤ k) ∧ k ≤ n ∧ t = .int .i64 (k : Int) ∧ Hid (Fill wr g cs.size k ∧ Below w2.heap.size w2 wr)) (fun t _ => n - (intOf t).toNat)
  case atStart => exact ⟨1, Nat.le_refl 1, h1, rfl, HX.out⟩
  case round =>
    obtain ⟨k, hk1, hk2, rfl, HF⟩ := hrel
    by_cases hlt : k < n
    · have hlt2 : (k : Int) < (n : Int) := by omega
      have hmin : min (k : Int) (n : Int) = (k : Int) := by omega
      obtain ⟨m, hm⟩ : ∃ m, min k (n - k) = m := ⟨_, rfl⟩
      obtain ⟨r, hr⟩ : ∃ r, n - k = r := ⟨_, rfl⟩
      have hkm : k + m ≤ n := by omega
      have hm1 : 1 ≤ m := by have := hk1.out; omega
      obtain ⟨⟨C, c1, c2, c3⟩, hbb⟩ := HF.out
      have hC0 := run_copy_row (P := Tryd.prog) wr.drew 22 22 3 5 g k r r ⟨g, 0, none⟩ k n C 5 (List.replicate m (Value.int .u8 255)) Tryd.underlying22 (by kernel_rfl) c1 (by
          have e2 : Nat.min k r = min k r := rfl
          rw [e2, List.length_replicate]; omega) (fun j u hj => by
          obtain ⟨hj1, rfl⟩ := List.getElem?_eq_some_iff.1 hj
          rw [List.length_replicate] at hj1
          rw [List.getElem_replicate]
          have hadd : (⟨g, 0, none⟩ : Addr).add j = ⟨g, j, none⟩ := by unfold Addr.add; split <;> simp_all
          rw [hadd]
          exact block_cell j c1 (c3 j (by omega))) (by rw [List.length_replicate]; omega) (fun u hu => by rw [List.eq_of_mem_replicate hu]; rfl)
      rw [List.length_replicate] at hC0
      have hF1 := fill_more (w := wr.drew) (m := m) c1 c2 c3 (by omega)
      have hb2 := below_setRow (hbb.drew) (B := g) (by omega) (C.toList.take k ++ List.replicate m (Value.int .u8 255) ++ C.toList.drop (k + m)).toArray
      obtain ⟨W3, hW3⟩ : ∃ W, wr.drew.setRow g (C.toList.take k ++ List.replicate m (Value.int .u8 255) ++ C.toList.drop (k + m)).toArray = W := ⟨_, rfl⟩
      have hgo : goInt (m : Int) = .int .i64 (m : Int) := by
        unfold goInt
        have p9 : IntKind.i64.wrap (m : Int) = (m : Int) := by rw [IntKind.wrap_i64]; omega
        first | rw [p9] | rfl
      rw [hgo] at hC0
      rw [hW3] at hC0 hF1 hb2
      have HX2 := show Hid (Fill W3 g cs.size (k + m) ∧ Below w2.heap.size w2 W3) from ⟨hF1, hb2⟩
      have er : (n : Int) - (k : Int) = (r : Int) := by omega
      have p1 : (0 : Int) ≤ (k : Int) := by omega
      have p2 : (k : Int) ≤ (n : Int) := by omega
      have p3 : IntKind.i64.wrap ((k : Int) + (m : Int)) = ((k : Int) + (m : Int)) := by rw [IntKind.wrap_i64]; omega
      have p4 : ¬ n = k := by omega
      clear hF1 hb2 hW3 hgo hbb c1 c2 c3 hm
      go_wp2_with fail
      go_region_law (refine Go.Proofs.step_copy_runI rfl (.tmp 70) (.tmp 73) 22 22 rfl _ _ (by simp [Act.eval, Act.put]) (by simp [Act.eval, Act.put]) hC0 ?_)
      have hfin : (∃ k' : Nat, Hid (1 ≤ k') ∧ k' ≤ n ∧ Value.int .i64 ((k : Int) + (m : Int)) = .int .i64 (k' : Int) ∧ Hid (Fill W3 g cs.size k' ∧ Below w2.heap.size w2 W3)) := ⟨k + m, show 1 ≤ k + m by omega, by omega, by rw [Int.natCast_add], HX2.out⟩
      refine ⟨⟨.int .i64 ((k : Int) + (m : Int)), _, _, _, _, _, _, _, _, _, _, _, _, _, _, _, _, ?_, rfl⟩, ?_⟩
      · obtain ⟨k', a1, a2, a3, a4⟩ := hfin
        exact ⟨k', a1, a2, a3, a4⟩
      show n - ((k : Int) + (m : Int)).toNat < n - ((k : Int)).toNat
      omega
    · obtain rfl : k = n := by omega
      have hlt3 : ¬ (k : Int) < (k : Int) := by omega
      go_wp2_with fail
      go_ret
      obtain ⟨⟨C, c1, c2, c3⟩, hbb⟩ := HF.out
      refine ⟨⟨_, rfl, bytes_of (k := 0) c1 (by rw [size_of_list]; exact List.length_replicate) (fun j hj => ?_) (Nat.le_refl _) (by unfold maxLen at hcm; unfold maxLen; omega) rfl⟩, by rw [← hg]; exact hbb⟩
      have h9 : (List.replicate k (255 : UInt8))[j]? = some 255 := by rw [List.getElem?_replicate, if_pos hj]
      rw [c3 j hj, byte_list]
      show _ = some (Value.int .u8 (((((List.replicate k (255 : UInt8)).toArray.toList)[j]?).getD 0).toNat : Int))
      rw [List.toList_toArray, h9]
      rfl
end Go.Proofs.YtpcmpeeflnlkpaaDoor
