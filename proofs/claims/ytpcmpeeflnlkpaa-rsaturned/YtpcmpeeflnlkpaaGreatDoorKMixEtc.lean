/-
  
  
-/
import Derived.Test.YtpcmpeeflnlkpaaGreatDoorKSched
import Derived.Deep.QuietTactic
import Derived.BigQuiet
import Derived.Laws.CopyRow
import Derived.Shelf.Spec.SlicesInsert
/-
  Package hash: a block mixed in.
-/
namespace Go.Proofs.YtpcmpeeflnlkpaaGreatDoor
open Go.RowKit Ch
set_option maxRecDepth 100000

/-- The rounds' words lie in their variable. -/
def KTab (W : World) : Prop := ∃ C t fr, W.heap[1]? = some (.cells C t fr) ∧ ∀ i, i < 64 → C[i]? = some (.int .u32 (atN roundK i : Int))
theorem KTab.later {W W' : World} (h : KTab W) (hb : Below W.heap.size W W') : KTab W' := by
  obtain ⟨C, t, fr, h1, h2⟩ := h
  exact ⟨C, t, fr, (hb.block _ (block_lt h1)).trans h1, h2⟩
theorem KTab.at {W : World} (h : KTab W) {i : Nat} (hi : i < 64) : W.cell? ⟨1, i, none⟩ = some (.int .u32 (atN roundK i : Int)) := by
  obtain ⟨C, t, fr, h1, h2⟩ := h
  have := h2 i hi
  simp [World.cell?, h1, this]
theorem KTab.lt {W : World} (h : KTab W) : 1 < W.heap.size := by
  obtain ⟨C, t, fr, h1, h2⟩ := h
  exact block_lt h1
theorem roundK_lt (i : Nat) : atN roundK i < 4294967296 := by
  by_cases h : i < 64
  · have : ∀ i : Fin 64, atN roundK i.val < 4294967296 := by decide +kernel
    exact this ⟨i, h⟩
  · unfold atN
    rw [List.getElem?_eq_none (by have : roundK.length = 64 := by decide
                                  omega)]
    decide
def zero8 : Array Value := #[.int .u32 0, .int .u32 0, .int .u32 0, .int .u32 0, .int .u32 0, .int .u32 0, .int .u32 0, .int .u32 0]
def cells8 (s : S8) : Array Value := #[.int .u32 (s.a : Int), .int .u32 (s.b : Int), .int .u32 (s.c : Int), .int .u32 (s.d : Int), .int .u32 (s.e : Int), .int .u32 (s.f : Int), .int .u32 (s.g : Int), .int .u32 (s.h : Int)]
theorem index8_0 (a b c d e f g h : Int) (w : World) : (Instr.index 89 (.agg #[.int .u32 a, .int .u32 b, .int .u32 c, .int .u32 d, .int .u32 e, .int .u32 f, .int .u32 g, .int .u32 h]) (.int .i64 0)).run Tryz.prog w = .ok (.int .u32 a) w := by kernel_rfl
theorem index8_1 (a b c d e f g h : Int) (w : World) : (Instr.index 89 (.agg #[.int .u32 a, .int .u32 b, .int .u32 c, .int .u32 d, .int .u32 e, .int .u32 f, .int .u32 g, .int .u32 h]) (.int .i64 1)).run Tryz.prog w = .ok (.int .u32 b) w := by kernel_rfl
theorem index8_2 (a b c d e f g h : Int) (w : World) : (Instr.index 89 (.agg #[.int .u32 a, .int .u32 b, .int .u32 c, .int .u32 d, .int .u32 e, .int .u32 f, .int .u32 g, .int .u32 h]) (.int .i64 2)).run Tryz.prog w = .ok (.int .u32 c) w := by kernel_rfl
theorem index8_3 (a b c d e f g h : Int) (w : World) : (Instr.index 89 (.agg #[.int .u32 a, .int .u32 b, .int .u32 c, .int .u32 d, .int .u32 e, .int .u32 f, .int .u32 g, .int .u32 h]) (.int .i64 3)).run Tryz.prog w = .ok (.int .u32 d) w := by kernel_rfl
theorem index8_4 (a b c d e f g h : Int) (w : World) : (Instr.index 89 (.agg #[.int .u32 a, .int .u32 b, .int .u32 c, .int .u32 d, .int .u32 e, .int .u32 f, .int .u32 g, .int .u32 h]) (.int .i64 4)).run Tryz.prog w = .ok (.int .u32 e) w := by kernel_rfl
theorem index8_5 (a b c d e f g h : Int) (w : World) : (Instr.index 89 (.agg #[.int .u32 a, .int .u32 b, .int .u32 c, .int .u32 d, .int .u32 e, .int .u32 f, .int .u32 g, .int .u32 h]) (.int .i64 5)).run Tryz.prog w = .ok (.int .u32 f) w := by kernel_rfl
theorem index8_6 (a b c d e f g h : Int) (w : World) : (Instr.index 89 (.agg #[.int .u32 a, .int .u32 b, .int .u32 c, .int .u32 d, .int .u32 e, .int .u32 f, .int .u32 g, .int .u32 h]) (.int .i64 6)).run Tryz.prog w = .ok (.int .u32 g) w := by kernel_rfl
theorem index8_7 (a b c d e f g h : Int) (w : World) : (Instr.index 89 (.agg #[.int .u32 a, .int .u32 b, .int .u32 c, .int .u32 d, .int .u32 e, .int .u32 f, .int .u32 g, .int .u32 h]) (.int .i64 7)).run Tryz.prog w = .ok (.int .u32 h) w := by kernel_rfl
/-- Eight cells of a block, one by one. -/
theorem set8_block {W : World} {B : Nat} {t : TypeId} {y0 y1 y2 y3 y4 y5 y6 y7 : Value} (h0 : W.heap[B]? = some (.cells #[y0, y1, y2, y3, y4, y5, y6, y7] t (0, 0))) (z0 z1 z2 z3 z4 z5 z6 z7 : Int) : (((((((((W).setCell ⟨B, 0, none⟩ (.int .u32 z0)).setCell ⟨B, 1, none⟩ (.int .u32 z1)).setCell ⟨B, 2, none⟩ (.int .u32 z2)).setCell ⟨B, 3, none⟩ (.int .u32 z3)).setCell ⟨B, 4, none⟩ (.int .u32 z4)).setCell ⟨B, 5, none⟩ (.int .u32 z5)).setCell ⟨B, 6, none⟩ (.int .u32 z6)).setCell ⟨B, 7, none⟩ (.int .u32 z7)).heap[B]? = some (.cells #[.int .u32 z0, .int .u32 z1, .int .u32 z2, .int .u32 z3, .int .u32 z4, .int .u32 z5, .int .u32 z6, .int .u32 z7] t (0, 0)) := by
  have h1 : ((W).setCell ⟨B, 0, none⟩ (.int .u32 z0)).heap[B]? = some (.cells #[.int .u32 z0, y1, y2, y3, y4, y5, y6, y7] t (0, 0)) := setCell_block h0
  have h2 : (((W).setCell ⟨B, 0, none⟩ (.int .u32 z0)).setCell ⟨B, 1, none⟩ (.int .u32 z1)).heap[B]? = some (.cells #[.int .u32 z0, .int .u32 z1, y2, y3, y4, y5, y6, y7] t (0, 0)) := setCell_block h1
  have h3 : ((((W).setCell ⟨B, 0, none⟩ (.int .u32 z0)).setCell ⟨B, 1, none⟩ (.int .u32 z1)).setCell ⟨B, 2, none⟩ (.int .u32 z2)).heap[B]? = some (.cells #[.int .u32 z0, .int .u32 z1, .int .u32 z2, y3, y4, y5, y6, y7] t (0, 0)) := setCell_block h2
  have h4 : (((((W).setCell ⟨B, 0, none⟩ (.int .u32 z0)).setCell ⟨B, 1, none⟩ (.int .u32 z1)).setCell ⟨B, 2, none⟩ (.int .u32 z2)).setCell ⟨B, 3, none⟩ (.int .u32 z3)).heap[B]? = some (.cells #[.int .u32 z0, .int .u32 z1, .int .u32 z2, .int .u32 z3, y4, y5, y6, y7] t (0, 0)) := setCell_block h3
  have h5 : ((((((W).setCell ⟨B, 0, none⟩ (.int .u32 z0)).setCell ⟨B, 1, none⟩ (.int .u32 z1)).setCell ⟨B, 2, none⟩ (.int .u32 z2)).setCell ⟨B, 3, none⟩ (.int .u32 z3)).setCell ⟨B, 4, none⟩ (.int .u32 z4)).heap[B]? = some (.cells #[.int .u32 z0, .int .u32 z1, .int .u32 z2, .int .u32 z3, .int .u32 z4, y5, y6, y7] t (0, 0)) := setCell_block h4
  have h6 : (((((((W).setCell ⟨B, 0, none⟩ (.int .u32 z0)).setCell ⟨B, 1, none⟩ (.int .u32 z1)).setCell ⟨B, 2, none⟩ (.int .u32 z2)).setCell ⟨B, 3, none⟩ (.int .u32 z3)).setCell ⟨B, 4, none⟩ (.int .u32 z4)).setCell ⟨B, 5, none⟩ (.int .u32 z5)).heap[B]? = some (.cells #[.int .u32 z0, .int .u32 z1, .int .u32 z2, .int .u32 z3, .int .u32 z4, .int .u32 z5, y6, y7] t (0, 0)) := setCell_block h5
  have h7 : ((((((((W).setCell ⟨B, 0, none⟩ (.int .u32 z0)).setCell ⟨B, 1, none⟩ (.int .u32 z1)).setCell ⟨B, 2, none⟩ (.int .u32 z2)).setCell ⟨B, 3, none⟩ (.int .u32 z3)).setCell ⟨B, 4, none⟩ (.int .u32 z4)).setCell ⟨B, 5, none⟩ (.int .u32 z5)).setCell ⟨B, 6, none⟩ (.int .u32 z6)).heap[B]? = some (.cells #[.int .u32 z0, .int .u32 z1, .int .u32 z2, .int .u32 z3, .int .u32 z4, .int .u32 z5, .int .u32 z6, y7] t (0, 0)) := setCell_block h6
  have h8 : (((((((((W).setCell ⟨B, 0, none⟩ (.int .u32 z0)).setCell ⟨B, 1, none⟩ (.int .u32 z1)).setCell ⟨B, 2, none⟩ (.int .u32 z2)).setCell ⟨B, 3, none⟩ (.int .u32 z3)).setCell ⟨B, 4, none⟩ (.int .u32 z4)).setCell ⟨B, 5, none⟩ (.int .u32 z5)).setCell ⟨B, 6, none⟩ (.int .u32 z6)).setCell ⟨B, 7, none⟩ (.int .u32 z7)).heap[B]? = some (.cells #[.int .u32 z0, .int .u32 z1, .int .u32 z2, .int .u32 z3, .int .u32 z4, .int .u32 z5, .int .u32 z6, .int .u32 z7] t (0, 0)) := setCell_block h7
  exact h8
/-- No other block turns. -/
theorem set8_other {W : World} {B k : Nat} (hk : k ≠ B) (z0 z1 z2 z3 z4 z5 z6 z7 : Int) : (((((((((W).setCell ⟨B, 0, none⟩ (.int .u32 z0)).setCell ⟨B, 1, none⟩ (.int .u32 z1)).setCell ⟨B, 2, none⟩ (.int .u32 z2)).setCell ⟨B, 3, none⟩ (.int .u32 z3)).setCell ⟨B, 4, none⟩ (.int .u32 z4)).setCell ⟨B, 5, none⟩ (.int .u32 z5)).setCell ⟨B, 6, none⟩ (.int .u32 z6)).setCell ⟨B, 7, none⟩ (.int .u32 z7)).heap[k]? = W.heap[k]? := by
  have hs : ∀ (W : World) (j : Nat) (v : Value), (W.setCell ⟨B, j, none⟩ v).heap[k]? = W.heap[k]? := fun W j v => Below.heap_setCell W ⟨B, j, none⟩ v k hk
  rw [hs, hs, hs, hs, hs, hs, hs, hs]
theorem set8_below {W0 W : World} {B n : Nat} (h : Below n W0 W) (hB : n ≤ B) (z0 z1 z2 z3 z4 z5 z6 z7 : Int) : Below n W0 (((((((((W).setCell ⟨B, 0, none⟩ (.int .u32 z0)).setCell ⟨B, 1, none⟩ (.int .u32 z1)).setCell ⟨B, 2, none⟩ (.int .u32 z2)).setCell ⟨B, 3, none⟩ (.int .u32 z3)).setCell ⟨B, 4, none⟩ (.int .u32 z4)).setCell ⟨B, 5, none⟩ (.int .u32 z5)).setCell ⟨B, 6, none⟩ (.int .u32 z6)).setCell ⟨B, 7, none⟩ (.int .u32 z7)) := by
  have hs : ∀ {W : World} (k : Nat) (v : Value), Below n W0 W → Below n W0 (W.setCell ⟨B, k, none⟩ v) := fun k v h => h.setCell (p := ⟨B, k, none⟩) hB v
  exact hs 7 _ (hs 6 _ (hs 5 _ (hs 4 _ (hs 3 _ (hs 2 _ (hs 1 _ (hs 0 _ h)))))))
theorem one8 (z0 z1 z2 z3 z4 z5 z6 z7 : Int) : (#[.int .u32 z0, .int .u32 z1, .int .u32 z2, .int .u32 z3, .int .u32 z4, .int .u32 z5, .int .u32 z6, .int .u32 z7] : Array Value).all (·.oneCell') = true := by
  refine Array.all_eq_true_iff_forall_mem.2 (fun v hv => ?_)
  simp only [List.mem_toArray, List.mem_cons, List.not_mem_nil, or_false] at hv
  rcases hv with rfl | rfl | rfl | rfl | rfl | rfl | rfl | rfl <;> rfl
set_option maxHeartbeats 8000000 in
theorem kMixed_any (st : S8) (x : Option Addr) (cap : Nat) (s : ByteArray) (w : World) (hok : st.ok) (hs : s.size = 64) (hB : IsBytes w (.slice x 64 cap) s) (hK : KTab w) :
    Calls Tryz.prog 91 #[.agg (cells8 st), .slice x 64 cap] w fun e w' => e = .returned (.agg (cells8 (mixS st s.data.toList))) ∧ Below w.heap.size w w' := by
  obtain ⟨a0, b0, c0, d0, e0, f0, g0, h0⟩ := st
  unfold cells8
  simp only
  have hS := fun w (h : IsBytes w (.slice x 64 cap) s) => kSchedule_any x cap s w hs h
  go_enter Tryz.func91, Tryz.ntmps91
  go_wp2_with fail
  have hb0 : Below w.heap.size w ((w.alloc (.cells (cells8 ⟨a0, b0, c0, d0, e0, f0, g0, h0⟩) 89)).alloc (.cells zero8 89)) := ((Below.refl _ w).alloc (Nat.le_refl _) _).alloc (by simp) _
  have hP0 : ((w.alloc (.cells (cells8 ⟨a0, b0, c0, d0, e0, f0, g0, h0⟩) 89)).alloc (.cells zero8 89)).heap[w.heap.size]? = some (.cells (cells8 ⟨a0, b0, c0, d0, e0, f0, g0, h0⟩) 89 (0, 0)) := block_alloc _ (heap_push_at w _)
  have hR0 : ((w.alloc (.cells (cells8 ⟨a0, b0, c0, d0, e0, f0, g0, h0⟩) 89)).alloc (.cells zero8 89)).heap[w.heap.size + 1]? = some (.cells zero8 89 (0, 0)) := by
    have := heap_push_at (w.alloc (.cells (cells8 ⟨a0, b0, c0, d0, e0, f0, g0, h0⟩) 89)) (.cells zero8 89)
    simpa using this
  generalize hg : (w.alloc (.cells (cells8 ⟨a0, b0, c0, d0, e0, f0, g0, h0⟩) 89)).alloc (.cells zero8 89) = W0 at *
  unfold cells8 zero8 at hg
  simp only at hg
  rw [hg]
  clear hg
  refine (hS W0 (hB.later hb0)).mono ?_
  rintro e w1 ⟨C, rfl, hC1, hC2, hb1⟩
  have hz0 : w.heap.size + 2 ≤ W0.heap.size := by have := block_lt hR0; omega
  have hs1 := hb1.size
  have hP1 := (hb1.block w.heap.size (by omega)).trans hP0
  have hR1 := (hb1.block (w.heap.size + 1) (by omega)).trans hR0
  have hK1 := (hK.later hb0).later hb1
  have hN1 := heap_push_at w1 (.cells zero64 126)
  have hi64 : (Tryz.prog.info? 126).map (·.size) = some C.size := by rw [hC1]; kernel_rfl
  have hall : C.all (·.oneCell') = true := all_of_words hC1 (fun i hi => ⟨_, hC2 i hi⟩)
  have hb2 : Below w.heap.size w (w1.alloc (.cells zero64 126)) := (hb0.trans (hb1.mono hb0.size)).alloc (by have := hb0.size; omega) _
  have hzz : zero64.size = C.size := by rw [hC1]; rfl
  have hb3 := below_setRow hb2 (B := w1.heap.size) (by have := hb0.size; omega) C
  have hC3 : ((w1.alloc (.cells zero64 126)).setRow w1.heap.size C).heap[w1.heap.size]? = some (.cells C 126 (0, 0)) := setRow_block hN1
  have hP3 : ((w1.alloc (.cells zero64 126)).setRow w1.heap.size C).heap[w.heap.size]? = _ := (setRow_other (by omega)).trans (block_alloc _ hP1)
  have hR3 : ((w1.alloc (.cells zero64 126)).setRow w1.heap.size C).heap[w.heap.size + 1]? = _ := (setRow_other (by omega)).trans (block_alloc _ hR1)
  have hK3 : KTab ((w1.alloc (.cells zero64 126)).setRow w1.heap.size C) := hK.later hb3
  unfold zero64 at hN1 hzz hb3 hC3 hP3 hR3 hK3
  go_wp2_with (refine wpList_store_row rfl 126 _ _ rfl w1.heap.size C rfl rfl _ _ hN1 hi64 hzz hall ?_)
  generalize (w1.alloc (.cells #[.int .u32 0, .int .u32 0, .int .u32 0, .int .u32 0, .int .u32 0, .int .u32 0, .int .u32 0, .int .u32 0, .int .u32 0, .int .u32 0, .int .u32 0, .int .u32 0, .int .u32 0, .int .u32 0, .int .u32 0, .int .u32 0, .int .u32 0, .int .u32 0, .int .u32 0, .int .u32 0, .int .u32 0, .int .u32 0, .int .u32 0, .int .u32 0, .int .u32 0, .int .u32 0, .int .u32 0, .int .u32 0, .int .u32 0, .int .u32 0, .int .u32 0, .int .u32 0, .int .u32 0, .int .u32 0, .int .u32 0, .int .u32 0, .int .u32 0, .int .u32 0, .int .u32 0, .int .u32 0, .int .u32 0, .int .u32 0, .int .u32 0, .int .u32 0, .int .u32 0, .int .u32 0, .int .u32 0, .int .u32 0, .int .u32 0, .int .u32 0, .int .u32 0, .int .u32 0, .int .u32 0, .int .u32 0, .int .u32 0, .int .u32 0, .int .u32 0, .int .u32 0, .int .u32 0, .int .u32 0, .int .u32 0, .int .u32 0, .int .u32 0, .int .u32 0] 126)).setRow w1.heap.size C = W2 at *
  have hn1 : w.heap.size + 2 ≤ w1.heap.size := by omega
  generalize w1.heap.size = NB at *
  have HC := show Hid (∀ i, i < 64 → W2.cell? ⟨NB, i, none⟩ = some (.int .u32 (wAt s.data.toList i : Int))) from fun i hi => block_cell i hC3 (hC2 i hi)
  have HK := show Hid (KTab W2) from hK3
  have HP := show Hid (W2.heap[w.heap.size]? = some (.cells (cells8 ⟨a0, b0, c0, d0, e0, f0, g0, h0⟩) 89 (0, 0))) from hP3
  have HR := show Hid (W2.heap[w.heap.size + 1]? = some (.cells zero8 89 (0, 0))) from hR3
  unfold cells8 at hP3
  simp only at hP3
  have p0 := block_cell 0 hP3 rfl
  have p1 := block_cell 1 hP3 rfl
  have p2 := block_cell 2 hP3 rfl
  have p3 := block_cell 3 hP3 rfl
  have p4 := block_cell 4 hP3 rfl
  have p5 := block_cell 5 hP3 rfl
  have p6 := block_cell 6 hP3 rfl
  have p7 := block_cell 7 hP3 rfl
  have HOK := show Hid (S8.ok ⟨a0, b0, c0, d0, e0, f0, g0, h0⟩) from hok
  clear hP3 hR3 hC3 hK3 hC1 hC2 hN1 hi64 hall hb2 hzz hP1 hR1 hK1 hs1 hb1 hP0 hR0 hb0 hS hB hK hz0 hok
  go_wp2_with fail
  go_quiet (fail)
  have hbq : Below w.heap.size w (W2.drewN nq) := below_drewN hb3 nq
  have hbW : Below W2.heap.size W2 (W2.drewN nq) := below_drewN (Below.refl _ _) nq
  clear p0 p1 p2 p3 p4 p5 p6 p7
  go_wp2_with fail
  go_loopw [6, 7, 8, 9, 10, 11, 12, 13, 37] (fun v6 v7 v8 v9 v10 v11 v12 v13 t wr => ∃ (i : Nat) (u : S8), i ≤ 64 ∧ t = .int .i64 (i : Int) ∧ v6 = .int .u32 (u.a : Int) ∧ v7 = .int .u32 (u.b : Int) ∧ v8 = .int .u32 (u.c : Int) ∧ v9 = .int .u32 (u.d : Int) ∧ v10 = .int .u32 (u.e : Int) ∧ v11 = .int .u32 (u.f : Int) ∧ v12 = .int .u32 (u.g : Int) ∧ v13 = .int .u32 (u.h : Int) ∧ Hid (rounds (schedN s.data.toList 64) ⟨a0, b0, c0, d0, e0, f0, g0, h0⟩ i = u ∧ u.ok) ∧ Below W2.heap.size W2 wr) (fun _ _ _ _ _ _ _ _ t _ => 64 - (intOf t).toNat)
  case atStart => exact ⟨0, ⟨a0, b0, c0, d0, e0, f0, g0, h0⟩, by omega, rfl, rfl, rfl, rfl, rfl, rfl, rfl, rfl, rfl, ⟨rfl, HOK.out⟩, hbW⟩
  case round =>
    obtain ⟨i, u, hi, rfl, rfl, rfl, rfl, rfl, rfl, rfl, rfl, rfl, hu, hb⟩ := hrel
    obtain ⟨a, b, c, d, e, f, g, h⟩ := u
    simp only at *
    by_cases hlt : i < 64
    · have hlt2 : (i : Int) < 64 := by omega
      obtain ⟨ka, kb, kc, kd, ke, kf, kg, kh⟩ := hu.out.2
      simp only at ka kb kc kd ke kf kg kh
      have c1 := (HK.out.later hb).at hlt
      have c2 := (hb.cell (p := ⟨NB, i, none⟩) (by have := HC.out 0 (by omega); exact cell_lt this)).trans (HC.out i hlt)
      have bK := roundK_lt i
      have bW := wAt_lt s.data.toList i
      have hbb := fun w => kBigB_any e w ke
      have hch := fun w => kChoice_any e f g w ke kf kg
      have hba := fun w => kBigA_any a w ka
      have hmj := fun w => kMajority_any a b c w ka kb kc
      have bb1 := bgB_lt ke
      have bb2 := choo_lt (x := e) kf kg
      have bb3 := bgA_lt ka
      have bb4 := maj_lt (x := a) kb kc
      have hnx : Hid (rounds (schedN s.data.toList 64) ⟨a0, b0, c0, d0, e0, f0, g0, h0⟩ (i + 1) = rnd (atN roundK i) (wAt s.data.toList i) ⟨a, b, c, d, e, f, g, h⟩ ∧ (rnd (atN roundK i) (wAt s.data.toList i) ⟨a, b, c, d, e, f, g, h⟩).ok) := by
        refine ⟨?_, rnd_ok hu.out.2⟩
        rw [rounds, hu.out.1]
        rfl
      unfold rnd at hnx
      simp only at hnx
      generalize bgB e = X1 at *
      generalize chooN e f g = X2 at *
      generalize bgA a = X3 at *
      generalize majN a b c = X4 at *
      generalize atN roundK i = KK at *
      generalize wAt s.data.toList i = WW at *
      clear hu
      go_wp2_with fail
      go_quiet (first | (go_at_call 103; exact Calls.quiet_of_same (hbb _)) | (go_at_call 104; exact Calls.quiet_of_same (hch _)))
      have hbn := below_drewN hb nq
      generalize wr.drewN nq = wq at *
      go_wp2_with (first | (go_at_call 105; refine (hba _).mono ?_; rintro e w9 ⟨rfl, rfl⟩) | (go_at_call 106; refine (hmj _).mono ?_; rintro e w9 ⟨rfl, rfl⟩))
      go_roundw
      case rel => exact ⟨i + 1, _, by omega, by go_num, congrArg (Value.int .u32) (by simp only; omega), rfl, rfl, rfl, congrArg (Value.int .u32) (by simp only; omega), rfl, rfl, rfl, hnx, hbn⟩
      case measure => simp [intOf]; omega
    · have hlt2 : ¬ (i : Int) < 64 := by omega
      obtain rfl : i = 64 := by omega
      have hPr := (hb.block w.heap.size (block_lt HP.out)).trans HP.out
      have hRr := (hb.block (w.heap.size + 1) (block_lt HR.out)).trans HR.out
      obtain ⟨ka, kb, kc, kd, ke, kf, kg, kh⟩ := hu.out.2
      obtain ⟨la, lb, lc, ld, le, lf, lg, lh⟩ := HOK.out
      simp only at ka kb kc kd ke kf kg kh la lb lc ld le lf lg lh
      have hmix : Hid (mixS ⟨a0, b0, c0, d0, e0, f0, g0, h0⟩ s.data.toList = addS ⟨a0, b0, c0, d0, e0, f0, g0, h0⟩ ⟨a, b, c, d, e, f, g, h⟩) := by
        unfold Hid mixS
        rw [hu.out.1]
      have hbA := hb3.trans (hb.mono (by have := hb3.size; omega))
      unfold cells8 at hPr
      simp only at hPr
      have p0 := block_cell 0 hPr rfl
      have q0 := block_free 0 hPr
      have p1 := block_cell 1 hPr rfl
      have q1 := block_free 1 hPr
      have p2 := block_cell 2 hPr rfl
      have q2 := block_free 2 hPr
      have p3 := block_cell 3 hPr rfl
      have q3 := block_free 3 hPr
      have p4 := block_cell 4 hPr rfl
      have q4 := block_free 4 hPr
      have p5 := block_cell 5 hPr rfl
      have q5 := block_free 5 hPr
      have p6 := block_cell 6 hPr rfl
      have q6 := block_free 6 hPr
      have p7 := block_cell 7 hPr rfl
      have q7 := block_free 7 hPr
      have HPr := show Hid (wr.heap[w.heap.size]? = some (.cells (cells8 ⟨a0, b0, c0, d0, e0, f0, g0, h0⟩) 89 (0, 0))) from hPr
      have HRr := show Hid (wr.heap[w.heap.size + 1]? = some (.cells zero8 89 (0, 0))) from hRr
      clear hPr hRr hu
      have ix0 := fun w => index8_0 a b c d e f g h w
      have ix1 := fun w => index8_1 a b c d e f g h w
      have ix2 := fun w => index8_2 a b c d e f g h w
      have ix3 := fun w => index8_3 a b c d e f g h w
      have ix4 := fun w => index8_4 a b c d e f g h w
      have ix5 := fun w => index8_5 a b c d e f g h w
      have ix6 := fun w => index8_6 a b c d e f g h w
      have ix7 := fun w => index8_7 a b c d e f g h w
      go_wp2_with fail
      refine wp_loop_rounds 9 ?_
      rw [rounds_succ]
      go_wp2_with fail
      rw [rounds_succ]
      go_wp2_with fail
      rw [rounds_succ]
      go_wp2_with fail
      rw [rounds_succ]
      go_wp2_with fail
      rw [rounds_succ]
      go_wp2_with fail
      rw [rounds_succ]
      go_wp2_with fail
      rw [rounds_succ]
      go_wp2_with fail
      rw [rounds_succ]
      go_wp2_with fail
      have hP9 := set8_block HPr.out ((a0 + a : Int) % 4294967296) ((b0 + b : Int) % 4294967296) ((c0 + c : Int) % 4294967296) ((d0 + d : Int) % 4294967296) ((e0 + e : Int) % 4294967296) ((f0 + f : Int) % 4294967296) ((g0 + g : Int) % 4294967296) ((h0 + h : Int) % 4294967296)
      have hR9 := (set8_other (W := wr) (B := w.heap.size) (k := w.heap.size + 1) (by omega) ((a0 + a : Int) % 4294967296) ((b0 + b : Int) % 4294967296) ((c0 + c : Int) % 4294967296) ((d0 + d : Int) % 4294967296) ((e0 + e : Int) % 4294967296) ((f0 + f : Int) % 4294967296) ((g0 + g : Int) % 4294967296) ((h0 + h : Int) % 4294967296)).trans HRr.out
      have hB9 := set8_below (W0 := w) (W := wr) (B := w.heap.size) (n := w.heap.size) hbA (Nat.le_refl _) ((a0 + a : Int) % 4294967296) ((b0 + b : Int) % 4294967296) ((c0 + c : Int) % 4294967296) ((d0 + d : Int) % 4294967296) ((e0 + e : Int) % 4294967296) ((f0 + f : Int) % 4294967296) ((g0 + g : Int) % 4294967296) ((h0 + h : Int) % 4294967296)
      generalize ((((((((wr).setCell ⟨w.heap.size, 0, none⟩ (.int .u32 ((a0 + a : Int) % 4294967296))).setCell ⟨w.heap.size, 1, none⟩ (.int .u32 ((b0 + b : Int) % 4294967296))).setCell ⟨w.heap.size, 2, none⟩ (.int .u32 ((c0 + c : Int) % 4294967296))).setCell ⟨w.heap.size, 3, none⟩ (.int .u32 ((d0 + d : Int) % 4294967296))).setCell ⟨w.heap.size, 4, none⟩ (.int .u32 ((e0 + e : Int) % 4294967296))).setCell ⟨w.heap.size, 5, none⟩ (.int .u32 ((f0 + f : Int) % 4294967296))).setCell ⟨w.heap.size, 6, none⟩ (.int .u32 ((g0 + g : Int) % 4294967296))).setCell ⟨w.heap.size, 7, none⟩ (.int .u32 ((h0 + h : Int) % 4294967296)) = W9 at *
      rw [rounds_succ]
      have hi8 : (Tryz.prog.info? 89).map (·.size) = some (#[.int .u32 ((a0 + a : Int) % 4294967296), .int .u32 ((b0 + b : Int) % 4294967296), .int .u32 ((c0 + c : Int) % 4294967296), .int .u32 ((d0 + d : Int) % 4294967296), .int .u32 ((e0 + e : Int) % 4294967296), .int .u32 ((f0 + f : Int) % 4294967296), .int .u32 ((g0 + g : Int) % 4294967296), .int .u32 ((h0 + h : Int) % 4294967296)] : Array Value).size := by kernel_rfl
      have h1a : (#[.int .u32 ((a0 + a : Int) % 4294967296), .int .u32 ((b0 + b : Int) % 4294967296), .int .u32 ((c0 + c : Int) % 4294967296), .int .u32 ((d0 + d : Int) % 4294967296), .int .u32 ((e0 + e : Int) % 4294967296), .int .u32 ((f0 + f : Int) % 4294967296), .int .u32 ((g0 + g : Int) % 4294967296), .int .u32 ((h0 + h : Int) % 4294967296)] : Array Value).all (·.oneCell') = true := one8 _ _ _ _ _ _ _ _
      have HB9 := show Hid (Below w.heap.size w (W9.setRow (w.heap.size + 1) #[.int .u32 ((a0 + a : Int) % 4294967296), .int .u32 ((b0 + b : Int) % 4294967296), .int .u32 ((c0 + c : Int) % 4294967296), .int .u32 ((d0 + d : Int) % 4294967296), .int .u32 ((e0 + e : Int) % 4294967296), .int .u32 ((f0 + f : Int) % 4294967296), .int .u32 ((g0 + g : Int) % 4294967296), .int .u32 ((h0 + h : Int) % 4294967296)])) from below_setRow hB9 (Nat.le_succ _) _
      have hR10 := setRow_block (D := #[.int .u32 ((a0 + a : Int) % 4294967296), .int .u32 ((b0 + b : Int) % 4294967296), .int .u32 ((c0 + c : Int) % 4294967296), .int .u32 ((d0 + d : Int) % 4294967296), .int .u32 ((e0 + e : Int) % 4294967296), .int .u32 ((f0 + f : Int) % 4294967296), .int .u32 ((g0 + g : Int) % 4294967296), .int .u32 ((h0 + h : Int) % 4294967296)]) hR9
      unfold zero8 at hR9
      go_wp2_with (first
        | refine wpList_load_row rfl 89 _ rfl w.heap.size rfl _ _ _ _ hP9 Tryz.underlying89 rfl hi8 ?_
        | refine wpList_store_row rfl 89 _ _ rfl (w.heap.size + 1) _ rfl rfl _ _ hR9 hi8 rfl h1a ?_)
      refine bodyPost_ret (v := .agg #[.int .u32 ((a0 + a : Int) % 4294967296), .int .u32 ((b0 + b : Int) % 4294967296), .int .u32 ((c0 + c : Int) % 4294967296), .int .u32 ((d0 + d : Int) % 4294967296), .int .u32 ((e0 + e : Int) % 4294967296), .int .u32 ((f0 + f : Int) % 4294967296), .int .u32 ((g0 + g : Int) % 4294967296), .int .u32 ((h0 + h : Int) % 4294967296)]) ?_ rfl ⟨?_, HB9.out⟩
      · exact results_cell_row rfl _ _ (w.heap.size + 1) _ _ _ _ rfl hR10 Tryz.underlying89 rfl hi8
      · rw [hmix.out]
        simp [addS]
end Go.Proofs.YtpcmpeeflnlkpaaGreatDoor

/-
  Package hash: a digest under way, in a block of its own.
-/
namespace Go.Proofs.YtpcmpeeflnlkpaaGreatDoor
open Go.RowKit Ch
set_option maxRecDepth 100000

/-- The cells of a digest under way. -/
def digL (st : S8) (rest : List UInt8) (held size : Nat) : List Value :=
  .int .u32 (st.a : Int) :: .int .u32 (st.b : Int) :: .int .u32 (st.c : Int) :: .int .u32 (st.d : Int) :: .int .u32 (st.e : Int) :: .int .u32 (st.f : Int) :: .int .u32 (st.g : Int) :: .int .u32 (st.h : Int) :: (Lib.byteCells rest ++ [.int .i64 (held : Int), .int .u64 (size : Int)])
def digC (st : S8) (rest : List UInt8) (held size : Nat) : Array Value := (digL st rest held size).toArray
theorem digL_length (st : S8) {rest : List UInt8} (h : rest.length = 64) (held size : Nat) : (digL st rest held size).length = 74 := by
  simp [digL, Lib.byteCells, h]
theorem digC_size (st : S8) {rest : List UInt8} (h : rest.length = 64) (held size : Nat) : (digC st rest held size).size = 74 := by
  unfold digC
  rw [List.size_toArray, digL_length st h]
theorem digC_held (st : S8) {rest : List UInt8} (h : rest.length = 64) (held size : Nat) : (digC st rest held size)[72]? = some (.int .i64 (held : Int)) := by
  unfold digC digL
  rw [List.getElem?_toArray]
  simp only [List.getElem?_cons_succ]
  rw [List.getElem?_append_right (by simp [Lib.byteCells, h])]
  simp [Lib.byteCells, h]
theorem digC_count (st : S8) {rest : List UInt8} (h : rest.length = 64) (held size : Nat) : (digC st rest held size)[73]? = some (.int .u64 (size : Int)) := by
  unfold digC digL
  rw [List.getElem?_toArray]
  simp only [List.getElem?_cons_succ]
  rw [List.getElem?_append_right (by simp [Lib.byteCells, h])]
  simp [Lib.byteCells, h]
theorem digC_rest (st : S8) {rest : List UInt8} (held size : Nat) {j : Nat} {c : UInt8} (hj : rest[j]? = some c) : (digC st rest held size)[8 + j]? = some (.int .u8 (c.toNat : Int)) := by
  unfold digC digL
  rw [List.getElem?_toArray, Nat.add_comm]
  simp only [List.getElem?_cons_succ]
  rw [List.getElem?_append_left (by simp only [Lib.byteCells, List.length_map]; exact (List.getElem?_eq_some_iff.1 hj).1)]
  simp [Lib.byteCells, hj]
theorem digC_setHeld (st : S8) {rest : List UInt8} (h : rest.length = 64) (held size held' : Nat) : (digC st rest held size).setIfInBounds 72 (.int .i64 (held' : Int)) = digC st rest held' size := by
  unfold digC digL
  rw [List.setIfInBounds_toArray]
  simp only [List.set_cons_succ]
  rw [List.set_append_right _ _ (by simp [Lib.byteCells, h])]
  simp [Lib.byteCells, h]
theorem digC_setCount (st : S8) {rest : List UInt8} (h : rest.length = 64) (held size size' : Nat) : (digC st rest held size).setIfInBounds 73 (.int .u64 (size' : Int)) = digC st rest held size' := by
  unfold digC digL
  rw [List.setIfInBounds_toArray]
  simp only [List.set_cons_succ]
  rw [List.set_append_right _ _ (by simp [Lib.byteCells, h])]
  simp [Lib.byteCells, h]
/-- Bytes laid into the rest. -/
theorem digC_splice (st : S8) {rest : List UInt8} (h : rest.length = 64) (held size at_ : Nat) (cs : List UInt8) (hc : at_ + cs.length ≤ 64) :
    ((digC st rest held size).toList.take (8 + at_) ++ Lib.byteCells cs ++ (digC st rest held size).toList.drop (8 + at_ + (Lib.byteCells cs).length)).toArray = digC st (rest.take at_ ++ cs ++ rest.drop (at_ + cs.length)) held size := by
  unfold digC
  congr 1
  have hl : (Lib.byteCells cs).length = cs.length := by simp [Lib.byteCells]
  rw [List.toList_toArray, hl]
  unfold digL
  rw [show 8 + at_ = at_ + 1 + 1 + 1 + 1 + 1 + 1 + 1 + 1 by omega, show at_ + 1 + 1 + 1 + 1 + 1 + 1 + 1 + 1 + cs.length = at_ + cs.length + 1 + 1 + 1 + 1 + 1 + 1 + 1 + 1 by omega]
  simp only [List.take_succ_cons, List.drop_succ_cons, List.cons_append]
  have hb : (Lib.byteCells rest).length = 64 := by simp [Lib.byteCells, h]
  rw [List.take_append_of_le_length (by omega), List.drop_append_of_le_length (by omega)]
  simp only [Lib.byteCells, List.map_append, List.map_take, List.map_drop, List.append_assoc]
/-- What a call leaves: all blocks but the digest's own. -/
structure KeptD (db : Nat) (W W' : World) : Prop where
  os : W'.os = W.os
  tape : W'.tape = W.tape
  output : W'.output = W.output
  size : W.heap.size ≤ W'.heap.size
  block : ∀ k, k < W.heap.size → k ≠ db → W'.heap[k]? = W.heap[k]?
theorem KeptD.refl (db : Nat) (W : World) : KeptD db W W := ⟨rfl, rfl, rfl, Nat.le_refl _, fun _ _ _ => rfl⟩
theorem KeptD.trans {db : Nat} {a b c : World} (h : KeptD db a b) (k : KeptD db b c) : KeptD db a c :=
  ⟨k.os.trans h.os, k.tape.trans h.tape, k.output.trans h.output, Nat.le_trans h.size k.size, fun j hj hn => (k.block j (Nat.lt_of_lt_of_le hj h.size) hn).trans (h.block j hj hn)⟩
theorem KeptD.of {db : Nat} {a b : World} (h : Below a.heap.size a b) : KeptD db a b := ⟨h.os, h.tape, h.output, h.size, fun k hk _ => h.block k hk⟩
theorem KeptD.drew {db : Nat} {a b : World} (h : KeptD db a b) : KeptD db a b.drew := h.trans (.of (Below.refl _ _).drew)
theorem KeptD.setCell {db : Nat} {a b : World} (h : KeptD db a b) (i : Nat) (u : Value) : KeptD db a (b.setCell ⟨db, i, none⟩ u) :=
  h.trans ⟨rfl, rfl, rfl, by rw [setCell_size]; exact Nat.le_refl _, fun k _ hn => Below.heap_setCell _ ⟨db, i, none⟩ _ _ hn⟩
theorem KeptD.setRow {db : Nat} {a b : World} (h : KeptD db a b) (C : Array Value) : KeptD db a (b.setRow db C) :=
  h.trans ⟨rfl, rfl, rfl, by rw [setRow_size]; exact Nat.le_refl _, fun k _ hn => setRow_other hn⟩
theorem KeptD.below {db n : Nat} {a b : World} (h : KeptD db a b) (hn : n ≤ db) (hs : n ≤ a.heap.size) : Below n a b :=
  ⟨h.os, h.tape, h.output, h.size, fun k hk => h.block k (by omega) (by omega)⟩
/-- Bytes that don't lie in a block. -/
def Off (db : Nat) (v : Value) : Prop := ∀ x n c, v = .slice (some x) n c → n ≠ 0 → x.block ≠ db
theorem IsBytes.keepD {db : Nat} {W W' : World} {v : Value} {s : ByteArray} (h : IsBytes W v s) (ho : Off db v) (hk : KeptD db W W') : IsBytes W' v s := by
  obtain ⟨a, cap, hv, hc, hm, h | ⟨x, ha, h⟩⟩ := h
  · exact ⟨a, cap, hv, hc, hm, .inl h⟩
  · refine ⟨a, cap, hv, hc, hm, .inr ⟨x, ha, ?_⟩⟩
    rcases h with h | ⟨b, o, hx, hb, hf⟩
    · exact .inl h
    · by_cases h0 : s.size = 0
      · exact .inl h0
      · have hne : b ≠ db := by
          have := ho x s.size cap (by rw [hv, ha]) h0
          rw [hx] at this
          exact this
        refine .inr ⟨b, o, hx, Nat.lt_of_lt_of_le hb hk.size, fun i hi => ?_⟩
        rw [← hf i hi]
        exact World.cell?_of_block (w := W) (a := ⟨b, o + i, none⟩) (hk.block b hb hne)
theorem KTab.keepD {db : Nat} {W W' : World} (h : KTab W) (hd : db ≠ 1) (hk : KeptD db W W') : KTab W' := by
  have hl := h.lt
  obtain ⟨C, t, fr, h1, h2⟩ := h
  exact ⟨C, t, fr, (hk.block _ hl (fun e => hd e.symm)).trans h1, h2⟩
/-- The digest of m so far, and of sz bytes in all, lies in block db. -/
def Dg (db : Nat) (m : List UInt8) (sz : Nat) (W : World) : Prop := ∃ rest : List UInt8, rest.length = 64 ∧ rest.take (m.length % 64) = m.drop (64 * (m.length / 64)) ∧ W.heap[db]? = some (.cells (digC (blocksS m (m.length / 64)) rest (m.length % 64) sz) 92 (0, 0))
/-- A block of its own, at once. -/
theorem blocks_more {m t : List UInt8} (hm : m.length % 64 = 0) (ht : t.length = 64) : blocksS (m ++ t) ((m ++ t).length / 64) = mixS (blocksS m (m.length / 64)) t := by
  have e : (m ++ t).length / 64 = m.length / 64 + 1 := by rw [List.length_append]; omega
  rw [e, blocksS, blocksS_append _ _ _ (by omega)]
  congr 1
  rw [show 64 * (m.length / 64) = m.length by omega, List.drop_left, List.take_of_length_le (by omega)]
/-- Bytes that don't fill a block. -/
theorem blocks_same {m t : List UInt8} (ht : m.length % 64 + t.length < 64) : blocksS (m ++ t) ((m ++ t).length / 64) = blocksS m (m.length / 64) := by
  have e : (m ++ t).length / 64 = m.length / 64 := by rw [List.length_append]; omega
  rw [e, blocksS_append _ _ _ (by omega)]
/-- Bytes that fill a block. -/
theorem blocks_full {m t : List UInt8} (ht : m.length % 64 + t.length = 64) : blocksS (m ++ t) ((m ++ t).length / 64) = mixS (blocksS m (m.length / 64)) (m.drop (64 * (m.length / 64)) ++ t) := by
  have e : (m ++ t).length / 64 = m.length / 64 + 1 := by rw [List.length_append]; omega
  rw [e, blocksS, blocksS_append _ _ _ (by omega)]
  congr 1
  rw [List.drop_append_of_le_length (by omega), List.take_of_length_le (by rw [List.length_append, List.length_drop]; omega)]
theorem Dg_more {db sz : Nat} {m t rest : List UInt8} {W : World} (hm : m.length % 64 = 0) (ht : t.length = 64) (r1 : rest.length = 64) (h : W.heap[db]? = some (.cells (digC (mixS (blocksS m (m.length / 64)) t) rest 0 sz) 92 (0, 0))) : Dg db (m ++ t) sz W := by
  have e : (m ++ t).length % 64 = 0 := by rw [List.length_append]; omega
  refine ⟨rest, r1, ?_, ?_⟩
  · rw [e, List.take_zero, List.drop_of_length_le (by omega)]
  · rw [e, blocks_more hm ht]
    exact h
theorem Dg_part {db sz : Nat} {m t rest : List UInt8} {W : World} (ht : m.length % 64 + t.length < 64) (r1 : rest.length = 64) (r2 : rest.take (m.length % 64) = m.drop (64 * (m.length / 64))) (h : W.heap[db]? = some (.cells (digC (blocksS m (m.length / 64)) (rest.take (m.length % 64) ++ t ++ rest.drop (m.length % 64 + t.length)) (m.length % 64 + t.length) sz) 92 (0, 0))) : Dg db (m ++ t) sz W := by
  have e : (m ++ t).length % 64 = m.length % 64 + t.length := by rw [List.length_append]; omega
  have e2 : (m ++ t).length / 64 = m.length / 64 := by rw [List.length_append]; omega
  refine ⟨rest.take (m.length % 64) ++ t ++ rest.drop (m.length % 64 + t.length), ?_, ?_, ?_⟩
  · simp only [List.length_append, List.length_take, List.length_drop]
    omega
  · rw [e, e2, List.take_append_of_le_length (by simp only [List.length_append, List.length_take]; omega), List.take_of_length_le (by simp only [List.length_append, List.length_take]; omega), r2, List.drop_append_of_le_length (by omega)]
  · rw [e, blocks_same ht]
    exact h
theorem Dg_fill {db sz : Nat} {m t rest : List UInt8} {W : World} (ht : m.length % 64 + t.length = 64) (r2 : rest.take (m.length % 64) = m.drop (64 * (m.length / 64))) {rest' : List UInt8} (r1 : rest'.length = 64) (h : W.heap[db]? = some (.cells (digC (mixS (blocksS m (m.length / 64)) (rest.take (m.length % 64) ++ t)) rest' 0 sz) 92 (0, 0))) : Dg db (m ++ t) sz W := by
  have e : (m ++ t).length % 64 = 0 := by rw [List.length_append]; omega
  refine ⟨rest', r1, ?_, ?_⟩
  · rw [e, List.take_zero, List.drop_of_length_le (by omega)]
  · rw [e, blocks_full ht, ← r2]
    exact h
end Go.Proofs.YtpcmpeeflnlkpaaGreatDoor
