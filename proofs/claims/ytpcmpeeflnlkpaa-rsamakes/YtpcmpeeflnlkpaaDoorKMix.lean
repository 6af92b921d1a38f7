/-
  Package hash: a block mixed in.
-/
import Derived.Test.YtpcmpeeflnlkpaaDoorKSched
import Derived.Deep.QuietTactic
import Derived.BigQuiet
namespace Go.Proofs.YtpcmpeeflnlkpaaDoor
open Go.RowKit Ch
set_option maxRecDepth 100000

/-- The rounds' words lie in their variable. -/
def KTab (W : World) : Prop := ∃ C t fr, W.heap[3]? = some (.cells C t fr) ∧ ∀ i, i < 64 → C[i]? = some (.int .u32 (atN roundK i : Int))
theorem KTab.later {W W' : World} (h : KTab W) (hb : Below W.heap.size W W') : KTab W' := by
  obtain ⟨C, t, fr, h1, h2⟩ := h
  exact ⟨C, t, fr, (hb.block _ (block_lt h1)).trans h1, h2⟩
theorem KTab.at {W : World} (h : KTab W) {i : Nat} (hi : i < 64) : W.cell? ⟨3, i, none⟩ = some (.int .u32 (atN roundK i : Int)) := by
  obtain ⟨C, t, fr, h1, h2⟩ := h
  have := h2 i hi
  simp [World.cell?, h1, this]
theorem KTab.lt {W : World} (h : KTab W) : 3 < W.heap.size := by
  obtain ⟨C, t, fr, h1, h2⟩ := h
  exact block_lt h1
theorem roundK_lt (i : Nat) : atN roundK i < 4294967296 := by
  by_cases h : i < 64
  · have : ∀ i : Fin 64, atN roundK i.val < 4294967296 := by decide +kernel
    exact this ⟨i, h⟩
  · unfold atN
    rw [List.getElem?_eq_none (by have : roundK.length = 64 := by decide
                                  omega)]
    decide
def zero8 : Array Value := #[.int .u32 0, .int .u32 0, .int .u32 0, .int .u32 0, .int .u32 0, .int .u32 0, .int .u32 0, .int .u32 0]
def cells8 (s : S8) : Array Value := #[.int .u32 (s.a : Int), .int .u32 (s.b : Int), .int .u32 (s.c : Int), .int .u32 (s.d : Int), .int .u32 (s.e : Int), .int .u32 (s.f : Int), .int .u32 (s.g : Int), .int .u32 (s.h : Int)]
theorem index8_0 (a b c d e f g h : Int) (w : World) : (Instr.index 88 (.agg #[.int .u32 a, .int .u32 b, .int .u32 c, .int .u32 d, .int .u32 e, .int .u32 f, .int .u32 g, .int .u32 h]) (.int .i64 0)).run Tryd.prog w = .ok (.int .u32 a) w := by kernel_rfl
theorem index8_1 (a b c d e f g h : Int) (w : World) : (Instr.index 88 (.agg #[.int .u32 a, .int .u32 b, .int .u32 c, .int .u32 d, .int .u32 e, .int .u32 f, .int .u32 g, .int .u32 h]) (.int .i64 1)).run Tryd.prog w = .ok (.int .u32 b) w := by kernel_rfl
theorem index8_2 (a b c d e f g h : Int) (w : World) : (Instr.index 88 (.agg #[.int .u32 a, .int .u32 b, .int .u32 c, .int .u32 d, .int .u32 e, .int .u32 f, .int .u32 g, .int .u32 h]) (.int .i64 2)).run Tryd.prog w = .ok (.int .u32 c) w := by kernel_rfl
theorem index8_3 (a b c d e f g h : Int) (w : World) : (Instr.index 88 (.agg #[.int .u32 a, .int .u32 b, .int .u32 c, .int .u32 d, .int .u32 e, .int .u32 f, .int .u32 g, .int .u32 h]) (.int .i64 3)).run Tryd.prog w = .ok (.int .u32 d) w := by kernel_rfl
theorem index8_4 (a b c d e f g h : Int) (w : World) : (Instr.index 88 (.agg #[.int .u32 a, .int .u32 b, .int .u32 c, .int .u32 d, .int .u32 e, .int .u32 f, .int .u32 g, .int .u32 h]) (.int .i64 4)).run Tryd.prog w = .ok (.int .u32 e) w := by kernel_rfl
theorem index8_5 (a b c d e f g h : Int) (w : World) : (Instr.index 88 (.agg #[.int .u32 a, .int .u32 b, .int .u32 c, .int .u32 d, .int .u32 e, .int .u32 f, .int .u32 g, .int .u32 h]) (.int .i64 5)).run Tryd.prog w = .ok (.int .u32 f) w := by kernel_rfl
theorem index8_6 (a b c d e f g h : Int) (w : World) : (Instr.index 88 (.agg #[.int .u32 a, .int .u32 b, .int .u32 c, .int .u32 d, .int .u32 e, .int .u32 f, .int .u32 g, .int .u32 h]) (.int .i64 6)).run Tryd.prog w = .ok (.int .u32 g) w := by kernel_rfl
theorem index8_7 (a b c d e f g h : Int) (w : World) : (Instr.index 88 (.agg #[.int .u32 a, .int .u32 b, .int .u32 c, .int .u32 d, .int .u32 e, .int .u32 f, .int .u32 g, .int .u32 h]) (.int .i64 7)).run Tryd.prog w = .ok (.int .u32 h) w := by kernel_rfl
/-- Eight cells of a block, one by one. -/
theorem set8_block {W : World} {B : Nat} {t : TypeId} {y0 y1 y2 y3 y4 y5 y6 y7 : Value} (h0 : W.heap[B]? = some (.cells #[y0, y1, y2, y3, y4, y5, y6, y7] t (0, 0))) (z0 z1 z2 z3 z4 z5 z6 z7 : Int) : (((((((((W).setCell ⟨B, 0, none⟩ (.int .u32 z0)).setCell ⟨B, 1, none⟩ (.int .u32 z1)).setCell ⟨B, 2, none⟩ (.int .u32 z2)).setCell ⟨B, 3, none⟩ (.int .u32 z3)).setCell ⟨B, 4, none⟩ (.int .u32 z4)).setCell ⟨B, 5, none⟩ (.int .u32 z5)).setCell ⟨B, 6, none⟩ (.int .u32 z6)).setCell ⟨B, 7, none⟩ (.int .u32 z7)).heap[B]? = some (.cells #[.int .u32 z0, .int .u32 z1, .int .u32 z2, .int .u32 z3, .int .u32 z4, .int .u32 z5, .int .u32 z6, .int .u32 z7] t (0, 0)) := by
  have h1 : ((W).setCell ⟨B, 0, none⟩ (.int .u32 z0)).heap[B]? = some (.cells #[.int .u32 z0, y1, y2, y3, y4, y5, y6, y7] t (0, 0)) := setCell_block h0
  have h2 : (((W).setCell ⟨B, 0, none⟩ (.int .u32 z0)).setCell ⟨B, 1, none⟩ (.int .u32 z1)).heap[B]? = some (.cells #[.int .u32 z0, .int .u32 z1, y2, y3, y4, y5, y6, y7] t (0, 0)) := setCell_block h1
  have h3 : ((((W).setCell ⟨B, 0, none⟩ (.int .u32 z0)).setCell ⟨B, 1, none⟩ (.int .u32 z1)).setCell ⟨B, 2, none⟩ (.int .u32 z2)).heap[B]? = some (.cells #[.int .u32 z0, .int .u32 z1, .int .u32 z2, y3, y4, y5, y6, y7] t (0, 0)) := setCell_block h2
  have h4 : (((((W).setCell ⟨B, 0, none⟩ (.int .u32 z0)).setCell ⟨B, 1, none⟩ (.int .u32 z1)).setCell ⟨B, 2, none⟩ (.int .u32 z2)).setCell ⟨B, 3, none⟩ (.int .u32 z3)).heap[B]? = some (.cells #[.int .u32 z0, .int .u32 z1, .int .u32 z2, .int .u32 z3, y4, y5, y6, y7] t (0, 0)) := setCell_block h3
  have h5 : ((((((W).setCell ⟨B, 0, none⟩ (.int .u32 z0)).setCell ⟨B, 1, none⟩ (.int .u32 z1)).setCell ⟨B, 2, none⟩ (.int .u32 z2)).setCell ⟨B, 3, none⟩ (.int .u32 z3)).setCell ⟨B, 4, none⟩ (.int .u32 z4)).heap[B]? = some (.cells #[.int .u32 z0, .int .u32 z1, .int .u32 z2, .int .u32 z3, .int .u32 z4, y5, y6, y7] t (0, 0)) := setCell_block h4
  have h6 : (((((((W).setCell ⟨B, 0, none⟩ (.int .u32 z0)).setCell ⟨B, 1, none⟩ (.int .u32 z1)).setCell ⟨B, 2, none⟩ (.int .u32 z2)).setCell ⟨B, 3, none⟩ (.int .u32 z3)).setCell ⟨B, 4, none⟩ (.int .u32 z4)).setCell ⟨B, 5, none⟩ (.int .u32 z5)).heap[B]? = some (.cells #[.int .u32 z0, .int .u32 z1, .int .u32 z2, .int .u32 z3, .int .u32 z4, .int .u32 z5, y6, y7] t (0, 0)) := setCell_block h5
  have h7 : ((((((((W).setCell ⟨B, 0, none⟩ (.int .u32 z0)).setCell ⟨B, 1, none⟩ (.int .u32 z1)).setCell ⟨B, 2, none⟩ (.int .u32 z2)).setCell ⟨B, 3, none⟩ (.int .u32 z3)).setCell ⟨B, 4, none⟩ (.int .u32 z4)).setCell ⟨B, 5, none⟩ (.int .u32 z5)).setCell ⟨B, 6, none⟩ (.int .u32 z6)).heap[B]? = some (.cells #[.int .u32 z0, .int .u32 z1, .int .u32 z2, .int .u32 z3, .int .u32 z4, .int .u32 z5, .int .u32 z6, y7] t (0, 0)) := setCell_block h6
  have h8 : (((((((((W).setCell ⟨B, 0, none⟩ (.int .u32 z0)).setCell ⟨B, 1, none⟩ (.int .u32 z1)).setCell ⟨B, 2, none⟩ (.int .u32 z2)).setCell ⟨B, 3, none⟩ (.int .u32 z3)).setCell ⟨B, 4, none⟩ (.int .u32 z4)).setCell ⟨B, 5, none⟩ (.int .u32 z5)).setCell ⟨B, 6, none⟩ (.int .u32 z6)).setCell ⟨B, 7, none⟩ (.int .u32 z7)).heap[B]? = some (.cells #[.int .u32 z0, .int .u32 z1, .int .u32 z2, .int .u32 z3, .int .u32 z4, .int .u32 z5, .int .u32 z6, .int .u32 z7] t (0, 0)) := setCell_block h7
  exact h8
/-- No other block turns. -/
theorem set8_other {W : World} {B k : Nat} (hk : k ≠ B) (z0 z1 z2 z3 z4 z5 z6 z7 : Int) : (((((((((W).setCell ⟨B, 0, none⟩ (.int .u32 z0)).setCell ⟨B, 1, none⟩ (.int .u32 z1)).setCell ⟨B, 2, none⟩ (.int .u32 z2)).setCell ⟨B, 3, none⟩ (.int .u32 z3)).setCell ⟨B, 4, none⟩ (.int .u32 z4)).setCell ⟨B, 5, none⟩ (.int .u32 z5)).setCell ⟨B, 6, none⟩ (.int .u32 z6)).setCell ⟨B, 7, none⟩ (.int .u32 z7)).heap[k]? = W.heap[k]? := by
  have hs : ∀ (W : World) (j : Nat) (v : Value), (W.setCell ⟨B, j, none⟩ v).heap[k]? = W.heap[k]? := fun W j v => Below.heap_setCell W ⟨B, j, none⟩ v k hk
  rw [hs, hs, hs, hs, hs, hs, hs, hs]
theorem set8_below {W0 W : World} {B n : Nat} (h : Below n W0 W) (hB : n ≤ B) (z0 z1 z2 z3 z4 z5 z6 z7 : Int) : Below n W0 (((((((((W).setCell ⟨B, 0, none⟩ (.int .u32 z0)).setCell ⟨B, 1, none⟩ (.int .u32 z1)).setCell ⟨B, 2, none⟩ (.int .u32 z2)).setCell ⟨B, 3, none⟩ (.int .u32 z3)).setCell ⟨B, 4, none⟩ (.int .u32 z4)).setCell ⟨B, 5, none⟩ (.int .u32 z5)).setCell ⟨B, 6, none⟩ (.int .u32 z6)).setCell ⟨B, 7, none⟩ (.int .u32 z7)) := by
  have hs : ∀ {W : World} (k : Nat) (v : Value), Below n W0 W → Below n W0 (W.setCell ⟨B, k, none⟩ v) := fun k v h => h.setCell (p := ⟨B, k, none⟩) hB v
  exact hs 7 _ (hs 6 _ (hs 5 _ (hs 4 _ (hs 3 _ (hs 2 _ (hs 1 _ (hs 0 _ h)))))))
theorem one8 (z0 z1 z2 z3 z4 z5 z6 z7 : Int) : (#[.int .u32 z0, .int .u32 z1, .int .u32 z2, .int .u32 z3, .int .u32 z4, .int .u32 z5, .int .u32 z6, .int .u32 z7] : Array Value).all (·.oneCell') = true := by
  refine Array.all_eq_true_iff_forall_mem.2 (fun v hv => ?_)
  simp only [List.mem_toArray, List.mem_cons, List.not_mem_nil, or_false] at hv
  rcases hv with rfl | rfl | rfl | rfl | rfl | rfl | rfl | rfl <;> rfl
set_option maxHeartbeats 8000000 in
theorem kMixed_any (st : S8) (x : Option Addr) (cap : Nat) (s : ByteArray) (w : World) (hok : st.ok) (hs : s.size = 64) (hB : IsBytes w (.slice x 64 cap) s) (hK : KTab w) :
    Calls Tryd.prog 83 #[.agg (cells8 st), .slice x 64 cap] w fun e w' => e = .returned (.agg (cells8 (mixS st s.data.toList))) ∧ Below w.heap.size w w' := by
  obtain ⟨a0, b0, c0, d0, e0, f0, g0, h0⟩ := st
  unfold cells8
  simp only
  have hS := fun w (h : IsBytes w (.slice x 64 cap) s) => kSchedule_any x cap s w hs h
  go_enter Tryd.func83, Tryd.ntmps83
  go_wp2_with fail
  have hb0 : Below w.heap.size w ((w.alloc (.cells (cells8 ⟨a0, b0, c0, d0, e0, f0, g0, h0⟩) 88)).alloc (.cells zero8 88)) := ((Below.refl _ w).alloc (Nat.le_refl _) _).alloc (by simp) _
  have hP0 : ((w.alloc (.cells (cells8 ⟨a0, b0, c0, d0, e0, f0, g0, h0⟩) 88)).alloc (.cells zero8 88)).heap[w.heap.size]? = some (.cells (cells8 ⟨a0, b0, c0, d0, e0, f0, g0, h0⟩) 88 (0, 0)) := block_alloc _ (heap_push_at w _)
  have hR0 : ((w.alloc (.cells (cells8 ⟨a0, b0, c0, d0, e0, f0, g0, h0⟩) 88)).alloc (.cells zero8 88)).heap[w.heap.size + 1]? = some (.cells zero8 88 (0, 0)) := by
    have := heap_push_at (w.alloc (.cells (cells8 ⟨a0, b0, c0, d0, e0, f0, g0, h0⟩) 88)) (.cells zero8 88)
    simpa using this
  generalize hg : (w.alloc (.cells (cells8 ⟨a0, b0, c0, d0, e0, f0, g0, h0⟩) 88)).alloc (.cells zero8 88) = W0 at *
  unfold cells8 zero8 at hg
  simp only at hg
  rw [hg]
  clear hg
  refine (hS W0 (hB.later hb0)).mono ?_
  rintro e w1 ⟨C, rfl, hC1, hC2, hb1⟩
  have hz0 : w.heap.size + 2 ≤ W0.heap.size := by have := block_lt hR0; omega
  have hs1 := hb1.size
  have hP1 := (hb1.block w.heap.size (by omega)).trans hP0
  have hR1 := (hb1.block (w.heap.size + 1) (by omega)).trans hR0
  have hK1 := (hK.later hb0).later hb1
  have hN1 := heap_push_at w1 (.cells zero64 109)
  have hi64 : (Tryd.prog.info? 109).map (·.size) = some C.size := by rw [hC1]; kernel_rfl
  have hall : C.all (·.oneCell') = true := all_of_words hC1 (fun i hi => ⟨_, hC2 i hi⟩)
  have hb2 : Below w.heap.size w (w1.alloc (.cells zero64 109)) := (hb0.trans (hb1.mono hb0.size)).alloc (by have := hb0.size; omega) _
  have hzz : zero64.size = C.size := by rw [hC1]; rfl
  have hb3 := below_setRow hb2 (B := w1.heap.size) (by have := hb0.size; omega) C
  have hC3 : ((w1.alloc (.cells zero64 109)).setRow w1.heap.size C).heap[w1.heap.size]? = some (.cells C 109 (0, 0)) := setRow_block hN1
  have hP3 : ((w1.alloc (.cells zero64 109)).setRow w1.heap.size C).heap[w.heap.size]? = _ := (setRow_other (by omega)).trans (block_alloc _ hP1)
  have hR3 : ((w1.alloc (.cells zero64 109)).setRow w1.heap.size C).heap[w.heap.size + 1]? = _ := (setRow_other (by omega)).trans (block_alloc _ hR1)
  have hK3 : KTab ((w1.alloc (.cells zero64 109)).setRow w1.heap.size C) := hK.later hb3
  unfold zero64 at hN1 hzz hb3 hC3 hP3 hR3 hK3
  go_wp2_with (refine wpList_store_row rfl 109 _ _ rfl w1.heap.size C rfl rfl _ _ hN1 hi64 hzz hall ?_)
  generalize (w1.alloc (.cells #[.int .u32 0, .int .u32 0, .int .u32 0, .int .u32 0, .int .u32 0, .int .u32 0, .int .u32 0, .int .u32 0, .int .u32 0, .int .u32 0, .int .u32 0, .int .u32 0, .int .u32 0, .int .u32 0, .int .u32 0, .int .u32 0, .int .u32 0, .int .u32 0, .int .u32 0, .int .u32 0, .int .u32 0, .int .u32 0, .int .u32 0, .int .u32 0, .int .u32 0, .int .u32 0, .int .u32 0, .int .u32 0, .int .u32 0, .int .u32 0, .int .u32 0, .int .u32 0, .int .u32 0, .int .u32 0, .int .u32 0, .int .u32 0, .int .u32 0, .int .u32 0, .int .u32 0, .int .u32 0, .int .u32 0, .int .u32 0, .int .u32 0, .int .u32 0, .int .u32 0, .int .u32 0, .int .u32 0, .int .u32 0, .int .u32 0, .int .u32 0, .int .u32 0, .int .u32 0, .int .u32 0, .int .u32 0, .int .u32 0, .int .u32 0, .int .u32 0, .int .u32 0, .int .u32 0, .int .u32 0, .int .u32 0, .int .u32 0, .int .u32 0, .int .u32 0] 109)).setRow w1.heap.size C = W2 at *
  have hn1 : w.heap.size + 2 ≤ w1.heap.size := by omega
  generalize w1.heap.size = NB at *
  have HC := show Hid (∀ i, i < 64 → W2.cell? ⟨NB, i, none⟩ = some (.int .u32 (wAt s.data.toList i : Int))) from fun i hi => block_cell i hC3 (hC2 i hi)
  have HK := show Hid (KTab W2) from hK3
  have HP := show Hid (W2.heap[w.heap.size]? = some (.cells (cells8 ⟨a0, b0, c0, d0, e0, f0, g0, h0⟩) 88 (0, 0))) from hP3
  have HR := show Hid (W2.heap[w.heap.size + 1]? = some (.cells zero8 88 (0, 0))) from hR3
  unfold cells8 at hP3
  simp only at hP3
  have p0 := block_cell 0 hP3 rfl
  have p1 := block_cell 1 hP3 rfl
  have p2 := block_cell 2 hP3 rfl
  have p3 := block_cell 3 hP3 rfl
  have p4 := block_cell 4 hP3 rfl
  have p5 := block_cell 5 hP3 rfl
  have p6 := block_cell 6 hP3 rfl
  have p7 := block_cell 7 hP3 rfl
  have HOK := show Hid (S8.ok ⟨a0, b0, c0, d0, e0, f0, g0, h0⟩) from hok
  clear hP3 hR3 hC3 hK3 hC1 hC2 hN1 hi64 hall hb2 hzz hP1 hR1 hK1 hs1 hb1 hP0 hR0 hb0 hS hB hK hz0 hok
  go_wp2_with fail
  go_quiet (fail)
  have hbq : Below w.heap.size w (W2.drewN nq) := below_drewN hb3 nq
  have hbW : Below W2.heap.size W2 (W2.drewN nq) := below_drewN (Below.refl _ _) nq
  clear p0 p1 p2 p3 p4 p5 p6 p7
  go_wp2_with fail
  go_loopw [6, 7, 8, 9, 10, 11, 12, 13, 37] (fun v6 v7 v8 v9 v10 v11 v12 v13 t wr => ∃ (i : Nat) (u : S8), i ≤ 64 ∧ t = .int .i64 (i : Int) ∧ v6 = .int .u32 (u.a : Int) ∧ v7 = .int .u32 (u.b : Int) ∧ v8 = .int .u32 (u.c : Int) ∧ v9 = .int .u32 (u.d : Int) ∧ v10 = .int .u32 (u.e : Int) ∧ v11 = .int .u32 (u.f : Int) ∧ v12 = .int .u32 (u.g : Int) ∧ v13 = .int .u32 (u.h : Int) ∧ Hid (rounds (schedN s.data.toList 64) ⟨a0, b0, c0, d0, e0, f0, g0, h0⟩ i = u ∧ u.ok) ∧ Below W2.heap.size W2 wr) (fun _ _ _ _ _ _ _ _ t _ => 64 - (intOf t).toNat)
  case atStart => exact ⟨0, ⟨a0, b0, c0, d0, e0, f0, g0, h0⟩, by omega, rfl, rfl, rfl, rfl, rfl, rfl, rfl, rfl, rfl, ⟨rfl, HOK.out⟩, hbW⟩
  case round =>
    obtain ⟨i, u, hi, rfl, rfl, rfl, rfl, rfl, rfl, rfl, rfl, rfl, hu, hb⟩ := hrel
    obtain ⟨a, b, c, d, e, f, g, h⟩ := u
    simp only at *
    by_cases hlt : i < 64
    · have hlt2 : (i : Int) < 64 := by omega
      obtain ⟨ka, kb, kc, kd, ke, kf, kg, kh⟩ := hu.out.2
      simp only at ka kb kc kd ke kf kg kh
      have c1 := (HK.out.later hb).at hlt
      have c2 := (hb.cell (p := ⟨NB, i, none⟩) (by have := HC.out 0 (by omega); exact cell_lt this)).trans (HC.out i hlt)
      have bK := roundK_lt i
      have bW := wAt_lt s.data.toList i
      have hbb := fun w => kBigB_any e w ke
      have hch := fun w => kChoice_any e f g w ke kf kg
      have hba := fun w => kBigA_any a w ka
      have hmj := fun w => kMajority_any a b c w ka kb kc
      have bb1 := bgB_lt ke
      have bb2 := choo_lt (x := e) kf kg
      have bb3 := bgA_lt ka
      have bb4 := maj_lt (x := a) kb kc
      have hnx : Hid (rounds (schedN s.data.toList 64) ⟨a0, b0, c0, d0, e0, f0, g0, h0⟩ (i + 1) = rnd (atN roundK i) (wAt s.data.toList i) ⟨a, b, c, d, e, f, g, h⟩ ∧ (rnd (atN roundK i) (wAt s.data.toList i) ⟨a, b, c, d, e, f, g, h⟩).ok) := by
        refine ⟨?_, rnd_ok hu.out.2⟩
        rw [rounds, hu.out.1]
        rfl
      unfold rnd at hnx
      simp only at hnx
      generalize bgB e = X1 at *
      generalize chooN e f g = X2 at *
      generalize bgA a = X3 at *
      generalize majN a b c = X4 at *
      generalize atN roundK i = KK at *
      generalize wAt s.data.toList i = WW at *
      clear hu
      go_wp2_with fail
      go_quiet (first | (go_at_call 87; exact Calls.quiet_of_same (hbb _)) | (go_at_call 88; exact Calls.quiet_of_same (hch _)))
      have hbn := below_drewN hb nq
      generalize wr.drewN nq = wq at *
      go_wp2_with (first | (go_at_call 89; refine (hba _).mono ?_; rintro e w9 ⟨rfl, rfl⟩) | (go_at_call 90; refine (hmj _).mono ?_; rintro e w9 ⟨rfl, rfl⟩))
      go_roundw
      case rel => exact ⟨i + 1, _, by omega, by go_num, congrArg (Value.int .u32) (by simp only; omega), rfl, rfl, rfl, congrArg (Value.int .u32) (by simp only; omega), rfl, rfl, rfl, hnx, hbn⟩
      case measure => simp [intOf]; omega
    · have hlt2 : ¬ (i : Int) < 64 := by omega
      obtain rfl : i = 64 := by omega
      have hPr := (hb.block w.heap.size (block_lt HP.out)).trans HP.out
      have hRr := (hb.block (w.heap.size + 1) (block_lt HR.out)).trans HR.out
      obtain ⟨ka, kb, kc, kd, ke, kf, kg, kh⟩ := hu.out.2
      obtain ⟨la, lb, lc, ld, le, lf, lg, lh⟩ := HOK.out
      simp only at ka kb kc kd ke kf kg kh la lb lc ld le lf lg lh
      have hmix : Hid (mixS ⟨a0, b0, c0, d0, e0, f0, g0, h0⟩ s.data.toList = addS ⟨a0, b0, c0, d0, e0, f0, g0, h0⟩ ⟨a, b, c, d, e, f, g, h⟩) := by
        unfold Hid mixS
        rw [hu.out.1]
      have hbA := hb3.trans (hb.mono (by have := hb3.size; omega))
      unfold cells8 at hPr
      simp only at hPr
      have p0 := block_cell 0 hPr rfl
      have q0 := block_free 0 hPr
      have p1 := block_cell 1 hPr rfl
      have q1 := block_free 1 hPr
      have p2 := block_cell 2 hPr rfl
      have q2 := block_free 2 hPr
      have p3 := block_cell 3 hPr rfl
      have q3 := block_free 3 hPr
      have p4 := block_cell 4 hPr rfl
      have q4 := block_free 4 hPr
      have p5 := block_cell 5 hPr rfl
      have q5 := block_free 5 hPr
      have p6 := block_cell 6 hPr rfl
      have q6 := block_free 6 hPr
      have p7 := block_cell 7 hPr rfl
      have q7 := block_free 7 hPr
      have HPr := show Hid (wr.heap[w.heap.size]? = some (.cells (cells8 ⟨a0, b0, c0, d0, e0, f0, g0, h0⟩) 88 (0, 0))) from hPr
      have HRr := show Hid (wr.heap[w.heap.size + 1]? = some (.cells zero8 88 (0, 0))) from hRr
      clear hPr hRr hu
      have ix0 := fun w => index8_0 a b c d e f g h w
      have ix1 := fun w => index8_1 a b c d e f g h w
      have ix2 := fun w => index8_2 a b c d e f g h w
      have ix3 := fun w => index8_3 a b c d e f g h w
      have ix4 := fun w => index8_4 a b c d e f g h w
      have ix5 := fun w => index8_5 a b c d e f g h w
      have ix6 := fun w => index8_6 a b c d e f g h w
      have ix7 := fun w => index8_7 a b c d e f g h w
      go_wp2_with fail
      refine wp_loop_rounds 9 ?_
      rw [rounds_succ]
      go_wp2_with fail
      rw [rounds_succ]
      go_wp2_with fail
      rw [rounds_succ]
      go_wp2_with fail
      rw [rounds_succ]
      go_wp2_with fail
      rw [rounds_succ]
      go_wp2_with fail
      rw [rounds_succ]
      go_wp2_with fail
      rw [rounds_succ]
      go_wp2_with fail
      rw [rounds_succ]
      go_wp2_with fail
      have hP9 := set8_block HPr.out ((a0 + a : Int) % 4294967296) ((b0 + b : Int) % 4294967296) ((c0 + c : Int) % 4294967296) ((d0 + d : Int) % 4294967296) ((e0 + e : Int) % 4294967296) ((f0 + f : Int) % 4294967296) ((g0 + g : Int) % 4294967296) ((h0 + h : Int) % 4294967296)
      have hR9 := (set8_other (W := wr) (B := w.heap.size) (k := w.heap.size + 1) (by omega) ((a0 + a : Int) % 4294967296) ((b0 + b : Int) % 4294967296) ((c0 + c : Int) % 4294967296) ((d0 + d : Int) % 4294967296) ((e0 + e : Int) % 4294967296) ((f0 + f : Int) % 4294967296) ((g0 + g : Int) % 4294967296) ((h0 + h : Int) % 4294967296)).trans HRr.out
      have hB9 := set8_below (W0 := w) (W := wr) (B := w.heap.size) (n := w.heap.size) hbA (Nat.le_refl _) ((a0 + a : Int) % 4294967296) ((b0 + b : Int) % 4294967296) ((c0 + c : Int) % 4294967296) ((d0 + d : Int) % 4294967296) ((e0 + e : Int) % 4294967296) ((f0 + f : Int) % 4294967296) ((g0 + g : Int) % 4294967296) ((h0 + h : Int) % 4294967296)
      generalize ((((((((wr).setCell ⟨w.heap.size, 0, none⟩ (.int .u32 ((a0 + a : Int) % 4294967296))).setCell ⟨w.heap.size, 1, none⟩ (.int .u32 ((b0 + b : Int) % 4294967296))).setCell ⟨w.heap.size, 2, none⟩ (.int .u32 ((c0 + c : Int) % 4294967296))).setCell ⟨w.heap.size, 3, none⟩ (.int .u32 ((d0 + d : Int) % 4294967296))).setCell ⟨w.heap.size, 4, none⟩ (.int .u32 ((e0 + e : Int) % 4294967296))).setCell ⟨w.heap.size, 5, none⟩ (.int .u32 ((f0 + f : Int) % 4294967296))).setCell ⟨w.heap.size, 6, none⟩ (.int .u32 ((g0 + g : Int) % 4294967296))).setCell ⟨w.heap.size, 7, none⟩ (.int .u32 ((h0 + h : Int) % 4294967296)) = W9 at *
      rw [rounds_succ]
      have hi8 : (Tryd.prog.info? 88).map (·.size) = some (#[.int .u32 ((a0 + a : Int) % 4294967296), .int .u32 ((b0 + b : Int) % 4294967296), .int .u32 ((c0 + c : Int) % 4294967296), .int .u32 ((d0 + d : Int) % 4294967296), .int .u32 ((e0 + e : Int) % 4294967296), .int .u32 ((f0 + f : Int) % 4294967296), .int .u32 ((g0 + g : Int) % 4294967296), .int .u32 ((h0 + h : Int) % 4294967296)] : Array Value).size := by kernel_rfl
      have h1a : (#[.int .u32 ((a0 + a : Int) % 4294967296), .int .u32 ((b0 + b : Int) % 4294967296), .int .u32 ((c0 + c : Int) % 4294967296), .int .u32 ((d0 + d : Int) % 4294967296), .int .u32 ((e0 + e : Int) % 4294967296), .int .u32 ((f0 + f : Int) % 4294967296), .int .u32 ((g0 + g : Int) % 4294967296), .int .u32 ((h0 + h : Int) % 4294967296)] : Array Value).all (·.oneCell') = true := one8 _ _ _ _ _ _ _ _
      have HB9 := show Hid (Below w.heap.size w (W9.setRow (w.heap.size + 1) #[.int .u32 ((a0 + a : Int) % 4294967296), .int .u32 ((b0 + b : Int) % 4294967296), .int .u32 ((c0 + c : Int) % 4294967296), .int .u32 ((d0 + d : Int) % 4294967296), .int .u32 ((e0 + e : Int) % 4294967296), .int .u32 ((f0 + f : Int) % 4294967296), .int .u32 ((g0 + g : Int) % 4294967296), .int .u32 ((h0 + h : Int) % 4294967296)])) from below_setRow hB9 (Nat.le_succ _) _
      have hR10 := setRow_block (D := #[.int .u32 ((a0 + a : Int) % 4294967296), .int .u32 ((b0 + b : Int) % 4294967296), .int .u32 ((c0 + c : Int) % 4294967296), .int .u32 ((d0 + d : Int) % 4294967296), .int .u32 ((e0 + e : Int) % 4294967296), .int .u32 ((f0 + f : Int) % 4294967296), .int .u32 ((g0 + g : Int) % 4294967296), .int .u32 ((h0 + h : Int) % 4294967296)]) hR9
      unfold zero8 at hR9
      go_wp2_with (first
        | refine wpList_load_row rfl 88 _ rfl w.heap.size rfl _ _ _ _ hP9 Tryd.underlying88 rfl hi8 ?_
        | refine wpList_store_row rfl 88 _ _ rfl (w.heap.size + 1) _ rfl rfl _ _ hR9 hi8 rfl h1a ?_)
      refine bodyPost_ret (v := .agg #[.int .u32 ((a0 + a : Int) % 4294967296), .int .u32 ((b0 + b : Int) % 4294967296), .int .u32 ((c0 + c : Int) % 4294967296), .int .u32 ((d0 + d : Int) % 4294967296), .int .u32 ((e0 + e : Int) % 4294967296), .int .u32 ((f0 + f : Int) % 4294967296), .int .u32 ((g0 + g : Int) % 4294967296), .int .u32 ((h0 + h : Int) % 4294967296)]) ?_ rfl ⟨?_, HB9.out⟩
      · exact results_cell_row rfl _ _ (w.heap.size + 1) _ _ _ _ rfl hR10 Tryd.underlying88 rfl hi8
      · rw [hmix.out]
        simp [addS]
end Go.Proofs.YtpcmpeeflnlkpaaDoor
