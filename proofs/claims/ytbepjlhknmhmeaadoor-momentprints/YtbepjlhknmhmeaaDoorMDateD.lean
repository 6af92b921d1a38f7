/-
  Package moment: Date.
-/
import Derived.Test.YtbepjlhknmhmeaaDoorMDate
import Derived.Test.YtbepjlhknmhmeaaDoorMTimeT
import Derived.Test.YtbepjlhknmhmeaaDoorMBack
namespace Go.Proofs.YtbepjlhknmhmeaaDoor
open Go.RowKit Ch
set_option maxRecDepth 100000

/-- So many milliseconds from 1970 on are this day and this time of it. -/
structure MomOf (ms : Int) (y m d t : Nat) : Prop where
  day : IsDay y m d
  time : t < 86400000
  is : ms = (dayN y m d : Int) * 86400000 + (t : Int) - 62135596800000
def IsMom (ms : Int) : Prop := -62135596800000 ≤ ms ∧ ms ≤ 253402300799999
instance (ms : Int) : Decidable (IsMom ms) := by unfold IsMom; infer_instance
theorem dayN_small {y m d : Nat} (h : IsDay y m d) : dayN y m d < 3652059 := by
  have h1 := (day_year h).2
  have h2 := aheadY_le (a := y + 1) (b := 10000) (by omega) (by have := h.1.2; omega)
  rw [aheadY_end] at h2
  omega
theorem mom_ex {ms : Int} (h : IsMom ms) : ∃ y m d t, MomOf ms y m d t := by
  unfold IsMom at h
  obtain ⟨T, hT⟩ : ∃ T : Nat, ms + 62135596800000 = (T : Int) := ⟨(ms + 62135596800000).toNat, by omega⟩
  obtain ⟨y, m, d, hd, hn⟩ := day_ex (T / 86400000) (by omega)
  exact ⟨y, m, d, T % 86400000, hd, Nat.mod_lt _ (by decide), by rw [hn]; omega⟩
theorem MomOf.mom {ms : Int} {y m d t : Nat} (h : MomOf ms y m d t) : IsMom ms := by
  have := dayN_small h.day
  have := h.time
  have := h.is
  unfold IsMom
  omega
theorem MomOf.inj {ms : Int} {y m d t y' m' d' t' : Nat} (h : MomOf ms y m d t) (h' : MomOf ms y' m' d' t') : y = y' ∧ m = m' ∧ d = d' ∧ t = t' := by
  have e := h.is.symm.trans h'.is
  have a := h.time
  have b := h'.time
  have e2 : dayN y m d = dayN y' m' d' := by omega
  obtain ⟨rfl, rfl, rfl⟩ := dayN_inj h.day h'.day e2
  exact ⟨rfl, rfl, rfl, by omega⟩
theorem mIsM (n : Int) (w : World) : Calls Tryd.prog 24 #[.int .i64 n] w fun e w' => e = .returned (.bool (decide (IsMom n))) ∧ w' = w := mIs_any n w
theorem cells3 {W : World} {b : Nat} {x y z : Value} {t : TypeId} (h : W.heap[b]? = some (.cells #[x, y, z] t)) : W.cell? ⟨b, 0, none⟩ = some x ∧ W.cell? ⟨b, 1, none⟩ = some y ∧ W.cell? ⟨b, 2, none⟩ = some z ∧ W.frozen? ⟨b, 0, none⟩ = false ∧ W.frozen? ⟨b, 1, none⟩ = false ∧ W.frozen? ⟨b, 2, none⟩ = false :=
  ⟨block_cell 0 h rfl, block_cell 1 h rfl, block_cell 2 h rfl, block_free 0 h, block_free 1 h, block_free 2 h⟩
theorem set3 {W : World} {b : Nat} {x y z : Value} {t : TypeId} (h : W.heap[b]? = some (.cells #[x, y, z] t)) (x' y' z' : Value) : (((W.setCell ⟨b, 0, none⟩ x').setCell ⟨b, 1, none⟩ y').setCell ⟨b, 2, none⟩ z').heap[b]? = some (.cells #[x', y', z'] t) :=
  setCell_block (i := 2) (u := z') (setCell_block (i := 1) (u := y') (setCell_block (i := 0) (u := x') h))
theorem below3 {w W : World} {b : Nat} (h : Below w.heap.size w W) (hb : w.heap.size ≤ b) (x' y' z' : Value) : Below w.heap.size w (((W.setCell ⟨b, 0, none⟩ x').setCell ⟨b, 1, none⟩ y').setCell ⟨b, 2, none⟩ z') :=
  ((h.setCell (p := ⟨b, 0, none⟩) hb x').setCell (p := ⟨b, 1, none⟩) hb y').setCell (p := ⟨b, 2, none⟩) hb z'
set_option maxHeartbeats 4000000 in
theorem mDate_bad (ms : Int) (w : World) (h : ¬ IsMom ms) : Calls Tryd.prog 10 #[.int .i64 ms] w fun e w' => e = .returned (.tuple #[.agg #[.int .i64 0, .int .i64 0, .int .i64 0], .int .i64 21]) ∧ Below w.heap.size w w' := by
  have e1 := heap_push_at w (.cells #[.int .i64 0, .int .i64 0, .int .i64 0] 26)
  have b1 := alB w (.cells #[.int .i64 0, .int .i64 0, .int .i64 0] 26)
  obtain ⟨q, hq⟩ : ∃ q, w.heap.size = q := ⟨_, rfl⟩
  obtain ⟨W1, hW1⟩ : ∃ W, w.alloc (.cells #[.int .i64 0, .int .i64 0, .int .i64 0] 26) = W := ⟨_, rfl⟩
  rw [hW1] at e1 b1
  have hI := mIsM ms W1
  rw [decide_eq_false h] at hI
  have HB := show Hid (Below w.heap.size w W1 ∧ w.heap.size = q) from ⟨b1, hq⟩
  rw [hq] at e1
  obtain ⟨c0, c1, c2, f0, f1, f2⟩ := cells3 e1
  clear b1 h
  go_enter Tryd.func10, Tryd.ntmps10
  go_wp2_with fail
  refine hI.mono ?_
  rintro e w1 ⟨rfl, rfl⟩
  clear hI
  have h3 := set3 e1 (.int .i64 0) (.int .i64 0) (.int .i64 0)
  have b3 := below3 HB.out.1 (by have := HB.out.2; omega : w.heap.size ≤ q) (.int .i64 0) (.int .i64 0) (.int .i64 0)
  go_wp2_with fail
  generalize ((w1.setCell ⟨q, 0, none⟩ (.int .i64 0)).setCell ⟨q, 1, none⟩ (.int .i64 0)).setCell ⟨q, 2, none⟩ (.int .i64 0) = W3 at h3 b3 ⊢
  obtain ⟨q0, q1, q2, _, _, _⟩ := cells3 h3
  refine bodyPost_ret (v := .tuple #[.agg #[.int .i64 0, .int .i64 0, .int .i64 0], .int .i64 21]) ?_ rfl ⟨rfl, b3⟩
  rw [results_cell_tmp rfl]
  go_simp
set_option maxHeartbeats 4000000 in
theorem mDate_ok (ms : Int) (y m d t : Nat) (w : World) (h : MomOf ms y m d t) (hT : MTab w) : Calls Tryd.prog 10 #[.int .i64 ms] w fun e w' => e = .returned (.tuple #[.agg #[.int .i64 (y : Int), .int .i64 (m : Int), .int .i64 (d : Int)], .int .i64 0]) ∧ Below w.heap.size w w' := by
  have e1 := heap_push_at w (.cells #[.int .i64 0, .int .i64 0, .int .i64 0] 26)
  have b1 := alB w (.cells #[.int .i64 0, .int .i64 0, .int .i64 0] 26)
  obtain ⟨q, hq⟩ : ∃ q, w.heap.size = q := ⟨_, rfl⟩
  obtain ⟨W1, hW1⟩ : ∃ W, w.alloc (.cells #[.int .i64 0, .int .i64 0, .int .i64 0] 26) = W := ⟨_, rfl⟩
  rw [hW1] at e1 b1
  have hI := mIsM ms W1
  rw [decide_eq_true h.mom] at hI
  have hD := mDateOf_any y m d W1 (hT.later b1) h.day
  have hs := dayN_small h.day
  have ht := h.time
  have hm := h.is
  obtain ⟨n, hn⟩ : ∃ n, dayN y m d = n := ⟨_, rfl⟩
  rw [hn] at hD hs hm
  obtain ⟨T, hTT⟩ : ∃ T : Nat, n * 86400000 + t = T := ⟨_, rfl⟩
  have w1 : IntKind.i64.wrap (ms - -62135596800000) = (T : Int) := by rw [IntKind.wrap_i64]; omega
  have w1' : IntKind.i64.wrap (ms + 62135596800000) = (T : Int) := by rw [IntKind.wrap_i64]; omega
  have w2 : (T : Int).tdiv 86400000 = (n : Int) := by
    rw [show (T : Int).tdiv 86400000 = ((T / 86400000 : Nat) : Int) from rfl]
    omega
  have w3 : wrap64 (n : Int) = (n : Int) := by unfold wrap64; omega
  have HB := show Hid (Below w.heap.size w W1 ∧ w.heap.size = q ∧ W1.heap[q]? = some (.cells #[.int .i64 0, .int .i64 0, .int .i64 0] 26)) from ⟨b1, hq, by rw [← hq]; exact e1⟩
  clear b1 h e1 hT hs ht hm hn hTT
  go_enter Tryd.func10, Tryd.ntmps10
  go_wp2_with fail
  refine hI.mono ?_
  rintro e w1 ⟨rfl, rfl⟩
  clear hI
  go_wp2_with fail
  refine hD.mono ?_
  rintro e w4 ⟨rfl, b4⟩
  clear hD
  have e4 := (b4.block q (block_lt HB.out.2.2)).trans HB.out.2.2
  obtain ⟨c0, c1, c2, f0, f1, f2⟩ := cells3 e4
  have h3 := set3 e4 (.int .i64 (y : Int)) (.int .i64 (m : Int)) (.int .i64 (d : Int))
  have b3 := below3 (bl2 HB.out.1 b4) (by have := HB.out.2.1; omega : w.heap.size ≤ q) (.int .i64 (y : Int)) (.int .i64 (m : Int)) (.int .i64 (d : Int))
  go_wp2_with fail
  generalize ((w4.setCell ⟨q, 0, none⟩ (.int .i64 (y : Int))).setCell ⟨q, 1, none⟩ (.int .i64 (m : Int))).setCell ⟨q, 2, none⟩ (.int .i64 (d : Int)) = W3 at h3 b3 ⊢
  obtain ⟨q0, q1, q2, _, _, _⟩ := cells3 h3
  refine bodyPost_ret (v := .tuple #[.agg #[.int .i64 (y : Int), .int .i64 (m : Int), .int .i64 (d : Int)], .int .i64 0]) ?_ rfl ⟨rfl, b3⟩
  rw [results_cell_tmp rfl]
  go_simp
end Go.Proofs.YtbepjlhknmhmeaaDoor
