/-
  The statements' own examples: they hold, whatever memory lies beside the two tables.
-/
import Derived.Test.YtmhbdckgejcdhaaDoorCollapse
import Derived.Laws.BytesArg
namespace Go.Proofs.YtmhbdckgejcdhaaDoor
open Go.RowKit Ch

theorem bad_example : bad ⟨#[97, 192, 128]⟩ = 1 := by decide +kernel
theorem names_example : [(⟨#[95, 97]⟩ : ByteArray), ⟨#[195, 169, 49]⟩].all Ch.isName = true := by decide +kernel
theorem name_1a : [(⟨#[49, 97]⟩ : ByteArray)].all Ch.isName = false := by decide +kernel
theorem name_ab : [(⟨#[97, 58, 98]⟩ : ByteArray)].all Ch.isName = false := by decide +kernel
theorem name_empty : [(⟨#[]⟩ : ByteArray)].all Ch.isName = false := by decide +kernel
theorem collapse_example : collapse [32, 32, 97, 32, 10, 32, 98, 32] = [97, 32, 98] := by decide +kernel

theorem texts_block {w : World} {b : Nat} {l : List ByteArray} {t : TypeId} {fr : Nat × Nat} (h : w.heap[b]? = some (.cells (l.map Value.string).toArray t fr)) : Texts w (.slice (some ⟨b, 0, none⟩) l.length l.length) l := by
  refine ⟨_, _, rfl, Nat.le_refl _, .inr ⟨b, 0, rfl, (Array.getElem?_eq_some_iff.1 h).1, ?_⟩⟩
  intro j x hj
  simp [World.cell?, h, hj]

theorem Tabs.alloc {w : World} (h : Tabs w) (o : Obj) : Tabs (w.alloc o) := h.later ((Below.refl _ w).alloc (Nat.le_refl _) o)
theorem below_alloc {w w' : World} {o : Obj} (h : Below (w.alloc o).heap.size (w.alloc o) w') : Below w.heap.size w w' :=
  ((Below.refl _ w).alloc (Nat.le_refl _) o).trans (h.mono (by simp))

theorem awake_bad (w : World) : Calls Tryd.prog 9 #[.slice (some ⟨w.heap.size, 0, none⟩) 3 3] (w.alloc (.cells #[.int .u8 97, .int .u8 192, .int .u8 128] 5)) fun e w' => e = .returned (.int .i64 1) ∧ Below w.heap.size w w' := by
  have hb := heap_push_at w (.cells #[.int .u8 97, .int .u8 192, .int .u8 128] 5)
  have hcv := run_convert_bytes_arg (P := Tryd.prog) (w.alloc (.cells #[.int .u8 97, .int .u8 192, .int .u8 128] 5)) 22 5 Tryd.underlying22 Tryd.underlying5 w.heap.size 0 3 3 [97, 192, 128] rfl (fun i hi => by
    match i, hi with
    | 0, _ => exact (cell_of_row _ _ 0 _ _ _ hb).trans rfl
    | 1, _ => exact (cell_of_row _ _ 1 _ _ _ hb).trans rfl
    | 2, _ => exact (cell_of_row _ _ 2 _ _ _ hb).trans rfl) 9 Tryd.underlying9
  refine (cBad_any _ ⟨#[97, 192, 128]⟩ _ (by decide) hcv).mono ?_
  rintro e w' ⟨rfl, h⟩
  rw [bad_example]
  exact ⟨rfl, below_alloc h⟩

theorem awake_name (w : World) (l : List ByteArray) (b : Bool) (hb : l.all Ch.isName = b) (hl : l.length ≤ 1000000) (hs : ∀ x ∈ l, x.size ≤ 1000000) (ht : Tabs w) :
    Calls Tryd.prog 12 #[.slice (some ⟨w.heap.size, 0, none⟩) l.length l.length] (w.alloc (.cells (l.map Value.string).toArray 9)) fun e w' => e = .returned (.bool b) ∧ Below w.heap.size w w' := by
  refine (cName_texts _ l _ (texts_block (heap_push_at w _)) hl hs (ht.alloc _)).mono ?_
  rintro e w' ⟨rfl, h⟩
  rw [hb]
  exact ⟨rfl, below_alloc h⟩
theorem awake_name2 (w : World) (ht : Tabs w) : Calls Tryd.prog 12 #[.slice (some ⟨w.heap.size, 0, none⟩) 2 2] (w.alloc (.cells #[.string ⟨#[95, 97]⟩, .string ⟨#[195, 169, 49]⟩] 9)) fun e w' => e = .returned (.bool true) ∧ Below w.heap.size w w' :=
  awake_name w [⟨#[95, 97]⟩, ⟨#[195, 169, 49]⟩] true names_example (by decide) (by intro x hx; simp at hx; rcases hx with rfl | rfl <;> decide) ht
theorem awake_name1 (x : ByteArray) (b : Bool) (hb : [x].all Ch.isName = b) (hx : x.size ≤ 1000000) (w : World) (ht : Tabs w) : Calls Tryd.prog 12 #[.slice (some ⟨w.heap.size, 0, none⟩) 1 1] (w.alloc (.cells #[.string x] 9)) fun e w' => e = .returned (.bool b) ∧ Below w.heap.size w w' :=
  awake_name w [x] b hb (by simp) (by intro y hy; simp at hy; rw [hy]; exact hx) ht
theorem awake_collapse (w : World) : Calls Tryd.prog 17 #[.string ⟨#[32, 32, 97, 32, 10, 32, 98, 32]⟩] w fun e w' => e = .returned (.string ⟨#[97, 32, 98]⟩) ∧ Below w.heap.size w w' := by
  refine (cCollapse_any _ w (by decide)).mono ?_
  rintro e w' ⟨rfl, h⟩
  refine ⟨?_, h⟩
  rw [show (⟨#[32, 32, 97, 32, 10, 32, 98, 32]⟩ : ByteArray).data.toList = [32, 32, 97, 32, 10, 32, 98, 32] from rfl, collapse_example]

set_option maxHeartbeats 1000000 in
theorem awake_any (w : World) (ht : Tabs w) :
    Calls Tryd.prog 8 #[] w fun e w' => e = .returned (.bool true) ∧ Below w.heap.size w w' := by
  go_enter Tryd.func8, Tryd.ntmps8
  go_wp2_with fail
  refine (awake_bad w).mono ?_
  rintro e w1 ⟨rfl, b1⟩
  have t1 := ht.later b1
  go_wp2_with fail
  refine (awake_name2 w1 t1).mono ?_
  rintro e w2 ⟨rfl, b2⟩
  have t2 := t1.later b2
  go_wp2_with fail
  refine (awake_name1 ⟨#[49, 97]⟩ false name_1a (by decide) w2 t2).mono ?_
  rintro e w3 ⟨rfl, b3⟩
  have t3 := t2.later b3
  go_wp2_with fail
  refine (awake_name1 ⟨#[97, 58, 98]⟩ false name_ab (by decide) w3 t3).mono ?_
  rintro e w4 ⟨rfl, b4⟩
  have t4 := t3.later b4
  go_wp2_with fail
  refine (awake_name1 ⟨#[]⟩ false name_empty (by decide) w4 t4).mono ?_
  rintro e w5 ⟨rfl, b5⟩
  go_wp2_with fail
  refine (awake_collapse w5).mono ?_
  rintro e w6 ⟨rfl, b6⟩
  go_wp2_with fail
  go_ret
  have c2 := b1.trans (b2.mono b1.size)
  have c3 := c2.trans (b3.mono c2.size)
  have c4 := c3.trans (b4.mono c3.size)
  have c5 := c4.trans (b5.mono c4.size)
  exact ⟨rfl, c5.trans (b6.mono c5.size)⟩
end Go.Proofs.YtmhbdckgejcdhaaDoor
