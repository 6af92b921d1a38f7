/-
  The program's reader of bits: its state; breaking off; numbers.
-/
import Derived.Test.YtbhnlomppobbkaaHGen
import Derived.Test.YtbhnlomppobbkaaHInf
import Derived.Deep.QuietTactic
import Derived.BigQuiet
import Derived.Deep.RegionWith
import Derived.BigRegion
import Derived.WalkSmall
import Derived.Laws.BitsLemmas
namespace Go.Proofs.Ytbhnlomppobbkaa
open Go.RowKit Ch
set_option maxRecDepth 100000

/-- A panic with an error's number. -/
def PE (k : Nat) : List PanicEntry := [{ v := .iface 24 (.int .i64 (k : Int)), recovered := false }]
set_option maxHeartbeats 1000000 in
theorem hRequire_ok (k : Int) (w : World) : Calls Try.prog 49 #[.bool true, .int .i64 k] w fun e w' => e = .returned (.tuple #[]) ∧ w' = w := by
  go_enter Try.func49, Try.ntmps49
  go_wp2
  go_end0
  exact ⟨rfl, rfl⟩
set_option maxHeartbeats 1000000 in
theorem hRequire_err (k : Nat) (w : World) : Calls Try.prog 49 #[.bool false, .int .i64 (k : Int)] w fun e w' => e = .panicked (PE k) ∧ w' = w := by
  go_enter Try.func49, Try.ntmps49
  go_wp2
  exact ⟨rfl, rfl, rfl⟩
/-- What the reader's calls leave: all below it, and behind it all that is no bytes. -/
structure Kept (rb : Nat) (w w' : World) : Prop where
  below : Below rb w w'
  other : ∀ k c t fr, rb < k → t ≠ 5 → w.heap[k]? = some (.cells c t fr) → w'.heap[k]? = some (.cells c t fr)
theorem Kept.refl (rb : Nat) (w : World) : Kept rb w w := ⟨Below.refl _ _, fun _ _ _ _ _ _ h => h⟩
theorem Kept.trans {rb : Nat} {a b c : World} (h : Kept rb a b) (k : Kept rb b c) : Kept rb a c := ⟨h.below.trans k.below, fun i c t fr hi ht h' => k.other i c t fr hi ht (h.other i c t fr hi ht h')⟩
theorem Kept.of_below {rb : Nat} {w w' : World} (h : Below w.heap.size w w') (hr : rb < w.heap.size) : Kept rb w w' := ⟨h.mono (by omega), fun k _ _ _ _ _ h' => (h.block k (block_lt h')).trans h'⟩
theorem Kept.setCell {rb : Nat} {a w : World} (h : Kept rb a w) (i : Nat) (u : Value) : Kept rb a (w.setCell ⟨rb, i, none⟩ u) :=
  ⟨h.below.setCell (p := ⟨rb, i, none⟩) (Nat.le_refl _) u, fun k c t fr hk ht h' => block_other _ _ (h.other k c t fr hk ht h') (by simp; omega)⟩
theorem Kept.drew {rb : Nat} {a w : World} (h : Kept rb a w) : Kept rb a w.drew := ⟨h.below.drew, h.other⟩
theorem Kept.drewN {rb : Nat} {a w : World} (h : Kept rb a w) (n : Nat) : Kept rb a (w.drewN n) := by
  refine ⟨below_drewN h.below n, fun k c t fr hk ht h' => ?_⟩
  rw [World.heap_drewN]
  exact h.other k c t fr hk ht h'
/-- The bytes that are read lie below the reader. -/
def FromB (rb : Nat) (fv : Value) (s : ByteArray) (W : World) : Prop := ∃ W0, W0.heap.size ≤ rb ∧ IsBytes W0 fv s ∧ Below W0.heap.size W0 W
theorem FromB.is {rb : Nat} {fv : Value} {s : ByteArray} {W : World} (h : FromB rb fv s W) : IsBytes W fv s := by
  obtain ⟨W0, _, h1, h2⟩ := h
  exact h1.later h2
theorem FromB.later {rb : Nat} {fv : Value} {s : ByteArray} {W W' : World} (h : FromB rb fv s W) (hb : Below rb W W') : FromB rb fv s W' := by
  obtain ⟨W0, h0, h1, h2⟩ := h
  exact ⟨W0, h0, h1, h2.trans (hb.mono h0)⟩
/-- The reader: what is read, up to which bit; the text so far; the other cells. -/
structure Rd (rb : Nat) (s : ByteArray) (most : Nat) (fv fx bk : Value) (p : Nat) (text : List UInt8) (tv : Value) (W : World) : Prop where
  box : W.heap[rb]? = some (Obj.cells #[fv, .int .i64 (p : Int), tv, .int .i64 (most : Int), fx, bk] 58 (0, 0))
  row : W.ownsRow (rb + 1) 5 1 tv text.length (Lib.byteCells text)
  src : FromB rb fv s W
  le : p ≤ 8 * s.size
end Go.Proofs.Ytbhnlomppobbkaa
