/-
  Whole arrays out of and into blocks. Of no layer alone.
-/
import Derived.Test.YtgehgcnaoapbbaaDoorHGen
import Derived.Deep.WholeRow
namespace Go.Proofs.YtgehgcnaoapbbaaDoor
open Go.RowKit Ch
set_option maxRecDepth 100000

theorem whole_load {W : World} {B : Nat} {C : Array Value} {t : TypeId} {n : Nat} (h : W.heap[B]? = some (.cells C t (0, 0))) (hn : C.size = n) :
    (loadCellsFrom ⟨B, 0, none⟩ 0 n #[]).run Tryd.prog W = .ok C W := by
  subst hn
  have := run_loadCells_list (P := Tryd.prog) W ⟨B, 0, none⟩ C.toList (fun j v hv => by
    have hadd : (⟨B, 0, none⟩ : Addr).add j = ⟨B, j, none⟩ := by unfold Addr.add; split <;> simp_all
    rw [hadd, cell_of_row _ _ j C t (0, 0) h]
    simpa using hv)
  simpa [loadCells] using this
theorem whole_store {W : World} {B : Nat} {C D : Array Value} {t : TypeId} (h : W.heap[B]? = some (.cells C t (0, 0))) (hn : C.size = D.size) (h1 : ∀ v ∈ D.toList, v.oneCell' = true) :
    (storeCells ⟨B, 0, none⟩ D.toList 0).run Tryd.prog W = .ok () (W.setRow B D) := by
  have := run_storeCells_from (P := Tryd.prog) B t D.toList 0 C W h (by simp; omega) h1
  simpa using this
theorem setRow_block {W : World} {B : Nat} {C D : Array Value} {t : TypeId} {fr : Nat × Nat} (h : W.heap[B]? = some (.cells C t fr)) : (W.setRow B D).heap[B]? = some (.cells D t fr) := by
  have hlt := (Array.getElem?_eq_some_iff.1 h).1
  have h' : W.heap[B] = .cells C t fr := by simpa [Array.getElem?_eq_getElem hlt] using h
  show (W.heap.modify B _)[B]? = _
  rw [Array.getElem?_eq_getElem (by simpa using hlt), Array.getElem_modify_self, h']
theorem setRow_other {W : World} {B k : Nat} {D : Array Value} (h : k ≠ B) : (W.setRow B D).heap[k]? = W.heap[k]? := by
  show (W.heap.modify B _)[k]? = _
  rw [Array.getElem?_modify, if_neg (fun e => h e.symm)]
theorem setRow_size (W : World) (B : Nat) (D : Array Value) : (W.setRow B D).heap.size = W.heap.size := by simp [World.setRow]
theorem below_setRow {b : Nat} {W0 W : World} (h : Below b W0 W) {B : Nat} (hB : b ≤ B) (D : Array Value) : Below b W0 (W.setRow B D) :=
  h.trans ⟨rfl, rfl, rfl, by rw [setRow_size]; exact Nat.le_refl _, fun k hk => setRow_other (by omega)⟩
/-- Cells that hold numbers of 32 bits. -/
theorem one_of_words {C : Array Value} {n : Nat} (hn : C.size = n) (h : ∀ i, i < n → ∃ z : Nat, C[i]? = some (.int .u32 (z : Int))) : ∀ v ∈ C.toList, v.oneCell' = true := by
  intro v hv
  obtain ⟨i, hi, rfl⟩ := List.getElem_of_mem hv
  obtain ⟨z, hz⟩ := h i (by rw [← hn]; simpa using hi)
  rw [Array.getElem_toList]
  rw [Array.getElem?_eq_getElem (by simpa using hi)] at hz
  rw [Option.some.inj hz]
  rfl
theorem all_of_words {C : Array Value} {n : Nat} (hn : C.size = n) (h : ∀ i, i < n → ∃ z : Nat, C[i]? = some (.int .u32 (z : Int))) : C.all (·.oneCell') = true :=
  Array.all_eq_true_iff_forall_mem.2 (fun v hv => one_of_words hn h v (by simpa using hv))
end Go.Proofs.YtgehgcnaoapbbaaDoor
