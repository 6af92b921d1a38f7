/-
  The program's parsePair.
-/
import Derived.Test.YtnkefpopkaagaaaDoorFUnp
import Derived.Test.YtnkefpopkaagaaaDoorFPlain
namespace Go.Proofs.YtnkefpopkaagaaaDoor
open Go.RowKit Ch
set_option maxRecDepth 100000

/-- The program's own variable that a search reads. -/
def MaxLenIs (w : World) : Prop := ∃ m : Int, w.cell? ⟨1, 0, none⟩ = some (.int .i64 m)
theorem MaxLenIs.later {w w' : World} (h : MaxLenIs w) (hb : Below w.heap.size w w') : MaxLenIs w' := by
  obtain ⟨m, hm⟩ := h
  exact ⟨m, (hb.cell (p := ⟨1, 0, none⟩) (cell_lt hm)).trans hm⟩
/-- What parsePair answers. -/
def PairProg (t : ByteArray) (e : Ending) : Prop := (pairOf t.data.toList = none ∧ e = .returned (.tuple #[.agg #[.string ⟨#[]⟩, .string ⟨#[]⟩], .int .i64 10])) ∨ ∃ a b : List UInt8, pairOf t.data.toList = some (a, b) ∧ e = .returned (.tuple #[.agg #[.string ⟨a.toArray⟩, .string ⟨b.toArray⟩], .int .i64 0])
theorem below_drewN' (w : World) : ∀ n, Below w.heap.size w (w.drewN n)
  | 0 => Below.refl _ _
  | n + 1 => (below_drewN' w n).drew
theorem cells2 {w : World} {b : Nat} {x y : Value} {t : TypeId} (h : w.heap[b]? = some (.cells #[x, y] t (0, 0))) : w.cell? ⟨b, 0, none⟩ = some x ∧ w.cell? ⟨b, 1, none⟩ = some y ∧ w.frozen? ⟨b, 0, none⟩ = false ∧ w.frozen? ⟨b, 1, none⟩ = false := by
  refine ⟨?_, ?_, ?_, ?_⟩
  · simp [World.cell?, h]
  · simp [World.cell?, h]
  · simp [World.frozen?, h]
  · simp [World.frozen?, h]
theorem setCell_block {W : World} {B i : Nat} {cs : Array Value} {t : TypeId} {fr : Nat × Nat} (h : W.heap[B]? = some (.cells cs t fr)) (u : Value) : (W.setCell ⟨B, i, none⟩ u).heap[B]? = some (.cells (cs.setIfInBounds i u) t fr) := by
  simp [World.setCell, Array.getElem?_modify, h]
theorem set2 {w : World} {b : Nat} {x y : Value} {t : TypeId} (h : w.heap[b]? = some (.cells #[x, y] t (0, 0))) (u v : Value) : ((w.setCell ⟨b, 0, none⟩ u).setCell ⟨b, 1, none⟩ v).heap[b]? = some (.cells #[u, v] t (0, 0)) :=
  setCell_block (i := 1) (setCell_block (i := 0) h u) v

set_option maxHeartbeats 4000000 in
theorem fParsePair_any (t : ByteArray) (w : World) (hG : MaxLenIs w) (ht : t.size ≤ 1000000) :
    Calls Tryd.prog 35 #[.string t] w fun e w' => PairProg t e ∧ Below w.heap.size w w' := by
  have hA := (Below.refl _ w).alloc (Nat.le_refl _) (.cells #[.string ⟨#[]⟩, .string ⟨#[]⟩] 40)
  obtain ⟨m, hm⟩ := hG.later hA
  have hC := Tryd.strings_Cut t ⟨#[61]⟩ m _ (by omega) hm
  have hW0 := heap_push_at w (.cells #[.string ⟨#[]⟩, .string ⟨#[]⟩] 40)
  have hpe := pair_eq t.data.toList
  have hcl := cut_le t.data.toList
  rw [len_eq] at hcl
  rw [show (⟨#[61]⟩ : ByteArray).data.toList = [61] from rfl] at hC
  obtain ⟨H, hH⟩ : ∃ H, (Lib.cut t.data.toList [61]).1 = H := ⟨_, rfl⟩
  obtain ⟨L, hL⟩ : ∃ L, (Lib.cut t.data.toList [61]).2.1 = L := ⟨_, rfl⟩
  obtain ⟨F, hF⟩ : ∃ F, (Lib.cut t.data.toList [61]).2.2 = F := ⟨_, rfl⟩
  rw [hH, hL] at hpe hcl hC
  rw [hF] at hC
  have hUH := fun W => fUnpercent_any ⟨H.toArray⟩ true W (by rw [size_of_list]; omega)
  have hUL := fun W => fUnpercent_any ⟨L.toArray⟩ true W (by rw [size_of_list]; omega)
  have HPE : Hid (pairOf t.data.toList = both (unpL true H) (unpL true L)) := hpe
  clear hH hL hF hpe hm
  go_enter Tryd.func35, Tryd.ntmps35
  go_wp2_with fail
  refine hC.mono ?_
  rintro e w1 ⟨rfl, n, hn⟩
  have hb1 : Below (w.alloc (.cells #[.string ⟨#[]⟩, .string ⟨#[]⟩] 40)).heap.size (w.alloc (.cells #[.string ⟨#[]⟩, .string ⟨#[]⟩] 40)) w1 := by rw [hn]; exact below_drewN' _ n
  have X1 := (hb1.block w.heap.size (by simp)).trans hW0
  have B1 := below_alloc hb1
  have z1 : w.heap.size + 1 ≤ w1.heap.size := by have := hb1.size; simpa using this
  clear hn hb1 hC hW0 hA
  go_wp2_with fail
  refine (hUH w1).mono ?_
  rintro e w2 ⟨hu, hb2⟩
  have X2 := (hb2.block w.heap.size (by omega)).trans X1
  have B2 := B1.trans (hb2.mono B1.size)
  have z2 : w.heap.size + 1 ≤ w2.heap.size := by have := hb2.size; omega
  clear X1 B1 hb2 hUH
  rcases hu with ⟨hu, rfl⟩ | ⟨a, hu, rfl⟩
  · have hN : Hid (pairOf t.data.toList = none) := by
      unfold Hid
      rw [HPE.out]
      have : unpL true H = none := hu
      rw [this]
      rfl
    clear hu hUL
    obtain ⟨c0, c1, z0, z1'⟩ := cells2 X2
    go_wp2_with fail
    have h3 := set2 X2 (.string ⟨#[]⟩) (.string ⟨#[]⟩)
    have hb3 := (B2.setCell (p := ⟨w.heap.size, 0, none⟩) (Nat.le_refl _) (.string ⟨#[]⟩)).setCell (p := ⟨w.heap.size, 1, none⟩) (Nat.le_refl _) (.string ⟨#[]⟩)
    generalize (w2.setCell ⟨w.heap.size, 0, none⟩ (.string ⟨#[]⟩)).setCell ⟨w.heap.size, 1, none⟩ (.string ⟨#[]⟩) = W3 at h3 hb3 ⊢
    obtain ⟨q0, q1, _, _⟩ := cells2 h3
    refine bodyPost_ret (v := .tuple #[.agg #[.string ⟨#[]⟩, .string ⟨#[]⟩], .int .i64 10]) ?_ rfl ⟨.inl ⟨hN.out, rfl⟩, hb3⟩
    rw [results_cell_tmp rfl]
    go_simp
  · have hu' : unpL true H = some a := hu
    rw [hu'] at HPE
    clear hu hu'
    go_wp2_with fail
    refine (hUL w2).mono ?_
    rintro e w3 ⟨hu, hb3⟩
    have X3 := (hb3.block w.heap.size (by omega)).trans X2
    have B3 := B2.trans (hb3.mono B2.size)
    clear X2 B2 hb3 hUL
    obtain ⟨c0, c1, z0, z1'⟩ := cells2 X3
    rcases hu with ⟨hu, rfl⟩ | ⟨b, hu, rfl⟩
    · have hN : Hid (pairOf t.data.toList = none) := by
        unfold Hid
        rw [HPE.out]
        have : unpL true L = none := hu
        rw [this]
        rfl
      clear hu
      go_wp2_with fail
      have h3 := set2 X3 (.string ⟨#[]⟩) (.string ⟨#[]⟩)
      have hb3 := (B3.setCell (p := ⟨w.heap.size, 0, none⟩) (Nat.le_refl _) (.string ⟨#[]⟩)).setCell (p := ⟨w.heap.size, 1, none⟩) (Nat.le_refl _) (.string ⟨#[]⟩)
      generalize (w3.setCell ⟨w.heap.size, 0, none⟩ (.string ⟨#[]⟩)).setCell ⟨w.heap.size, 1, none⟩ (.string ⟨#[]⟩) = W3 at h3 hb3 ⊢
      obtain ⟨q0, q1, _, _⟩ := cells2 h3
      refine bodyPost_ret (v := .tuple #[.agg #[.string ⟨#[]⟩, .string ⟨#[]⟩], .int .i64 10]) ?_ rfl ⟨.inl ⟨hN.out, rfl⟩, hb3⟩
      rw [results_cell_tmp rfl]
      go_simp
    · have hY : Hid (pairOf t.data.toList = some (a, b)) := by
        unfold Hid
        rw [HPE.out]
        have : unpL true L = some b := hu
        rw [this]
        rfl
      clear hu
      go_wp2_with fail
      have h3 := set2 X3 (.string ⟨a.toArray⟩) (.string ⟨b.toArray⟩)
      have hb3 := (B3.setCell (p := ⟨w.heap.size, 0, none⟩) (Nat.le_refl _) (.string ⟨a.toArray⟩)).setCell (p := ⟨w.heap.size, 1, none⟩) (Nat.le_refl _) (.string ⟨b.toArray⟩)
      generalize (w3.setCell ⟨w.heap.size, 0, none⟩ (.string ⟨a.toArray⟩)).setCell ⟨w.heap.size, 1, none⟩ (.string ⟨b.toArray⟩) = W3 at h3 hb3 ⊢
      obtain ⟨q0, q1, _, _⟩ := cells2 h3
      refine bodyPost_ret (v := .tuple #[.agg #[.string ⟨a.toArray⟩, .string ⟨b.toArray⟩], .int .i64 0]) ?_ rfl ⟨.inr ⟨a, b, hY.out, rfl⟩, hb3⟩
      rw [results_cell_tmp rfl]
      go_simp
end Go.Proofs.YtnkefpopkaagaaaDoor
