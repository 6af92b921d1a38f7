/-
  Layer 8's laws: awake.
-/
import Derived.Test.YthdoginhbhdmbaaXPut
import Derived.Test.YthdoginhbhdmbaaXTake
namespace Go.Proofs.Ythdoginhbhdmbaa
open Go.RowKit Ch
set_option maxRecDepth 100000

theorem bl2 {a b c : World} (h1 : Below a.heap.size a b) (h2 : Below b.heap.size b c) : Below a.heap.size a c := h1.trans (h2.mono h1.size)
/-- One piece, as a literal. -/
theorem isPs_one (w : World) (t : UInt8) (bl : List UInt8) (yb : Option Addr) (cb : Nat) (h : IsBytes w (.slice yb bl.length cb) ⟨bl.toArray⟩) : IsPs (w.alloc (.cells #[.int .u8 (t.toNat : Int), .slice yb bl.length cb] 26)) (.slice (some ⟨w.heap.size, 0, none⟩) 1 1) [(t, bl)] := by
  have hN := heap_push_at w (.cells #[.int .u8 (t.toNat : Int), .slice yb bl.length cb] 26)
  refine ⟨some ⟨w.heap.size, 0, none⟩, 1, rfl, Nat.le_refl _, fun i p hp => ?_⟩
  cases i with
  | succ i => simp at hp
  | zero =>
    simp only [List.getElem?_cons_zero, Option.some.injEq] at hp
    subst hp
    exact ⟨w.heap.size, 0, yb, cb, rfl, block_lt hN, block_cell 0 hN rfl, block_cell 1 hN rfl, h.later (alB w _)⟩
set_option maxHeartbeats 4000000 in
theorem lxAwake_any (w : World) : Calls Try.prog 6 #[] w fun e w' => e = .returned (.bool true) ∧ Below w.heap.size w w' := by
  obtain ⟨wa, hwa⟩ : ∃ u, w.alloc (.cells #[.int .u8 5] 5) = u := ⟨_, rfl⟩
  obtain ⟨wb, hwb⟩ : ∃ u, wa.alloc (.cells #[.int .u8 2, .slice (some ⟨w.heap.size, 0, none⟩) 1 1] 26) = u := ⟨_, rfl⟩
  have bwa : Below w.heap.size w wa := by rw [← hwa]; exact alB _ _
  have bwb : Below wa.heap.size wa wb := by rw [← hwb]; exact alB _ _
  have i1 : IsBytes wa (.slice (some ⟨w.heap.size, 0, none⟩) 1 1) ⟨[5].toArray⟩ := by rw [← hwa]; exact litD w 5
  have i2 : IsPs wb (.slice (some ⟨wa.heap.size, 0, none⟩) 1 1) [(2, [5])] := by rw [← hwb]; exact isPs_one wa 2 [5] _ 1 i1
  have hP := show Calls Try.prog 8 #[.slice (some ⟨wa.heap.size, 0, none⟩) 1 1] wb _ from xPut_any _ 1 [(2, [5])] wb i2 (by intro p hp; simp at hp; subst hp; exact ⟨by unfold tagOk; decide, by decide⟩) (by decide) (by decide)
  have HB0 := show Hid (Below w.heap.size w wb) from bl2 bwa bwb
  clear i1 i2 bwa bwb
  go_enter Try.func6, Try.ntmps6
  go_wp2_with fail
  refine hP.mono ?_
  rintro e w1 ⟨⟨v1, rfl, h1⟩, hb1⟩
  obtain ⟨wc, hwc⟩ : ∃ u, w1.alloc (.cells #[.int .u8 2, .int .u8 129, .int .u8 5, .int .u8 0, .int .u8 0, .int .u8 0, .int .u8 0, .int .u8 0] 5) = u := ⟨_, rfl⟩
  have bc : Below w1.heap.size w1 wc := by rw [← hwc]; exact alB _ _
  have j1 : IsBytes wc (.slice (some ⟨w1.heap.size, 0, none⟩) 8 8) ⟨#[2, 129, 5, 0, 0, 0, 0, 0]⟩ := by rw [← hwc]; exact litC w1 ⟨#[2, 129, 5, 0, 0, 0, 0, 0]⟩ _ rfl (show (8 : Nat) ≤ maxLen by unfold maxLen; decide)
  have hT := show Calls Try.prog 19 #[.slice (some ⟨w1.heap.size, 0, none⟩) 8 8] wc _ from xTake_any _ 8 ⟨#[2, 129, 5, 0, 0, 0, 0, 0]⟩ wc j1 (by decide)
  have hpl : pieceL (⟨#[2, 129, 5, 0, 0, 0, 0, 0]⟩ : ByteArray).data.toList = .error 10 := by rfl
  rw [hpl] at hT
  have HQ := show Hid (OwnL wb.heap.size wc v1 [2, 1, 5] ∧ Below w.heap.size w wc) from ⟨h1.later bc, bl2 (bl2 HB0.out hb1) bc⟩
  obtain ⟨y1, c1, rfl⟩ := own_shape HQ.out.1
  clear hP h1 hb1 bc j1 hwa hwb HB0
  go_wp2_with fail
  refine hT.mono ?_
  rintro e w2 ⟨rfl, hb2⟩
  have bd := alB w2 (.cells #[.int .u8 0, .slice none 0 0] 26)
  have hcv := IsBytes.convert ((OwnL.is (HQ.out.1.later (bl2 hb2 bd))))
  rw [show ([2, 1, 5] : List UInt8).length = 3 from rfl] at hcv
  have HF := show Hid (Below w.heap.size w (w2.alloc (.cells #[.int .u8 0, .slice none 0 0] 26))) from bl2 HQ.out.2 (bl2 hb2 bd)
  clear hT hb2 bd HQ hwc
  go_wp2_with fail
  go_ret
  exact ⟨rfl, HF.out⟩
end Go.Proofs.Ythdoginhbhdmbaa
