/-
  Layer 8's reference: kind, Info.
-/
import Derived.Test.YthdoginhbhdmbaaXRNum
import Derived.Test.YthdoginhbhdmbaaLXAll
namespace Go.Proofs.Ythdoginhbhdmbaa
open Go.RowKit Ch
set_option maxRecDepth 100000

theorem putL1_up (p : UInt8 × List UInt8) (h : p.2.length < 65536) : (putL1 p).length ≤ p.2.length + 4 := by
  obtain ⟨t, bl⟩ := p
  simp only at h
  have h1 : (lenB bl.length).length ≤ 3 := by
    by_cases h1 : bl.length < 128
    · rw [lenB_small h1]; simp
    · by_cases h2 : bl.length < 256
      · rw [lenB_mid (by omega) h2]; simp
      · rw [lenB_big (by omega) h]; simp
  simp only [putL1, List.length_cons, List.length_append]
  omega
/-- What a key or a signature is called. -/
def kindL (d : UInt8) : List UInt8 := putL1 (48, putL1 (6, [42, 134, 72, 134, 247, 13, 1, 1, d]) ++ putL1 (5, []))
theorem kindL_len (d : UInt8) : (kindL d).length = 15 := rfl
theorem put5_len : (putL1 (5, ([] : List UInt8))).length = 2 := rfl
theorem isBytes_nil (w : World) : IsBytes w (.slice none 0 0) ⟨([] : List UInt8).toArray⟩ := ⟨none, 0, rfl, Nat.le_refl _, by unfold maxLen; omega, .inl ⟨rfl, rfl, rfl⟩⟩
set_option maxHeartbeats 4000000 in
theorem rxKind_any (d : UInt8) (w : World) : Calls Try.prog 35 #[.int .u8 (d.toNat : Int)] w fun e w' => (∃ v, e = .returned v ∧ OwnL w.heap.size w' v (kindL d)) ∧ Below w.heap.size w w' := by
  obtain ⟨W1, hW1⟩ : ∃ W, w.alloc (.cells #[.int .u8 42, .int .u8 134, .int .u8 72, .int .u8 134, .int .u8 247, .int .u8 13, .int .u8 1, .int .u8 1, .int .u8 (d.toNat : Int)] 5) = W := ⟨_, rfl⟩
  have b1 : Below w.heap.size w W1 := by rw [← hW1]; exact alB _ _
  have i1 : IsBytes W1 (.slice (some ⟨w.heap.size, 0, none⟩) 9 9) ⟨[42, 134, 72, 134, 247, 13, 1, 1, d].toArray⟩ := by rw [← hW1]; exact litC w ⟨#[42, 134, 72, 134, 247, 13, 1, 1, d]⟩ _ rfl (show (9 : Nat) ≤ maxLen by unfold maxLen; decide)
  have hP1 := show Calls Try.prog 7 #[.int .u8 6, .slice (some ⟨w.heap.size, 0, none⟩) 9 9] W1 _ from rxPutW_any 6 [42, 134, 72, 134, 247, 13, 1, 1, d] _ 9 W1 i1 (by simp)
  have HB1 := show Hid (Below w.heap.size w W1) from b1
  have HKL := show Hid (kindL d = putL1 (48, putL1 (6, [42, 134, 72, 134, 247, 13, 1, 1, d]) ++ putL1 (5, []))) from rfl
  have hla : (putL1 (6, [42, 134, 72, 134, 247, 13, 1, 1, d])).length = 11 := rfl
  obtain ⟨A, hA⟩ : ∃ A, putL1 (6, [42, 134, 72, 134, 247, 13, 1, 1, d]) = A := ⟨_, rfl⟩
  rw [hA] at HKL hla hP1
  have HLA := show Hid (A.length = 11) from hla
  obtain ⟨P5, hP5⟩ : ∃ P, putL1 (5, ([] : List UInt8)) = P := ⟨_, rfl⟩
  have hl5 := put5_len
  rw [hP5] at HKL hl5
  have H5 := show Hid (putL1 (5, ([] : List UInt8)) = P5 ∧ P5.length = 2) from ⟨hP5, hl5⟩
  clear hP5 hl5
  obtain ⟨B, hB⟩ : ∃ B, A ++ P5 = B := ⟨_, rfl⟩
  rw [hB] at HKL
  have HBB := show Hid (A ++ P5 = B ∧ B.length = 13) from ⟨hB, by rw [← hB, List.length_append, HLA.out, H5.out.2]⟩
  clear hB
  clear b1 i1 hA hla
  go_enter Try.func35, Try.ntmps35
  go_wp2_with fail
  refine hP1.mono ?_
  rintro e w1 ⟨⟨v1, rfl, o1⟩, hb1⟩
  clear hP1 hW1
  have hP2 := show Calls Try.prog 7 #[.int .u8 5, .slice none 0 0] w1 _ from rxPutW_any 5 [] none 0 w1 (isBytes_nil w1) (Nat.zero_le _)
  have HB2 := show Hid (Below w.heap.size w w1) from bl2 HB1.out hb1
  obtain ⟨y1, c1, rfl⟩ := own_shape o1
  have HO1 := show Hid (IsBytes w1 (.slice y1 A.length c1) ⟨A.toArray⟩) from o1.is
  clear o1 hb1 HB1
  go_wp2_with fail
  refine hP2.mono ?_
  rintro e w2 ⟨⟨v2, rfl, o2⟩, hb2⟩
  clear hP2
  rw [H5.out.1] at o2
  obtain ⟨y2, c2, rfl⟩ := own_shape o2
  have hC := rxCat_any y1 y2 c1 c2 A P5 w2 (HO1.out.later hb2) o2.is (by have h2 := H5.out.2; have := HLA.out; omega)
  have HB3 := show Hid (Below w.heap.size w w2) from bl2 HB2.out hb2
  clear o2 hb2 HB2 HO1
  go_wp2_with fail
  refine hC.mono ?_
  rintro e w3 ⟨⟨v3, rfl, o3⟩, hb3⟩
  clear hC
  rw [HBB.out.1] at o3
  obtain ⟨y3, c3, rfl⟩ := own_shape o3
  have hP := show Calls Try.prog 7 #[.int .u8 48, .slice y3 B.length c3] w3 _ from rxPutW_any 48 B y3 c3 w3 o3.is (by have := HBB.out.2; omega)
  have HB4 := show Hid (Below w.heap.size w w3) from bl2 HB3.out hb3
  clear o3 hb3 HB3
  go_wp2_with fail
  refine hP.mono ?_
  rintro e w4 ⟨⟨v4, rfl, o4⟩, hb4⟩
  have HF := show Hid (OwnL w.heap.size w4 v4 (putL1 (48, B)) ∧ Below w.heap.size w w4) from ⟨own_monoN o4 HB4.out.size, bl2 HB4.out hb4⟩
  clear hP o4 hb4
  go_wp2_with fail
  go_ret
  exact ⟨⟨_, rfl, by rw [HKL.out]; exact HF.out.1⟩, HF.out.2⟩
end Go.Proofs.Ythdoginhbhdmbaa
