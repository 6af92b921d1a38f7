/-
  The document's Put, of bodies of up to 60000 bytes.
-/
import Derived.Test.YthdoginhbhdmbaaLXPut
namespace Go.Proofs.Ythdoginhbhdmbaa
open Go.RowKit Ch
set_option maxRecDepth 100000

set_option maxHeartbeats 4000000 in
theorem rxPutW_any (t : UInt8) (bl : List UInt8) (x : Option Addr) (cx : Nat) (w : World) (hB : IsBytes w (.slice x bl.length cx) ⟨bl.toArray⟩) (hl : bl.length ≤ 60000) :
    Calls Try.prog 7 #[.int .u8 (t.toNat : Int), .slice x bl.length cx] w fun e w' => (∃ v, e = .returned v ∧ OwnL w.heap.size w' v (putL1 (t, bl))) ∧ Below w.heap.size w w' := by
  obtain ⟨k, hk⟩ : ∃ k, bl.length = k := ⟨_, rfl⟩
  obtain ⟨W1, hW1⟩ : ∃ W, w.alloc (.cells #[.int .u8 (t.toNat : Int)] 5) = W := ⟨_, rfl⟩
  have hO : OwnL w.heap.size W1 (.slice (some ⟨w.heap.size, 0, none⟩) 1 1) [t] := by rw [← hW1]; exact ownL_one w t
  have bW1 : Below w.heap.size w W1 := by rw [← hW1]; exact alB _ _
  have HU := show Hid ((∀ u, Below w.heap.size w u → IsBytes u (.slice x k cx) ⟨bl.toArray⟩) ∧ OwnL w.heap.size W1 (.slice (some ⟨w.heap.size, 0, none⟩) 1 1) [t] ∧ Below w.heap.size w W1 ∧ bl.length = k ∧ k ≤ 60000) from ⟨fun u hu => hk ▸ hB.later hu, hO, bW1, hk, hk ▸ hl⟩
  have HL := show Hid (putL1 (t, bl) = ([t] ++ lenB k) ++ bl) from by unfold Hid putL1; simp [hk]
  have hk7 : k ≤ 60000 := hk ▸ hl
  rw [hk, HL.out]
  clear hk hO bW1 hB hl HL
  go_enter Try.func7, Try.ntmps7
  by_cases h1 : k < 128
  · have hI1 : (k : Int) < 128 := by omega
    obtain ⟨d, hd⟩ : ∃ d : UInt8, UInt8.ofNat k = d := ⟨_, rfl⟩
    have wu : IntKind.u8.wrap (k : Int) = (d.toNat : Int) := by
      rw [← hd, ofNat_small (by omega)]
      exact wraps_u8 _ (by omega) (by omega)
    rw [lenB_small h1, hd]
    clear hd h1
    go_wp2_with (at_builtin; go_must (first | (refine wpList_append_k rfl _ _ rfl w.heap.size (.slice (some ⟨w.heap.size, 0, none⟩) 1 1) [t] rfl (HU.out.2.1.later (alB _ _)) _ [d] rfl (litD W1 d) (by simp) (by have := HU.out.2.2.1.size; simp; omega) ?_; intro v2 w2 ho2 hk2 hb2; have hr2 := (RowTo.pre (alB W1 _) ⟨ho2, hk2, hb2⟩).below HU.out.2.1 HU.out.2.2.1.size; have hb12 := HU.out.2.2.1.trans hr2) | (refine wpList_append_k rfl _ _ rfl w.heap.size v2 ([t] ++ [d]) rfl ho2 (.slice x k cx) bl rfl (HU.out.1 _ hb12) (by have := HU.out.2.2.2; simp; omega) hb12.size ?_; intro v3 w3 ho3 hk3 hb3; have hr3 := RowTo.below ⟨ho3, hk3, hb3⟩ ho2 hb12.size)))
    go_ret
    exact ⟨⟨_, rfl, ho3⟩, hb12.trans hr3⟩
  · by_cases h2 : k < 256
    · have hI1 : ¬ (k : Int) < 128 := by omega
      have hI2 : (k : Int) < 256 := by omega
      obtain ⟨d, hd⟩ : ∃ d : UInt8, UInt8.ofNat k = d := ⟨_, rfl⟩
      have wu : IntKind.u8.wrap (k : Int) = (d.toNat : Int) := by
        rw [← hd, ofNat_small (by omega)]
        exact wraps_u8 _ (by omega) (by omega)
      rw [lenB_mid (by omega) h2, hd]
      have hlit : ∀ W : World, IsBytes (W.alloc (.cells #[.int .u8 129, .int .u8 (d.toNat : Int)] 5)) (.slice (some ⟨W.heap.size, 0, none⟩) 2 2) ⟨[129, d].toArray⟩ := fun W => litC W ⟨#[129, d]⟩ _ rfl (show (2 : Nat) ≤ maxLen by unfold maxLen; decide)
      clear hd h1 h2
      go_wp2_with (at_builtin; go_must (first | (refine wpList_append_k rfl _ _ rfl w.heap.size (.slice (some ⟨w.heap.size, 0, none⟩) 1 1) [t] rfl (HU.out.2.1.later (alB _ _)) _ [129, d] rfl (hlit W1) (by simp) (by have := HU.out.2.2.1.size; simp; omega) ?_; intro v2 w2 ho2 hk2 hb2; have hr2 := (RowTo.pre (alB W1 _) ⟨ho2, hk2, hb2⟩).below HU.out.2.1 HU.out.2.2.1.size; have hb12 := HU.out.2.2.1.trans hr2) | (refine wpList_append_k rfl _ _ rfl w.heap.size v2 ([t] ++ [129, d]) rfl ho2 (.slice x k cx) bl rfl (HU.out.1 _ hb12) (by have := HU.out.2.2.2; simp; omega) hb12.size ?_; intro v3 w3 ho3 hk3 hb3; have hr3 := RowTo.below ⟨ho3, hk3, hb3⟩ ho2 hb12.size)))
      go_ret
      exact ⟨⟨_, rfl, ho3⟩, hb12.trans hr3⟩
    · have hI1 : ¬ (k : Int) < 128 := by omega
      have hI2 : ¬ (k : Int) < 256 := by omega
      have hI3 : (k : Int) < 65536 := by omega
      rw [lenB_big (by omega) (by omega)]
      have w1u : IntKind.u8.wrap ((k : Int) / 256) = ((UInt8.ofNat (k / 256)).toNat : Int) := by
        rw [IntKind.wrap_u8]
        simp
      have w0u : IntKind.u8.wrap ((k : Int) % 256) = ((UInt8.ofNat k).toNat : Int) := by
        rw [IntKind.wrap_u8]
        simp
      have q1 : (k : Int).tdiv 256 = (k : Int) / 256 := Int.tdiv_eq_ediv_of_nonneg (by omega)
      have q2 : (k : Int).tmod 256 = (k : Int) % 256 := Int.tmod_eq_emod_of_nonneg (by omega)
      have w2u : IntKind.i64.wrap ((k : Int) / 256) = (k : Int) / 256 := by rw [IntKind.wrap_i64]; omega
      have w3u : IntKind.i64.wrap ((k : Int) % 256) = (k : Int) % 256 := by rw [IntKind.wrap_i64]; omega
      obtain ⟨a1, ha1⟩ : ∃ d : UInt8, UInt8.ofNat (k / 256) = d := ⟨_, rfl⟩
      obtain ⟨a0, ha0⟩ : ∃ d : UInt8, UInt8.ofNat k = d := ⟨_, rfl⟩
      rw [ha1] at w1u ⊢
      rw [ha0] at w0u ⊢
      have hlit : ∀ W : World, IsBytes (W.alloc (.cells #[.int .u8 130, .int .u8 (a1.toNat : Int), .int .u8 (a0.toNat : Int)] 5)) (.slice (some ⟨W.heap.size, 0, none⟩) 3 3) ⟨[130, a1, a0].toArray⟩ := fun W => litC W ⟨#[130, a1, a0]⟩ _ rfl (show (3 : Nat) ≤ maxLen by unfold maxLen; decide)
      clear ha0 ha1 h1 h2
      go_wp2_with (at_builtin; go_must (first | (refine wpList_append_k rfl _ _ rfl w.heap.size (.slice (some ⟨w.heap.size, 0, none⟩) 1 1) [t] rfl (HU.out.2.1.later (alB _ _)) _ [130, a1, a0] rfl (hlit W1) (by simp) (by have := HU.out.2.2.1.size; simp; omega) ?_; intro v2 w2 ho2 hk2 hb2; have hr2 := (RowTo.pre (alB W1 _) ⟨ho2, hk2, hb2⟩).below HU.out.2.1 HU.out.2.2.1.size; have hb12 := HU.out.2.2.1.trans hr2) | (refine wpList_append_k rfl _ _ rfl w.heap.size v2 ([t] ++ [130, a1, a0]) rfl ho2 (.slice x k cx) bl rfl (HU.out.1 _ hb12) (by have := HU.out.2.2.2; simp; omega) hb12.size ?_; intro v3 w3 ho3 hk3 hb3; have hr3 := RowTo.below ⟨ho3, hk3, hb3⟩ ho2 hb12.size)))
      go_ret
      exact ⟨⟨_, rfl, ho3⟩, hb12.trans hr3⟩
end Go.Proofs.Ythdoginhbhdmbaa
