/-
  The reference's Stored, of a text in one block.
-/
import Derived.Test.YtbhnlomppobbkaaJInt
import Derived.Test.YtbhnlomppobbkaaHL0
namespace Go.Proofs.Ytbhnlomppobbkaa
open Go.RowKit Ch
set_option maxRecDepth 100000

set_option maxHeartbeats 2000000 in
theorem jStored_any (x : Option Addr) (cap : Nat) (s : ByteArray) (w : World) (hs : s.size ≤ 65535) (hB : IsBytes w (.slice x s.size cap) s) :
    Calls Try.prog 13 #[.slice x s.size cap] w fun e w' => (∃ v', e = .returned v' ∧ w'.ownsRow w.heap.size 5 1 v' (storedL s.data.toList).length (Lib.byteCells (storedL s.data.toList))) ∧ Below w.heap.size w w' := by
  have h1 : ¬ (65535 : Int) < (s.size : Int) := by omega
  obtain ⟨a, ha⟩ : ∃ a, s.size % 256 = a := ⟨_, rfl⟩
  obtain ⟨b, hb⟩ : ∃ b, s.size / 256 = b := ⟨_, rfl⟩
  obtain ⟨c, hc⟩ : ∃ c, 255 - a = c := ⟨_, rfl⟩
  obtain ⟨d, hd⟩ : ∃ d, 255 - b = d := ⟨_, rfl⟩
  have ea : (s.size : Int) % 256 = (a : Int) := by omega
  have eb : (s.size : Int) / 256 = (b : Int) := by omega
  have ec : (255 : Int) - (a : Int) = (c : Int) := by omega
  have ed : (255 : Int) - (b : Int) = (d : Int) := by omega
  have ba : a < 256 := by omega
  have bb : b < 256 := by omega
  have bc : c < 256 := by omega
  have bd : d < 256 := by omega
  have hh : headL true s.size = [1, UInt8.ofNat a, UInt8.ofNat b, UInt8.ofNat c, UInt8.ofNat d] := by
    unfold headL
    rw [ha, hb, show (65535 - s.size) % 256 = c by omega, show (65535 - s.size) / 256 = d by omega]
    rfl
  obtain ⟨s5, hs5⟩ : ∃ s5 : ByteArray, s5 = ⟨#[1, UInt8.ofNat a, UInt8.ofNat b, UInt8.ofNat c, UInt8.ofNat d]⟩ := ⟨_, rfl⟩
  have hz5 : s5.size = 5 := by rw [hs5]; rfl
  have hv5 : byteVals s5 = [.int .u8 1, .int .u8 (a : Int), .int .u8 (b : Int), .int .u8 (c : Int), .int .u8 (d : Int)] := by
    have f : ∀ z : Nat, z < 256 → ((UInt8.ofNat z).toNat : Int) = (z : Int) := fun z hz => by rw [UInt8.toNat_ofNat']; omega
    rw [hs5]
    simp only [byteVals, List.map_cons, List.map_nil, f a ba, f b bb, f c bc, f d bd]
    rfl
  have hl5 := lit_bytes w s5 #[.int .u8 1, .int .u8 (a : Int), .int .u8 (b : Int), .int .u8 (c : Int), .int .u8 (d : Int)] (0, 0) hv5.symm (by rw [hz5]; unfold maxLen; omega)
  rw [hz5] at hl5
  have hSL : storedL s.data.toList = s5.data.toList ++ s.data.toList := by
    rw [storedL_last (by rw [len_eq]; exact hs), len_eq, hh, hs5]
  have HSL : Hid (storedL s.data.toList = s5.data.toList ++ s.data.toList) := hSL
  have HB := show Hid (IsBytes w (.slice x s.size cap) s) from hB
  have hcap : (s.size : Int) ≤ (cap : Int) := by
    obtain ⟨_, _, e1, e2, _⟩ := hB
    simp only [Value.slice.injEq] at e1
    omega
  clear ha hb hc hd hh hs5 hv5 hSL hB
  go_enter Try.func13, Try.ntmps13
  go_wp2_with fail
  refine wp_loop_once ?_
  have hb0 : Below w.heap.size w (w.alloc (.cells #[.int .u8 1, .int .u8 (a : Int), .int .u8 (b : Int), .int .u8 (c : Int), .int .u8 (d : Int)] 5)) := (Below.refl _ w).alloc (Nat.le_refl _) _
  go_wp2_with (at_builtin; go_must (first
    | (refine wpList_append_bytes rfl _ _ rfl w.heap.size _ ByteArray.empty rfl (World.ownsRow_nil _ _ _ _) _ s5 rfl hl5 (by rw [hz5]; decide) (by simp) ?_; intro v2 w2 ho2 hb2; have hb2' := hb0.trans hb2; have hsz2 := hb2'.size)
    | (refine wpList_append_bytes rfl _ _ rfl w.heap.size _ (cat ByteArray.empty s5) rfl ho2 _ s rfl (HB.out.later hb2') (by rw [cat_empty, hz5]; omega) hsz2 ?_; intro v3 w3 ho3 hb3)))
  all_goals
    rw [cat_empty] at ho3
    go_ret
    rw [HSL.out]
    refine ⟨⟨_, rfl, ?_⟩, hb2'.trans hb3⟩
    have e1 : byteVals (cat s5 s) = Lib.byteCells (s5.data.toList ++ s.data.toList) := by rw [Lib.byteCells_append]; simp [byteVals, cat, Lib.byteCells]
    have e2 : (cat s5 s).size = (s5.data.toList ++ s.data.toList).length := by rw [cat_size, List.length_append, len_eq, len_eq]
    rw [e1, e2] at ho3
    exact ho3
end Go.Proofs.Ytbhnlomppobbkaa
