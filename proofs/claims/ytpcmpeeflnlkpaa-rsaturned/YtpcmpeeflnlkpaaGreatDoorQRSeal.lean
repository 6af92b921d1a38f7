
/-
  The document's Seal.
-/
import Derived.Test.YtpcmpeeflnlkpaaGreatDoorQTrimEtc
import Derived.Test.YtpcmpeeflnlkpaaGreatDoorVSum
namespace Go.Proofs.YtpcmpeeflnlkpaaGreatDoor
open Go.RowKit Ch
set_option maxRecDepth 100000

theorem own_len {base : Nat} {w : World} {v : Value} {l : List UInt8} {n : Nat} (h : OwnL base w v l) (hn : l.length = n) : ∃ y c, v = .slice y n c := by
  subst hn
  exact isb_shape h.is
set_option maxHeartbeats 8000000 in
theorem qrSeal_any (v : Value) (b : List UInt8) (n : Nat) (w : World) (h : IsBytes w v ⟨b.toArray⟩) (hl : b.length ≤ 100000) (h1 : 62 ≤ n) (h2 : n ≤ 512) :
    Calls Tryz.prog 17 #[v, .int .i64 (n : Int)] w fun e w' => (∃ x, e = .returned x ∧ IsBytes w' x ⟨(sealL b n).toArray⟩) ∧ Below w.heap.size w w' := by
  obtain ⟨y, c, rfl⟩ := isb_shape h
  have hz : (⟨b.toArray⟩ : ByteArray).size = b.length := size_of_list b
  obtain ⟨k, hk⟩ : ∃ k, b.length = k := ⟨_, rfl⟩
  obtain ⟨g, hg⟩ : ∃ g, w.heap.size = g := ⟨_, rfl⟩
  obtain ⟨W1, hW1⟩ : ∃ W, w.alloc (.cells #[.int .u8 0, .int .u8 48, .int .u8 49, .int .u8 48, .int .u8 13, .int .u8 6, .int .u8 9, .int .u8 96, .int .u8 134, .int .u8 72, .int .u8 1, .int .u8 101, .int .u8 3, .int .u8 4, .int .u8 2, .int .u8 1, .int .u8 5, .int .u8 0, .int .u8 4, .int .u8 32] 5) = W := ⟨_, rfl⟩
  have b1 : Below w.heap.size w W1 := by rw [← hW1]; exact alB _ _
  have o1 : OwnL w.heap.size W1 (.slice (some ⟨g, 0, none⟩) 20 20) (0 :: algL) := by rw [← hW1, ← hg]; exact ownL_lit w (0 :: algL) _ rfl 20 rfl (by unfold maxLen; decide)
  have hs32 := shaL_length b
  have hN := fun u (hu : Below W1.heap.size W1 u) (au av : Option Addr) (cu cv : Nat) (q1 : IsN .u32 u (.slice au 8 cu) beginS.l) (q2 : IsN .u32 u (.slice av 64 cv) roundK) => vSum_any au av y cu cv c ⟨b.toArray⟩ u q1 q2 ((by rw [hz]; exact h : IsBytes w (.slice y (⟨b.toArray⟩ : ByteArray).size c) ⟨b.toArray⟩).later (bl2 b1 hu)) (by omega)
  rw [hz] at hN
  have HN := show Hid (∀ u (_ : Below W1.heap.size W1 u) (au av : Option Addr) (cu cv : Nat) (_ : IsN .u32 u (.slice au 8 cu) beginS.l) (_ : IsN .u32 u (.slice av 64 cv) roundK), Calls Tryz.prog 14 #[.agg #[.slice au 8 cu, .slice av 64 cv], .slice y k c] u fun e w' => (∃ a c, e = .returned (.slice a 32 c) ∧ w'.ownsRow u.heap.size 5 1 (.slice a 32 c) 32 (Lib.byteCells (shaL b))) ∧ Below u.heap.size u w') from by rw [← hk]; exact hN
  obtain ⟨m, hm⟩ : ∃ m, n - 54 = m := ⟨_, rfl⟩
  have HSL := show Hid (sealL b n = [0, 1] ++ List.replicate m 255 ++ (0 :: algL) ++ shaL b) from by unfold Hid sealL; rw [hm]
  have HB1 := show Hid (Below w.heap.size w W1) from b1
  have HO1 := show Hid (OwnL w.heap.size W1 (.slice (some ⟨g, 0, none⟩) 20 20) (0 :: algL)) from o1
  generalize sealL b n = ZL at *
  generalize shaL b = SH at *
  have hnm : n = m + 54 := by omega
  rw [hk] at hl ⊢
  clear hN h b1 o1 hz hm hk
  go_enter Tryz.func17, Tryz.ntmps17
  go_wp2_with fail
  refine (vNew_any _).mono ?_
  rintro e w2 ⟨⟨u2, v2, rfl, hu2, hv2⟩, hb2⟩
  obtain ⟨au, cu, rfl⟩ : ∃ a c, u2 = .slice a 8 c := by
    obtain ⟨a, c, h, _⟩ := hu2
    exact ⟨a, c, h⟩
  obtain ⟨av, cv, rfl⟩ : ∃ a c, v2 = .slice a 64 c := by
    obtain ⟨a, c, h, _⟩ := hv2
    exact ⟨a, c, h⟩
  have hSm := HN.out w2 hb2 au av cu cv hu2 hv2
  have HB2 := show Hid (Below W1.heap.size W1 w2) from hb2
  clear hu2 hv2 hb2
  go_wp2_with fail
  refine hSm.mono ?_
  rintro e w3 ⟨⟨a3, c3, rfl, o3⟩, b3⟩
  have o3' : OwnL w2.heap.size w3 (.slice a3 32 c3) SH := by
    unfold OwnL
    rw [hs32]
    exact o3
  have o1 := HO1.out.later (bl2 HB2.out b3)
  have HB3 := show Hid (Below W1.heap.size W1 w3) from bl2 HB2.out b3
  clear hSm o3 b3
  go_wp2_with (at_builtin; go_must (refine wpList_append_l rfl _ _ rfl w.heap.size (.slice (some ⟨g, 0, none⟩) 20 20) (0 :: algL) rfl o1 (.slice a3 32 c3) SH rfl o3'.is (by rw [hs32]; decide) (Nat.le_trans HB1.out.size HB3.out.size) ?_; intro v4 w4 ho4 hb4; obtain ⟨y4, c4, rfl⟩ := own_len (n := 52) ho4 (by simp [hs32, algL])))
  obtain ⟨W5, hW5⟩ : ∃ W, w4.alloc (.cells #[.int .u8 0, .int .u8 1] 5) = W := ⟨_, rfl⟩
  obtain ⟨g5, hg5⟩ : ∃ g, w4.heap.size = g := ⟨_, rfl⟩
  have b5 : Below w4.heap.size w4 W5 := by rw [← hW5]; exact alB _ _
  have o5 : OwnL w4.heap.size W5 (.slice (some ⟨g5, 0, none⟩) 2 2) ([0, 1] ++ List.replicate 0 255) := by rw [← hW5, ← hg5]; exact ownL_lit w4 [0, 1] _ rfl 2 rfl (by unfold maxLen; decide)
  have hw4 : Below w.heap.size w w4 := (bl2 HB1.out HB3.out).trans hb4
  have HT := show Hid (IsBytes w4 (.slice y4 52 c4) ⟨((0 :: algL) ++ SH).toArray⟩ ∧ Below w.heap.size w w4) from ⟨ho4.is, hw4⟩
  have HG5 := show Hid (w4.heap.size = g5) from hg5
  have H5 := show Hid (OwnL g5 W5 (.slice (some ⟨g5, 0, none⟩) 2 2) ([0, 1] ++ List.replicate 0 255) ∧ Below g5 w4 W5) from by rw [hg5] at b5 o5; exact ⟨o5, b5⟩
  rw [hW5, hg5]
  clear b5 o5 hw4 ho4 hb4 o1 o3' HO1 HN hg5 hW5 hW1 hg
  go_loopw [6] (fun t wr => ∃ (L j : Nat) (yy : Option Addr) (cy : Nat), t = .slice yy L cy ∧ Hid (L = j + 2 ∧ j ≤ m) ∧ L ≤ 1000 ∧ Hid (OwnL g5 wr (.slice yy L cy) ([0, 1] ++ List.replicate j 255) ∧ Below g5 w4 wr)) (fun t _ => n - sliceLen t)
  case atStart => exact ⟨2, 0, _, _, rfl, ⟨rfl, by omega⟩, by omega, H5.out⟩
  case round =>
    obtain ⟨L, j, yy, cy, rfl, hL, hL2, HO⟩ := hrel
    have pw : IntKind.i64.wrap ((L : Int) + 52) = (L : Int) + 52 := by rw [IntKind.wrap_i64]; omega
    by_cases hlt : L + 52 < n
    · have hltI : (L : Int) + 52 < (n : Int) := by omega
      have b6 : Below wr.heap.size wr (wr.alloc (.cells #[.int .u8 255] 5)) := alB _ _
      have i6 : IsBytes (wr.alloc (.cells #[.int .u8 255] 5)) (.slice (some ⟨wr.heap.size, 0, none⟩) 1 1) ⟨([255] : List UInt8).toArray⟩ := litM wr ⟨#[255]⟩ _ _ rfl (show (1 : Nat) ≤ maxLen by unfold maxLen; decide)
      have o6 := HO.out.1.later b6
      have hsz : g5 ≤ (wr.alloc (.cells #[.int .u8 255] 5)).heap.size := by have h9 := HO.out.2.size; have h8 := HG5.out; have h7 := b6.size; omega
      have hj : ([0, 1] ++ List.replicate j (255 : UInt8)).length = L := by simp; have := hL.out; omega
      have hjn : ([0, 1] ++ List.replicate j (255 : UInt8)) ++ [255] = [0, 1] ++ List.replicate (j + 1) 255 := by rw [List.replicate_succ', List.append_assoc]
      go_wp2_with (at_builtin; go_must (refine wpList_append_l rfl _ _ rfl g5 (.slice yy L cy) ([0, 1] ++ List.replicate j 255) rfl o6 (.slice (some ⟨wr.heap.size, 0, none⟩) 1 1) [255] rfl i6 (by rw [hj]; show L + 1 ≤ _; omega) hsz ?_; intro v7 w7 ho7 hb7; obtain ⟨y7, c7, rfl⟩ := own_len (n := L + 1) ho7 (by rw [List.length_append, hj]; rfl)))
      go_roundw
      case rel => exact ⟨L + 1, j + 1, _, _, rfl, ⟨by have := hL.out; omega, by have := hL.out; omega⟩, by omega, by rw [← hjn]; exact ho7, HO.out.2.trans ((b6.mono (by have h9 := HO.out.2.size; have h8 := HG5.out; omega)).trans hb7)⟩
      case measure => simp [sliceLen]; omega
    · have hltI : ¬ (L : Int) + 52 < (n : Int) := by omega
      obtain rfl : j = m := by have := hL.out; omega
      have hj : ([0, 1] ++ List.replicate j (255 : UInt8)).length = L := by simp; have := hL.out; omega
      have i4 : IsBytes wr (.slice y4 52 c4) ⟨((0 :: algL) ++ SH).toArray⟩ := HT.out.1.later (by rw [HG5.out]; exact HO.out.2)
      have hsz : g5 ≤ wr.heap.size := by have h9 := HO.out.2.size; have h8 := HG5.out; omega
      go_wp2_with (at_builtin; go_must (refine wpList_append_l rfl _ _ rfl g5 (.slice yy L cy) ([0, 1] ++ List.replicate j 255) rfl HO.out.1 (.slice y4 52 c4) ((0 :: algL) ++ SH) rfl i4 (by rw [hj]; simp only [List.length_append, List.length_cons, List.length_nil, algL]; omega) hsz ?_; intro v7 w7 ho7 hb7))
      go_ret
      refine ⟨⟨_, rfl, ?_⟩, HT.out.2.trans ((HO.out.2.trans hb7).mono (by have h9 := HT.out.2.size; have h8 := HG5.out; omega))⟩
      have h9 := ho7.is
      rw [HSL.out, List.append_assoc]
      exact h9
end Go.Proofs.YtpcmpeeflnlkpaaGreatDoor
