/-
  The document's Seal.
  The document's side of layer 6: trim and at.
  The document's digits of bytes.
  The document's numbers: digits of eight bits; Of and Bytes.
-/
import Derived.Test.YtpcmpeeflnlkpaaGreatDoorQVerEtc
import Derived.Test.YtpcmpeeflnlkpaaGreatDoorVSum
import Derived.Test.YtpcmpeeflnlkpaaGreatDoorKPlainEtc
import Derived.Test.YtpcmpeeflnlkpaaGreatDoorHFreeZEtc
import Derived.Test.YtpcmpeeflnlkpaaGreatDoorNFromEtc
namespace Go.Proofs.YtpcmpeeflnlkpaaGreatDoor
open Go.RowKit Ch
set_option maxRecDepth 100000

theorem own_len {base : Nat} {w : World} {v : Value} {l : List UInt8} {n : Nat} (h : OwnL base w v l) (hn : l.length = n) : ∃ y c, v = .slice y n c := by
  subst hn
  exact isb_shape h.is
set_option maxHeartbeats 8000000 in
theorem qrSeal_any (v : Value) (b : List UInt8) (n : Nat) (w : World) (h : IsBytes w v ⟨b.toArray⟩) (hl : b.length ≤ 100000) (h1 : 62 ≤ n) (h2 : n ≤ 512) :
    Calls Tryz.prog 17 #[v, .int .i64 (n : Int)] w fun e w' => (∃ x, e = .returned x ∧ IsBytes w' x ⟨(sealL b n).toArray⟩) ∧ Below w.heap.size w w' := by
  obtain ⟨y, c, rfl⟩ := isb_shape h
  have hz : (⟨b.toArray⟩ : ByteArray).size = b.length := size_of_list b
  obtain ⟨k, hk⟩ : ∃ k, b.length = k := ⟨_, rfl⟩
  obtain ⟨g, hg⟩ : ∃ g, w.heap.size = g := ⟨_, rfl⟩
  obtain ⟨W1, hW1⟩ : ∃ W, w.alloc (.cells #[.int .u8 0, .int .u8 48, .int .u8 49, .int .u8 48, .int .u8 13, .int .u8 6, .int .u8 9, .int .u8 96, .int .u8 134, .int .u8 72, .int .u8 1, .int .u8 101, .int .u8 3, .int .u8 4, .int .u8 2, .int .u8 1, .int .u8 5, .int .u8 0, .int .u8 4, .int .u8 32] 5) = W := ⟨_, rfl⟩
  have b1 : Below w.heap.size w W1 := by rw [← hW1]; exact alB _ _
  have o1 : OwnL w.heap.size W1 (.slice (some ⟨g, 0, none⟩) 20 20) (0 :: algL) := by rw [← hW1, ← hg]; exact ownL_lit w (0 :: algL) _ rfl 20 rfl (by unfold maxLen; decide)
  have hs32 := shaL_length b
  have hN := fun u (hu : Below W1.heap.size W1 u) (au av : Option Addr) (cu cv : Nat) (q1 : IsN .u32 u (.slice au 8 cu) beginS.l) (q2 : IsN .u32 u (.slice av 64 cv) roundK) => vSum_any au av y cu cv c ⟨b.toArray⟩ u q1 q2 ((by rw [hz]; exact h : IsBytes w (.slice y (⟨b.toArray⟩ : ByteArray).size c) ⟨b.toArray⟩).later (bl2 b1 hu)) (by omega)
  rw [hz] at hN
  have HN := show Hid (∀ u (_ : Below W1.heap.size W1 u) (au av : Option Addr) (cu cv : Nat) (_ : IsN .u32 u (.slice au 8 cu) beginS.l) (_ : IsN .u32 u (.slice av 64 cv) roundK), Calls Tryz.prog 14 #[.agg #[.slice au 8 cu, .slice av 64 cv], .slice y k c] u fun e w' => (∃ a c, e = .returned (.slice a 32 c) ∧ w'.ownsRow u.heap.size 5 1 (.slice a 32 c) 32 (Lib.byteCells (shaL b))) ∧ Below u.heap.size u w') from by rw [← hk]; exact hN
  obtain ⟨m, hm⟩ : ∃ m, n - 54 = m := ⟨_, rfl⟩
  have HSL := show Hid (sealL b n = [0, 1] ++ List.replicate m 255 ++ (0 :: algL) ++ shaL b) from by unfold Hid sealL; rw [hm]
  have HB1 := show Hid (Below w.heap.size w W1) from b1
  have HO1 := show Hid (OwnL w.heap.size W1 (.slice (some ⟨g, 0, none⟩) 20 20) (0 :: algL)) from o1
  generalize sealL b n = ZL at *
  generalize shaL b = SH at *
  have hnm : n = m + 54 := by omega
  rw [hk] at hl ⊢
  clear hN h b1 o1 hz hm hk
  go_enter Tryz.func17, Tryz.ntmps17
  go_wp2_with fail
  refine (vNew_any _).mono ?_
  rintro e w2 ⟨⟨u2, v2, rfl, hu2, hv2⟩, hb2⟩
  obtain ⟨au, cu, rfl⟩ : ∃ a c, u2 = .slice a 8 c := by
    obtain ⟨a, c, h, _⟩ := hu2
    exact ⟨a, c, h⟩
  obtain ⟨av, cv, rfl⟩ : ∃ a c, v2 = .slice a 64 c := by
    obtain ⟨a, c, h, _⟩ := hv2
    exact ⟨a, c, h⟩
  have hSm := HN.out w2 hb2 au av cu cv hu2 hv2
  have HB2 := show Hid (Below W1.heap.size W1 w2) from hb2
  clear hu2 hv2 hb2
  go_wp2_with fail
  refine hSm.mono ?_
  rintro e w3 ⟨⟨a3, c3, rfl, o3⟩, b3⟩
  have o3' : OwnL w2.heap.size w3 (.slice a3 32 c3) SH := by
    unfold OwnL
    rw [hs32]
    exact o3
  have o1 := HO1.out.later (bl2 HB2.out b3)
  have HB3 := show Hid (Below W1.heap.size W1 w3) from bl2 HB2.out b3
  clear hSm o3 b3
  go_wp2_with (at_builtin; go_must (refine wpList_append_l rfl _ _ rfl w.heap.size (.slice (some ⟨g, 0, none⟩) 20 20) (0 :: algL) rfl o1 (.slice a3 32 c3) SH rfl o3'.is (by rw [hs32]; decide) (Nat.le_trans HB1.out.size HB3.out.size) ?_; intro v4 w4 ho4 hb4; obtain ⟨y4, c4, rfl⟩ := own_len (n := 52) ho4 (by simp [hs32, algL])))
  obtain ⟨W5, hW5⟩ : ∃ W, w4.alloc (.cells #[.int .u8 0, .int .u8 1] 5) = W := ⟨_, rfl⟩
  obtain ⟨g5, hg5⟩ : ∃ g, w4.heap.size = g := ⟨_, rfl⟩
  have b5 : Below w4.heap.size w4 W5 := by rw [← hW5]; exact alB _ _
  have o5 : OwnL w4.heap.size W5 (.slice (some ⟨g5, 0, none⟩) 2 2) ([0, 1] ++ List.replicate 0 255) := by rw [← hW5, ← hg5]; exact ownL_lit w4 [0, 1] _ rfl 2 rfl (by unfold maxLen; decide)
  have hw4 : Below w.heap.size w w4 := (bl2 HB1.out HB3.out).trans hb4
  have HT := show Hid (IsBytes w4 (.slice y4 52 c4) ⟨((0 :: algL) ++ SH).toArray⟩ ∧ Below w.heap.size w w4) from ⟨ho4.is, hw4⟩
  have HG5 := show Hid (w4.heap.size = g5) from hg5
  have H5 := show Hid (OwnL g5 W5 (.slice (some ⟨g5, 0, none⟩) 2 2) ([0, 1] ++ List.replicate 0 255) ∧ Below g5 w4 W5) from by rw [hg5] at b5 o5; exact ⟨o5, b5⟩
  rw [hW5, hg5]
  clear b5 o5 hw4 ho4 hb4 o1 o3' HO1 HN hg5 hW5 hW1 hg
  go_loopw [6] (fun t wr => ∃ (L j : Nat) (yy : Option Addr) (cy : Nat), t = .slice yy L cy ∧ Hid (L = j + 2 ∧ j ≤ m) ∧ L ≤ 1000 ∧ Hid (OwnL g5 wr (.slice yy L cy) ([0, 1] ++ List.replicate j 255) ∧ Below g5 w4 wr)) (fun t _ => n - sliceLen t)
  case atStart => exact ⟨2, 0, _, _, rfl, ⟨rfl, by omega⟩, by omega, H5.out⟩
  case round =>
    obtain ⟨L, j, yy, cy, rfl, hL, hL2, HO⟩ := hrel
    have pw : IntKind.i64.wrap ((L : Int) + 52) = (L : Int) + 52 := by rw [IntKind.wrap_i64]; omega
    by_cases hlt : L + 52 < n
    · have hltI : (L : Int) + 52 < (n : Int) := by omega
      have b6 : Below wr.heap.size wr (wr.alloc (.cells #[.int .u8 255] 5)) := alB _ _
      have i6 : IsBytes (wr.alloc (.cells #[.int .u8 255] 5)) (.slice (some ⟨wr.heap.size, 0, none⟩) 1 1) ⟨([255] : List UInt8).toArray⟩ := litM wr ⟨#[255]⟩ _ _ rfl (show (1 : Nat) ≤ maxLen by unfold maxLen; decide)
      have o6 := HO.out.1.later b6
      have hsz : g5 ≤ (wr.alloc (.cells #[.int .u8 255] 5)).heap.size := by have h9 := HO.out.2.size; have h8 := HG5.out; have h7 := b6.size; omega
      have hj : ([0, 1] ++ List.replicate j (255 : UInt8)).length = L := by simp; have := hL.out; omega
      have hjn : ([0, 1] ++ List.replicate j (255 : UInt8)) ++ [255] = [0, 1] ++ List.replicate (j + 1) 255 := by rw [List.replicate_succ', List.append_assoc]
      go_wp2_with (at_builtin; go_must (refine wpList_append_l rfl _ _ rfl g5 (.slice yy L cy) ([0, 1] ++ List.replicate j 255) rfl o6 (.slice (some ⟨wr.heap.size, 0, none⟩) 1 1) [255] rfl i6 (by rw [hj]; show L + 1 ≤ _; omega) hsz ?_; intro v7 w7 ho7 hb7; obtain ⟨y7, c7, rfl⟩ := own_len (n := L + 1) ho7 (by rw [List.length_append, hj]; rfl)))
      go_roundw
      case rel => exact ⟨L + 1, j + 1, _, _, rfl, ⟨by have := hL.out; omega, by have := hL.out; omega⟩, by omega, by rw [← hjn]; exact ho7, HO.out.2.trans ((b6.mono (by have h9 := HO.out.2.size; have h8 := HG5.out; omega)).trans hb7)⟩
      case measure => simp [sliceLen]; omega
    · have hltI : ¬ (L : Int) + 52 < (n : Int) := by omega
      obtain rfl : j = m := by have := hL.out; omega
      have hj : ([0, 1] ++ List.replicate j (255 : UInt8)).length = L := by simp; have := hL.out; omega
      have i4 : IsBytes wr (.slice y4 52 c4) ⟨((0 :: algL) ++ SH).toArray⟩ := HT.out.1.later (by rw [HG5.out]; exact HO.out.2)
      have hsz : g5 ≤ wr.heap.size := by have h9 := HO.out.2.size; have h8 := HG5.out; omega
      go_wp2_with (at_builtin; go_must (refine wpList_append_l rfl _ _ rfl g5 (.slice yy L cy) ([0, 1] ++ List.replicate j 255) rfl HO.out.1 (.slice y4 52 c4) ((0 :: algL) ++ SH) rfl i4 (by rw [hj]; simp only [List.length_append, List.length_cons, List.length_nil, algL]; omega) hsz ?_; intro v7 w7 ho7 hb7))
      go_ret
      refine ⟨⟨_, rfl, ?_⟩, HT.out.2.trans ((HO.out.2.trans hb7).mono (by have h9 := HT.out.2.size; have h8 := HG5.out; omega))⟩
      have h9 := ho7.is
      rw [HSL.out, List.append_assoc]
      exact h9
end Go.Proofs.YtpcmpeeflnlkpaaGreatDoor

namespace Go.Proofs.YtpcmpeeflnlkpaaGreatDoor
open Go.RowKit Ch
set_option maxRecDepth 100000

set_option maxHeartbeats 2000000 in
theorem dTrim_any (y : Option Addr) (c : Nat) (L : List Nat) (w : World) (hS : IsN .i64 w (.slice y L.length c) L) (hs : L.length ≤ 1000000) :
    Calls Tryz.prog 57 #[.slice y L.length c] w fun e w' => e = .returned (.slice y (trimL L).length c) ∧ IsN .i64 w (.slice y (trimL L).length c) (trimL L) ∧ w' = w := by
  have HS := show Hid (IsN .i64 w (.slice y L.length c) L) from hS
  have hcL : L.length ≤ c := by
    obtain ⟨_, _, e1, e2, _⟩ := hS
    simp only [Value.slice.injEq] at e1
    omega
  obtain ⟨n, hn⟩ : ∃ n, L.length = n := ⟨_, rfl⟩
  have HN := show Hid (L.length = n) from hn
  rw [hn] at hs hcL ⊢
  clear hS hn
  go_enter Tryz.func57, Tryz.ntmps57
  go_wp2_with fail
  go_loopw [0] (fun u wr => ∃ m : Nat, u = .slice y m c ∧ m ≤ n ∧ Hid (trimL (L.take m) = trimL L) ∧ wr = w) (fun u _ => lenOf u)
  case atStart => exact ⟨n, rfl, Nat.le_refl _, by unfold Hid; rw [List.take_of_length_le (by rw [HN.out]; exact Nat.le_refl _)], rfl⟩
  case round =>
    obtain ⟨m, rfl, hmn, hT, rfl⟩ := hrel
    by_cases h0 : 0 < m
    · have h02 : (0 : Int) < (m : Int) := by omega
      obtain ⟨m1, hm1⟩ : ∃ m1, m - 1 = m1 := ⟨_, rfl⟩
      have e1 : (m : Int) - 1 = (m1 : Int) := by omega
      have wi : IntKind.i64.wrap (m1 : Int) = (m1 : Int) := by rw [IntKind.wrap_i64]; omega
      have hlt : (m1 : Int) < (m : Int) := by omega
      have hm1c : (m1 : Int) ≤ (c : Int) := by omega
      have hm1c2 : m1 ≤ c := by omega
      have hdg : L[m1]? = some (atN L m1) := atN_some (by have := HN.out; omega)
      obtain ⟨d, hd⟩ : ∃ d, atN L m1 = d := ⟨_, rfl⟩
      rw [hd] at hdg
      have htk : L.take m = L.take m1 ++ [d] := by
        rw [show m = m1 + 1 by omega, List.take_add_one, hdg]
        rfl
      obtain ⟨x1, b, o, rfl, hbl, gc⟩ := IsN.cellAt HS.out hdg
      clear x1
      have HT2 := show Hid (trimL (L.take m1 ++ [d]) = trimL L) from by unfold Hid; rw [← htk]; exact hT.out
      have HTK := show Hid (L.take m = L.take m1 ++ [d]) from htk
      clear hT htk hdg hd
      by_cases hd0 : d = 0
      · subst hd0
        have HT3 := show Hid (trimL (L.take m1) = trimL L) from by unfold Hid; rw [← HT2.out, trimL_zero]
        clear HT2 HTK
        go_wp2_with fail
        go_roundw
        case rel => exact ⟨m1, rfl, by omega, HT3.out, trivial⟩
        case measure => simp [lenOf]; omega
      · have hdz : ((d : Int) == 0) = false := by simp; omega
        have hbd : trimL L = L.take m := by rw [← HT2.out, trimL_stop hd0, HTK.out]
        have hlm : (L.take m).length = m := by rw [List.length_take, HN.out]; omega
        have HR := show Hid ((trimL L).length = m ∧ IsN .i64 wr (.slice (some ⟨b, o, none⟩) m c) (trimL L)) from ⟨by rw [hbd, hlm], by rw [hbd]; exact HS.out.take (by rw [HN.out]; exact hmn)⟩
        clear hbd hlm HT2 HTK
        go_wp2_with fail
        go_ret
        exact ⟨by rw [HR.out.1]; rfl, by rw [HR.out.1]; exact HR.out.2, rfl⟩
    · have h02 : ¬ (0 : Int) < (m : Int) := by omega
      obtain rfl : m = 0 := by omega
      have hbd : trimL L = L.take 0 := by rw [← hT.out, List.take_zero]; rfl
      have HR := show Hid ((trimL L).length = 0 ∧ IsN .i64 wr (.slice y 0 c) (trimL L)) from ⟨by rw [hbd]; rfl, by rw [hbd]; exact HS.out.take (Nat.zero_le _)⟩
      clear hbd hT
      go_wp2_with fail
      go_ret
      exact ⟨by rw [HR.out.1]; rfl, by rw [HR.out.1]; exact HR.out.2, rfl⟩
set_option maxHeartbeats 1000000 in
theorem dAt_any (y : Option Addr) (n c : Nat) (L : List Nat) (i : Nat) (w : World) (hS : IsN .i64 w (.slice y n c) L) (hn : L.length = n) :
    Calls Tryz.prog 94 #[.slice y n c, .int .i64 (i : Int)] w fun e w' => e = .returned (.int .i64 ((L.getD i 0 : Nat) : Int)) ∧ w' = w := by
  by_cases h : i < n
  · have h1 : (i : Int) < (n : Int) := by omega
    have hdg : L[i]? = some (atN L i) := atN_some (by omega)
    have HG := show Hid (L.getD i 0 = atN L i) from by unfold Hid; rw [List.getD_eq_getElem?_getD, hdg]; rfl
    obtain ⟨x1, b, o, rfl, hbl, gc⟩ := IsN.cellAt hS hdg
    clear x1 hS hdg hn
    go_enter Tryz.func94, Tryz.ntmps94
    go_wp2_with fail
    go_ret
    exact ⟨by rw [HG.out]; rfl, rfl⟩
  · have h1 : ¬ (i : Int) < (n : Int) := by omega
    have HG := show Hid (L[i]?.getD 0 = 0) from by unfold Hid; rw [List.getElem?_eq_none (by omega)]; rfl
    clear hS hn
    go_enter Tryz.func94, Tryz.ntmps94
    go_wp2_with fail
    go_ret
    exact ⟨by rw [HG.out]; rfl, rfl⟩
end Go.Proofs.YtpcmpeeflnlkpaaGreatDoor

namespace Go.Proofs.YtpcmpeeflnlkpaaGreatDoor
open Go.RowKit Ch
set_option maxRecDepth 100000

def RI : KR := ⟨.i64, 3, 56, 8, Tryz.underlying56, by kernel_rfl, by decide⟩
/-- The digits from j on, the lowest first. -/
def digR (s : ByteArray) (j : Nat) : List Nat := ((s.data.toList.drop j).map UInt8.toNat).reverse
theorem digR_len (s : ByteArray) (j : Nat) : (digR s j).length = s.size - j := by simp [digR]
theorem digR_all (s : ByteArray) : digR s s.size = [] := by
  unfold digR
  rw [List.drop_of_length_le (by rw [len_eq]; exact Nat.le_refl _)]
  rfl
theorem digR_step (s : ByteArray) (k : Nat) (h : k < s.size) : digR s (k + 1) ++ [byte s k] = digR s k := by
  have hl : k < s.data.toList.length := by rw [len_eq]; exact h
  unfold digR
  rw [List.drop_eq_getElem_cons hl, List.map_cons, List.reverse_cons]
  congr 2
  rw [byte_list, List.getElem?_eq_getElem hl]
  rfl
set_option maxHeartbeats 2000000 in
theorem dOf_any (x : Option Addr) (cx : Nat) (s : ByteArray) (w : World) (hS : IsBytes w (.slice x s.size cx) s) (hs : s.size ≤ 1000000) :
    Calls Tryz.prog 28 #[.slice x s.size cx] w fun e w' => (∃ v, e = .returned v ∧ (∃ y c, v = .slice y (trimL (digR s 0)).length c) ∧ IsN .i64 w' v (trimL (digR s 0))) ∧ Below w.heap.size w w' := by
  have HS := show Hid (IsBytes w (.slice x s.size cx) s) from hS
  clear hS
  have w0 : IntKind.i64.wrap ((s.size : Int) - 1) = (s.size : Int) - 1 := by rw [IntKind.wrap_i64]; omega
  go_enter Tryz.func28, Tryz.ntmps28
  go_wp2_with fail
  go_loopw [3, 4] (fun v t wr => ∃ j : Nat, j ≤ s.size ∧ t = .int .i64 ((j : Int) - 1) ∧ wr.ownsRow w.heap.size 3 1 v (digR s j).length (kc .i64 (digR s j)) ∧ Below w.heap.size w wr) (fun _ t _ => (intOf t + 1).toNat)
  case atStart => exact ⟨s.size, Nat.le_refl _, rfl, by rw [digR_all]; exact own_nil _ _ _, Below.refl _ _⟩
  case round =>
    obtain ⟨j, hj, rfl, hown, hb⟩ := hrel
    rcases j with _ | k
    · have hge : ¬ (0 : Int) ≤ ((0 : Nat) : Int) - 1 := by omega
      obtain ⟨ya, ca, rfl⟩ := own_shape hown
      have hT := dTrim_any ya ca (digR s 0) _ (own_n hown) (by rw [digR_len]; omega)
      have HB := show Hid (Below w.heap.size w _) from hb
      clear hown hb
      go_wp2_with fail
      refine hT.mono ?_
      rintro e w2 ⟨rfl, hn, rfl⟩
      go_wp2_with fail
      go_ret
      exact ⟨⟨_, rfl, ⟨_, _, rfl⟩, hn⟩, HB.out⟩
    · have e1 : ((k + 1 : Nat) : Int) - 1 = (k : Int) := by omega
      rw [e1]
      have hge : (0 : Int) ≤ (k : Int) := by omega
      have hlt : (k : Int) < (s.size : Int) := by omega
      obtain ⟨b, o, rfl, hbl, gc⟩ := IsBytes.cellAt (HS.out.later hb) (i := k) (by omega)
      obtain ⟨m, hm⟩ : ∃ m, byte s k = m := ⟨_, rfl⟩
      have hm8 : m < 256 := by rw [← hm]; exact byte_lt s k
      have HA := show Hid (digR s (k + 1) ++ [m] = digR s k) from by unfold Hid; rw [← hm]; exact digR_step s k (by omega)
      rw [hm] at gc
      have hpl : (digR s (k + 1)).length ≤ 1000000 := by rw [digR_len]; omega
      have hbz := hb.size
      have wm : IntKind.i64.wrap (m : Int) = (m : Int) := by rw [IntKind.wrap_i64]; omega
      have wk : IntKind.i64.wrap ((k : Int) - 1) = (k : Int) - 1 := by rw [IntKind.wrap_i64]; omega
      clear hm e1
      go_wp2_with (at_builtin; go_must (refine wpList_append_n RI rfl _ _ rfl w.heap.size _ _ rfl hown _ rfl m rfl _ HA hpl hbz hb ?_; intro v2 w2 ho2 hb2))
      go_roundw
      case rel => exact ⟨k, by omega, rfl, ho2, hb2⟩
      case measure => simp [intOf]
end Go.Proofs.YtpcmpeeflnlkpaaGreatDoor

namespace Go.Proofs.YtpcmpeeflnlkpaaGreatDoor
open Go.RowKit Ch
set_option maxRecDepth 100000

/-- A value is the digits of the number N, at most so many. -/
def IsD (n : Nat) (w : World) (v : Value) (N : Nat) : Prop := ∃ y c L, v = .slice y L.length c ∧ IsN .i64 w v L ∧ AllD L ∧ Tidy L ∧ numD L = N ∧ L.length ≤ n
theorem IsD.later {n : Nat} {w w' : World} {v : Value} {N : Nat} (h : IsD n w v N) (hb : Below w.heap.size w w') : IsD n w' v N := by
  obtain ⟨y, c, L, h1, h2, h3⟩ := h
  exact ⟨y, c, L, h1, h2.later hb, h3⟩
theorem IsD.more {n m : Nat} {w : World} {v : Value} {N : Nat} (h : IsD n w v N) (hm : n ≤ m) : IsD m w v N := by
  obtain ⟨y, c, L, h1, h2, h3, h4, h5, h6⟩ := h
  exact ⟨y, c, L, h1, h2, h3, h4, h5, Nat.le_trans h6 hm⟩
theorem trimL_le (L : List Nat) : (trimL L).length ≤ L.length := by
  unfold trimL
  rw [List.length_reverse]
  exact Nat.le_trans (List.dropWhile_sublist _).length_le (by simp)
theorem isD_trim {w : World} {y : Option Addr} {c n N : Nat} {L : List Nat} (hI : IsN .i64 w (.slice y (trimL L).length c) (trimL L)) (hA : AllD L) (hN : numD L = N) (hn : L.length ≤ n) : IsD n w (.slice y (trimL L).length c) N :=
  ⟨y, c, trimL L, rfl, hI, hA.trim, tidy_trim L, by rw [numD_trim _ L rfl, hN], Nat.le_trans (trimL_le L) hn⟩
theorem IsD.shape {n : Nat} {w : World} {v : Value} {N : Nat} (h : IsD n w v N) : ∃ y l c, v = .slice y l c ∧ (l = 0 ↔ N = 0) ∧ l ≤ n := by
  obtain ⟨y, c, L, h1, _, _, h4, h5, h6⟩ := h
  refine ⟨y, L.length, c, h1, ?_, h6⟩
  rw [← h5, tidy_nilD h4]
  exact List.length_eq_zero_iff
theorem IsD.lt {n : Nat} {w : World} {v : Value} {N : Nat} (h : IsD n w v N) : N < 256 ^ n := by
  obtain ⟨y, c, L, h1, h2, h3, h4, h5, h6⟩ := h
  rw [← h5]
  exact Nat.lt_of_lt_of_le (numD_lt h3) (Nat.pow_le_pow_right (by decide) h6)
theorem IsD.narrow {n k : Nat} {w : World} {v : Value} {N : Nat} (h : IsD n w v N) (hN : N < 256 ^ k) : IsD k w v N := by
  obtain ⟨y, c, L, h1, h2, h3, h4, h5, h6⟩ := h
  refine ⟨y, c, L, h1, h2, h3, h4, h5, ?_⟩
  by_cases h0 : L = []
  · subst h0
    exact Nat.zero_le _
  · have h7 := tidy_geD h4 h0
    rw [h5] at h7
    have h8 := (Nat.pow_lt_pow_iff_right (a := 256) (by decide)).1 (Nat.lt_of_le_of_lt h7 hN)
    omega
theorem numD_rev : ∀ l : List UInt8, numD (l.map UInt8.toNat).reverse = numB l
  | [] => rfl
  | a :: l => by
    rw [List.map_cons, List.reverse_cons, numD_snoc, numD_rev l, numB_cons, List.length_reverse, List.length_map, Nat.mul_comm, Nat.add_comm]
theorem allD_rev (l : List UInt8) : AllD (l.map UInt8.toNat).reverse := by
  intro x hx
  rw [List.mem_reverse, List.mem_map] at hx
  obtain ⟨c, _, rfl⟩ := hx
  exact c.toNat_lt
theorem digOf (x : Option Addr) (cx : Nat) (s : ByteArray) (w : World) (hS : IsBytes w (.slice x s.size cx) s) (hs : s.size ≤ 1000000) :
    Calls Tryz.prog 28 #[.slice x s.size cx] w fun e w' => (∃ v, e = .returned v ∧ IsD s.size w' v (numB s.data.toList)) ∧ Below w.heap.size w w' := by
  refine (dOf_any x cx s w hS hs).mono ?_
  rintro e w' ⟨⟨v, rfl, ⟨y, c, rfl⟩, hI⟩, hb⟩
  exact ⟨⟨_, rfl, isD_trim hI (by unfold digR; rw [List.drop_zero]; exact allD_rev _) (by unfold digR; rw [List.drop_zero]; exact numD_rev _) (by rw [digR_len]; exact Nat.le_refl _)⟩, hb⟩
/-- The bytes of digits. -/
def bytesD (L : List Nat) : List UInt8 := L.reverse.map UInt8.ofNat
theorem bytesD_nat {L : List Nat} (h : AllD L) : ((bytesD L).map UInt8.toNat).reverse = L := by
  unfold bytesD
  rw [List.map_map, ← List.map_reverse, List.reverse_reverse]
  conv => rhs; rw [← List.map_id L]
  apply List.map_congr_left
  intro x hx
  have := h x hx
  simp [Nat.mod_eq_of_lt this]
theorem numB_bytesD {L : List Nat} (h : AllD L) : numB (bytesD L) = numD L := by rw [← numD_rev, bytesD_nat h]
theorem bare_bytesD {L : List Nat} (h : AllD L) (ht : Tidy L) : bareL (bytesD L) = bytesD L := by
  rcases List.eq_nil_or_concat L with rfl | ⟨l, x, h1⟩
  · rfl
  · rw [List.concat_eq_append] at h1
    have hx := tidy_last ht h1
    have hx2 := h x (by rw [h1]; simp)
    have e : bytesD L = UInt8.ofNat x :: bytesD l := by rw [h1]; simp [bytesD]
    rw [e]
    unfold bareL
    rw [List.dropWhile_cons_of_neg]
    intro h2
    have h3 : UInt8.ofNat x = 0 := by simpa using h2
    have h4 : (UInt8.ofNat x).toNat = 0 := by rw [h3]; rfl
    simp at h4
    omega
theorem drop_rev {L : List Nat} {k x : Nat} (h : L[k]? = some x) : (L.drop (k + 1)).reverse ++ [x] = (L.drop k).reverse := by
  have hl := (List.getElem?_eq_some_iff.1 h).1
  rw [List.drop_eq_getElem_cons hl, List.reverse_cons]
  rw [List.getElem?_eq_getElem hl] at h
  rw [Option.some.inj h]
set_option maxHeartbeats 2000000 in
theorem dBytes_any (n : Nat) (v : Value) (N : Nat) (w : World) (hv : IsD n w v N) (hn : n ≤ 1000000) :
    Calls Tryz.prog 68 #[v] w fun e w' => (∃ x, e = .returned x ∧ IsNum w' x N) ∧ Below w.heap.size w w' := by
  obtain ⟨y, c, L, rfl, hI, hA, hT, hN, hl⟩ := hv
  obtain ⟨m, hm⟩ : ∃ m, L.length = m := ⟨_, rfl⟩
  have HS := show Hid (IsN .i64 w (.slice y m c) L ∧ AllD L ∧ Tidy L ∧ numD L = N ∧ L.length = m) from ⟨by rw [← hm]; exact hI, hA, hT, hN, hm⟩
  rw [hm] at hl ⊢
  clear hI hA hT hN hm
  have w0 : IntKind.i64.wrap ((m : Int) - 1) = (m : Int) - 1 := by rw [IntKind.wrap_i64]; omega
  go_enter Tryz.func68, Tryz.ntmps68
  go_wp2_with fail
  go_loopw [3, 4] (fun v t wr => ∃ j : Nat, j ≤ m ∧ t = .int .i64 ((j : Int) - 1) ∧ wr.ownsRow w.heap.size 5 1 v ((L.drop j).reverse).length (kc .u8 (L.drop j).reverse) ∧ Below w.heap.size w wr) (fun _ t _ => (intOf t + 1).toNat)
  case atStart => exact ⟨m, Nat.le_refl _, rfl, by rw [List.drop_of_length_le (by rw [HS.out.2.2.2.2]; exact Nat.le_refl _)]; exact own_nil _ _ _, Below.refl _ _⟩
  case round =>
    obtain ⟨j, hj, rfl, hown, hb⟩ := hrel
    rcases j with _ | k
    · have hge : ¬ (0 : Int) ≤ ((0 : Nat) : Int) - 1 := by omega
      obtain ⟨ya, ca, rfl⟩ := own_shape hown
      have HR := show Hid (IsNum _ (.slice ya L.length ca) N ∧ Below w.heap.size w _) from by
        refine ⟨?_, hb⟩
        obtain ⟨_, q2, q3, q4, q5⟩ := HS.out
        have e2 : (bytesD L).length = L.length := by simp [bytesD]
        have e1 : kc .u8 (L.drop 0).reverse = byteVals ⟨(bytesD L).toArray⟩ := by
          rw [List.drop_zero]
          unfold kc byteVals bytesD
          rw [List.map_map]
          apply List.map_congr_left
          intro x hx
          have := q2 x (List.mem_reverse.1 hx)
          simp [Nat.mod_eq_of_lt this]
        have e5 : ((L.drop 0).reverse).length = L.length := by simp
        have e4 : (⟨(bytesD L).toArray⟩ : ByteArray).size = L.length := by rw [size_of_list, e2]
        rw [e1, e5] at hown
        refine ⟨bytesD L, ya, ca, by rw [e2], own_bytes (by rw [e4]; exact hown), bare_bytesD q2 q3, by rw [numB_bytesD q2, q4]⟩
      clear hown hb
      go_wp2_with fail
      go_ret
      exact ⟨⟨_, rfl, HR.out.1⟩, HR.out.2⟩
    · have e1 : ((k + 1 : Nat) : Int) - 1 = (k : Int) := by omega
      rw [e1]
      have hge : (0 : Int) ≤ (k : Int) := by omega
      have hlt : (k : Int) < (m : Int) := by omega
      have hdg : L[k]? = some (atN L k) := atN_some (by have := HS.out.2.2.2.2; omega)
      obtain ⟨q, hq⟩ : ∃ q, atN L k = q := ⟨_, rfl⟩
      rw [hq] at hdg
      have hq8 : q < 256 := HS.out.2.1.at hdg
      obtain ⟨x1, b, o, rfl, hbl, gc⟩ := IsN.cellAt (HS.out.1.later hb) hdg
      clear x1 hq
      have HA := show Hid ((L.drop (k + 1)).reverse ++ [q] = (L.drop k).reverse) from drop_rev hdg
      have hpl : ((L.drop (k + 1)).reverse).length ≤ 1000000 := by simp; have := HS.out.2.2.2.2; omega
      have hbz := hb.size
      have wq : IntKind.u8.wrap (q : Int) = (q : Int) := wraps_u8 _ (by omega) (by show (q : Int) < 256; omega)
      have wk : IntKind.i64.wrap ((k : Int) - 1) = (k : Int) - 1 := by rw [IntKind.wrap_i64]; omega
      clear hdg e1
      go_wp2_with (at_builtin; go_must (refine wpList_append_n R8 rfl _ _ rfl w.heap.size _ _ rfl hown _ rfl q rfl _ HA hpl hbz hb ?_; intro v2 w2 ho2 hb2))
      go_roundw
      case rel => exact ⟨k, by omega, rfl, ho2, hb2⟩
      case measure => simp [intOf]
end Go.Proofs.YtpcmpeeflnlkpaaGreatDoor
