/-
  Layer 8's reference: cat, number, kind.
-/
import Derived.Test.YthdoginhbhdmbaaXRPut
import Derived.Test.YthdoginhbhdmbaaXRRight
namespace Go.Proofs.Ythdoginhbhdmbaa
open Go.RowKit Ch
set_option maxRecDepth 100000

theorem own_cap0 (w : World) : OwnL w.heap.size (w.alloc (.cells #[] 5)) (.slice (some ⟨w.heap.size, 0, none⟩) 0 0) [] := own_empty w w.heap.size (Nat.le_refl _)
set_option maxHeartbeats 4000000 in
theorem rxCat_any (x y : Option Addr) (cx cy : Nat) (a b : List UInt8) (w : World) (hA : IsBytes w (.slice x a.length cx) ⟨a.toArray⟩) (hB : IsBytes w (.slice y b.length cy) ⟨b.toArray⟩) (hl : a.length + b.length ≤ 900000) :
    Calls Try.prog 33 #[.slice x a.length cx, .slice y b.length cy] w fun e w' => (∃ v, e = .returned v ∧ OwnL w.heap.size w' v (a ++ b)) ∧ Below w.heap.size w w' := by
  obtain ⟨k, hk⟩ : ∃ k, a.length = k := ⟨_, rfl⟩
  obtain ⟨m, hm⟩ : ∃ k, b.length = k := ⟨_, rfl⟩
  obtain ⟨W1, hW1⟩ : ∃ W, w.alloc (.cells #[] 5) = W := ⟨_, rfl⟩
  have hO : OwnL w.heap.size W1 (.slice (some ⟨w.heap.size, 0, none⟩) 0 0) [] := by rw [← hW1]; exact own_cap0 w
  have b1 : Below w.heap.size w W1 := by rw [← hW1]; exact alB _ _
  have HU := show Hid ((∀ u, Below w.heap.size w u → IsBytes u (.slice x k cx) ⟨a.toArray⟩ ∧ IsBytes u (.slice y m cy) ⟨b.toArray⟩) ∧ OwnL w.heap.size W1 (.slice (some ⟨w.heap.size, 0, none⟩) 0 0) [] ∧ Below w.heap.size w W1 ∧ a.length = k ∧ b.length = m ∧ k + m ≤ 900000) from ⟨fun u hu => ⟨hk ▸ hA.later hu, hm ▸ hB.later hu⟩, hO, b1, hk, hm, by omega⟩
  rw [hk, hm]
  clear hk hm hO b1 hA hB hl
  go_enter Try.func33, Try.ntmps33
  go_wp2_with (at_builtin; go_must (first | (refine wpList_append_k rfl _ _ rfl w.heap.size (.slice (some ⟨w.heap.size, 0, none⟩) 0 0) [] rfl HU.out.2.1 (.slice x k cx) a rfl (HU.out.1 _ HU.out.2.2.1).1 (by have := HU.out.2.2.2; simp; omega) HU.out.2.2.1.size ?_; intro v2 w2 ho2 hk2 hb2; have hr2 := RowTo.below ⟨ho2, hk2, hb2⟩ HU.out.2.1 HU.out.2.2.1.size; have hb12 := HU.out.2.2.1.trans hr2) | (refine wpList_append_k rfl _ _ rfl w.heap.size v2 ([] ++ a) rfl ho2 (.slice y m cy) b rfl (HU.out.1 _ hb12).2 (by have := HU.out.2.2.2; simp; omega) hb12.size ?_; intro v3 w3 ho3 hk3 hb3; have hr3 := RowTo.below ⟨ho3, hk3, hb3⟩ ho2 hb12.size)))
  go_ret
  exact ⟨⟨_, rfl, ho3⟩, hb12.trans hr3⟩
/-- A whole number's contents. -/
def numC : List UInt8 → List UInt8
  | [] => [0]
  | c :: r => if 127 < c.toNat then 0 :: c :: r else c :: r
theorem numC_cons (c : UInt8) (r : List UInt8) : numC (c :: r) = if 127 < c.toNat then 0 :: c :: r else c :: r := rfl
def numL (l : List UInt8) : List UInt8 := numC (bareL l)
set_option maxHeartbeats 4000000 in
theorem rxNumber_any (x : Option Addr) (cx : Nat) (s : ByteArray) (w : World) (hS : IsBytes w (.slice x s.size cx) s) (hs : s.size ≤ 50000) :
    Calls Try.prog 34 #[.slice x s.size cx] w fun e w' => (∃ v, e = .returned v ∧ OwnL w.heap.size w' v (putL1 (2, numL s.data.toList))) ∧ Below w.heap.size w w' := by
  have hO := digOf x cx s w hS (by omega)
  clear hS
  go_enter Try.func34, Try.ntmps34
  go_wp2_with fail
  refine hO.mono ?_
  rintro e w1 ⟨⟨v1, rfl, d1⟩, hb1⟩
  clear hO
  have hY := dBytes_any s.size v1 (numB s.data.toList) w1 d1 (by omega)
  obtain ⟨y1, l1, c1, rfl, _⟩ := id d1.shape
  have HB1 := show Hid (Below w.heap.size w w1) from hb1
  clear d1 hb1
  go_wp2_with fail
  refine hY.mono ?_
  rintro e w2 ⟨⟨v2, rfl, R, y, c, rfl, hI, hR, hN⟩, hb2⟩
  clear hY
  have hRb : R = bareL s.data.toList := numB_inj hR (bare_bare _) (hN.trans (numB_bare _).symm)
  have hRl : R.length ≤ 50000 := by
    rw [hRb]
    have h1 : (bareL s.data.toList).length ≤ s.data.toList.length := by
      unfold bareL
      exact (List.dropWhile_sublist _).length_le
    rw [len_eq] at h1
    omega
  have HB2 := show Hid (Below w.heap.size w w2) from bl2 HB1.out hb2
  have hsz2 : w.heap.size ≤ w2.heap.size := HB2.out.size
  have HNL := show Hid (numL s.data.toList = numC R) from by unfold Hid numL; rw [← hRb]
  clear hN hR hRb hb2 HB1
  -- the last call
  have last : ∀ (u : World) (z : Option Addr) (cz : Nat) (B : List UInt8), IsBytes u (.slice z B.length cz) ⟨B.toArray⟩ → B.length ≤ 60000 → w.heap.size ≤ u.heap.size → Calls Try.prog 7 #[.int .u8 2, .slice z B.length cz] u fun e w' => (∃ v, e = .returned v ∧ OwnL u.heap.size w' v (putL1 (2, B))) ∧ Below u.heap.size u w' := fun u z cz B h h2 _ => rxPutW_any 2 B z cz u h h2
  obtain ⟨W3, hW3⟩ : ∃ W, w2.alloc (.cells #[.int .u8 0] 5) = W := ⟨_, rfl⟩
  have hO3 : OwnL w2.heap.size W3 (.slice (some ⟨w2.heap.size, 0, none⟩) 1 1) [0] := by rw [← hW3]; exact ownL_one w2 0
  have b3 : Below w2.heap.size w2 W3 := by rw [← hW3]; exact alB _ _
  have HO3 := show Hid (OwnL w2.heap.size W3 (.slice (some ⟨w2.heap.size, 0, none⟩) 1 1) [0] ∧ Below w2.heap.size w2 W3) from ⟨hO3, b3⟩
  have HI := show Hid (IsBytes w2 (.slice y R.length c) ⟨R.toArray⟩) from hI
  have HR := show Hid (R.length ≤ 50000) from hRl
  clear hO3 b3 hs
  match R, hI, hRl, HNL, HI, HR with
  | [], hI, hRl, HNL, HI, HR =>
    have HQ := show Hid (numL s.data.toList = [0]) from HNL.out
    clear hI hRl
    simp only [List.length_nil]
    go_wp2_with (at_builtin; go_must (refine wpList_append_k rfl _ _ rfl w2.heap.size (.slice (some ⟨w2.heap.size, 0, none⟩) 1 1) [0] rfl HO3.out.1 (.slice y 0 c) [] rfl (HI.out.later HO3.out.2) (by simp) HO3.out.2.size ?_; intro v4 w4 ho4 hk4 hb4; have hr4 := HO3.out.2.trans (RowTo.below ⟨ho4, hk4, hb4⟩ HO3.out.1 HO3.out.2.size); obtain ⟨y4, c4, rfl⟩ := own_shape ho4; have hL := last w4 y4 c4 ([0] ++ []) ho4.is (by simp) (Nat.le_trans hsz2 hr4.size)))
    refine hL.mono ?_
    rintro e w5 ⟨⟨v5, rfl, ho5⟩, hb5⟩
    have HF := show Hid (OwnL w.heap.size w5 v5 (putL1 (2, [0])) ∧ Below w.heap.size w w5) from ⟨own_monoN ho5 (Nat.le_trans hsz2 hr4.size), bl2 HB2.out (bl2 hr4 hb5)⟩
    clear hL ho5 hb5 ho4 hk4 hb4 hr4 last
    go_wp2_with fail
    go_ret
    exact ⟨⟨_, rfl, by rw [HQ.out]; exact HF.out.1⟩, HF.out.2⟩
  | c0 :: r, hI, hRl, HNL, HI, HR =>
    obtain ⟨k, hk⟩ : ∃ k, (c0 :: r).length = k := ⟨_, rfl⟩
    have hk1 : k = r.length + 1 := by rw [← hk]; rfl
    have he : (⟨(c0 :: r).toArray⟩ : ByteArray).size = k := by rw [size_of_list, hk]
    have hce : byte ⟨(c0 :: r).toArray⟩ 0 = c0.toNat := by rw [byte_list]; rfl
    obtain ⟨b, o, hy, hbl, gc⟩ := IsBytes.cellAt (s := ⟨(c0 :: r).toArray⟩) (by rw [he, ← hk]; exact hI) (i := 0) (by omega)
    subst hy
    rw [hce] at gc
    obtain ⟨n0, hn0⟩ : ∃ n, c0.toNat = n := ⟨_, rfl⟩
    rw [hn0] at gc
    have g0 : w2.cell? ⟨b, o, none⟩ = some (.int .u8 (n0 : Int)) := by simpa using gc
    have hz : ((k : Int) == 0) = false := beq_eq_false_iff_ne.2 (by omega)
    have hk0 : (0 : Int) < (k : Int) := by omega
    have HK := show Hid ((c0 :: r).length = k ∧ k ≤ 50000) from ⟨hk, by rw [← hk]; exact HR.out⟩
    rw [hk] at HI ⊢
    clear hI hRl hk hk1 he hce gc hbl
    by_cases h7 : 127 < n0
    · have hi : (127 : Int) < (n0 : Int) := by omega
      have HQ := show Hid (numL s.data.toList = [0] ++ (c0 :: r)) from by unfold Hid; rw [HNL.out, numC_cons, if_pos (by omega)]; rfl
      clear HNL hn0
      go_wp2_with (at_builtin; go_must (refine wpList_append_k rfl _ _ rfl w2.heap.size (.slice (some ⟨w2.heap.size, 0, none⟩) 1 1) [0] rfl HO3.out.1 (.slice (some ⟨b, o, none⟩) k c) (c0 :: r) rfl (HI.out.later HO3.out.2) (by have := HK.out; simp at this ⊢; omega) HO3.out.2.size ?_; intro v4 w4 ho4 hk4 hb4; have hr4 := HO3.out.2.trans (RowTo.below ⟨ho4, hk4, hb4⟩ HO3.out.1 HO3.out.2.size); obtain ⟨y4, c4, rfl⟩ := own_shape ho4; have hL := last w4 y4 c4 ([0] ++ (c0 :: r)) ho4.is (by have := HK.out; simp at this ⊢; omega) (Nat.le_trans hsz2 hr4.size)))
      refine hL.mono ?_
      rintro e w5 ⟨⟨v5, rfl, ho5⟩, hb5⟩
      have HF := show Hid (OwnL w.heap.size w5 v5 (putL1 (2, [0] ++ (c0 :: r))) ∧ Below w.heap.size w w5) from ⟨own_monoN ho5 (Nat.le_trans hsz2 hr4.size), bl2 HB2.out (bl2 hr4 hb5)⟩
      clear hL ho5 hb5 ho4 hk4 hb4 hr4 last
      go_wp2_with fail
      go_ret
      exact ⟨⟨_, rfl, by rw [HQ.out]; exact HF.out.1⟩, HF.out.2⟩
    · have hi : ¬ (127 : Int) < (n0 : Int) := by omega
      have HQ := show Hid (numL s.data.toList = c0 :: r) from by unfold Hid; rw [HNL.out, numC_cons, if_neg (by omega)]
      have hL := last w2 (some ⟨b, o, none⟩) c (c0 :: r) (by rw [HK.out.1]; exact HI.out) (by have := HK.out; omega) hsz2
      rw [HK.out.1] at hL
      clear HNL hn0 last
      go_wp2_with fail
      refine hL.mono ?_
      rintro e w5 ⟨⟨v5, rfl, ho5⟩, hb5⟩
      have HF := show Hid (OwnL w.heap.size w5 v5 (putL1 (2, c0 :: r)) ∧ Below w.heap.size w w5) from ⟨own_monoN ho5 hsz2, bl2 HB2.out hb5⟩
      clear hL ho5 hb5
      go_wp2_with fail
      go_ret
      exact ⟨⟨_, rfl, by rw [HQ.out]; exact HF.out.1⟩, HF.out.2⟩
end Go.Proofs.Ythdoginhbhdmbaa
