/-
  Package der: number, algorithm, holder.
-/
import Derived.Test.YthdoginhbhdmbaaXVal
namespace Go.Proofs.Ythdoginhbhdmbaa
open Go.RowKit Ch
set_option maxRecDepth 100000

theorem up_of {p : UInt8 × List UInt8} {n : Nat} (h : p.2.length ≤ n) (hn : n < 65536) : (putL1 p).length ≤ n + 4 := Nat.le_trans (putL1_up p (by omega)) (by omega)
set_option maxHeartbeats 4000000 in
theorem dNumber_any (l : List UInt8) (v : Value) (w : World) (h : IsBytes w v ⟨l.toArray⟩) (hl : l.length ≤ 50000) (h0 : bareL l ≠ []) :
    Calls Try.prog 50 #[v] w (Gives w (putL1 (2, numL l))) := by
  obtain ⟨x, cx, rfl⟩ := isb_shape h
  have hz : (⟨l.toArray⟩ : ByteArray).size = l.length := size_of_list l
  have hT := nTrim_any x cx ⟨l.toArray⟩ w (by rw [hz]; exact h) (by rw [hz]; omega)
  rw [hz] at hT
  rw [show (⟨l.toArray⟩ : ByteArray).data.toList = l from List.toList_toArray] at hT
  have hle : (bareL l).length ≤ l.length := by
    unfold bareL
    exact (List.dropWhile_sublist _).length_le
  obtain ⟨R, hR⟩ : ∃ R, bareL l = R := ⟨_, rfl⟩
  have HNL := show Hid (numL l = numC R) from by unfold Hid numL; rw [hR]
  rw [hR] at hT h0 hle
  have HR := show Hid (R.length ≤ 50000) from by unfold Hid; omega
  clear h hz hR hle hl
  match R, hT, h0, HNL, HR with
  | [], _, h0, _, _ => exact absurd rfl h0
  | c0 :: r, hT, _, HNL, HR =>
    clear h0
    go_enter Try.func50, Try.ntmps50
    go_wp2_with fail
    refine hT.mono ?_
    rintro e w1 ⟨v1, rfl, o1, b1⟩
    clear hT
    obtain ⟨y, c, rfl⟩ := own_shape o1
    have hI := (show OwnL w.heap.size w1 (.slice y (c0 :: r).length c) (c0 :: r) from o1).is
    obtain ⟨k, hk⟩ : ∃ k, (c0 :: r).length = k := ⟨_, rfl⟩
    have he : (⟨(c0 :: r).toArray⟩ : ByteArray).size = k := by rw [size_of_list, hk]
    have hk1 : k = r.length + 1 := by rw [← hk]; rfl
    obtain ⟨b, o, hy, hbl, gc⟩ := IsBytes.cellAt (s := ⟨(c0 :: r).toArray⟩) (by rw [he, ← hk]; exact hI) (i := 0) (by omega)
    subst hy
    rw [show byte ⟨(c0 :: r).toArray⟩ 0 = c0.toNat from by rw [byte_list]; rfl] at gc
    obtain ⟨n0, hn0⟩ : ∃ n, c0.toNat = n := ⟨_, rfl⟩
    rw [hn0] at gc
    have g0 : w1.cell? ⟨b, o, none⟩ = some (.int .u8 (n0 : Int)) := by simpa using gc
    have hk0 : (0 : Int) < (k : Int) := by omega
    have HI := show Hid (IsBytes w1 (.slice (some ⟨b, o, none⟩) k c) ⟨(c0 :: r).toArray⟩ ∧ Below w.heap.size w w1 ∧ (c0 :: r).length ≤ 50000) from ⟨hk ▸ hI, b1, HR.out⟩
    rw [hk]
    clear o1 b1 hI hk he hk1 hbl gc HR
    by_cases h7 : 127 < n0
    · have hi : ¬ (n0 : Int) < (128 : Int) := by omega
      have hi2 : (128 : Int) ≤ (n0 : Int) := by omega
      have HQ := show Hid (numL l = [0] ++ (c0 :: r)) from by unfold Hid; rw [HNL.out, numC_cons, if_pos (by omega)]; rfl
      obtain ⟨W3, hW3⟩ : ∃ W, w1.alloc (.cells #[.int .u8 0] 5) = W := ⟨_, rfl⟩
      have HO3 := show Hid (OwnL w1.heap.size W3 (.slice (some ⟨w1.heap.size, 0, none⟩) 1 1) [0] ∧ Below w1.heap.size w1 W3) from ⟨by rw [← hW3]; exact ownL_one w1 0, by rw [← hW3]; exact alB _ _⟩
      clear HNL hn0 h7
      go_wp2_with (at_builtin; go_must (refine wpList_append_k rfl _ _ rfl w1.heap.size (.slice (some ⟨w1.heap.size, 0, none⟩) 1 1) [0] rfl HO3.out.1 (.slice (some ⟨b, o, none⟩) k c) (c0 :: r) rfl (HI.out.1.later HO3.out.2) (by have := HI.out.2.2; simp at this ⊢; omega) HO3.out.2.size ?_; intro v4 w4 ho4 hk4 hb4; have hr4 := HO3.out.2.trans (RowTo.below ⟨ho4, hk4, hb4⟩ HO3.out.1 HO3.out.2.size); obtain ⟨y4, m4, c4, rfl⟩ := isb_open ho4.is; obtain ⟨W5, hW5⟩ : ∃ W, w4.alloc (.cells #[.slice y4 m4 c4] 24) = W := ⟨_, rfl⟩; have hL := show Calls Try.prog 30 #[.int .u8 2, .slice (some ⟨w4.heap.size, 0, none⟩) 1 1] W5 _ from dPut_any 2 (tk rfl) (.slice (some ⟨w4.heap.size, 0, none⟩) 1 1) [⟨([0] ++ (c0 :: r)).toArray⟩] W5 (by rw [← hW5]; exact isSl_lit w4 [(.slice y4 m4 c4, ⟨([0] ++ (c0 :: r)).toArray⟩)] (allc ho4.is alln) _ rfl 1 rfl) ([0] ++ (c0 :: r)) (by simp [flatL]) (by simp) (by have := HI.out.2.2; simp at this ⊢; omega); have HB := show Hid (Below w.heap.size w W5) from bl2 (bl2 HI.out.2.1 hr4) (by rw [← hW5]; exact alB _ _)))
      refine hL.mono ?_
      rintro e w5 ⟨⟨v5, rfl, i5⟩, b5⟩
      have HF := show Hid (IsBytes w5 v5 ⟨(putL1 (2, [0] ++ (c0 :: r))).toArray⟩ ∧ Below w.heap.size w w5) from ⟨i5, bl2 HB.out b5⟩
      clear hL i5 b5 ho4 hk4 hb4 hr4
      go_wp2_with fail
      go_ret
      exact ⟨⟨_, rfl, by rw [HQ.out]; exact HF.out.1⟩, HF.out.2⟩
    · have hi : (n0 : Int) < (128 : Int) := by omega
      have hi2 : ¬ (128 : Int) ≤ (n0 : Int) := by omega
      have HQ := show Hid (numL l = c0 :: r) from by unfold Hid; rw [HNL.out, numC_cons, if_neg (by omega)]
      obtain ⟨W5, hW5⟩ : ∃ W, w1.alloc (.cells #[.slice (some ⟨b, o, none⟩) k c] 24) = W := ⟨_, rfl⟩
      have hL := show Calls Try.prog 30 #[.int .u8 2, .slice (some ⟨w1.heap.size, 0, none⟩) 1 1] W5 _ from dPut_any 2 (tk rfl) (.slice (some ⟨w1.heap.size, 0, none⟩) 1 1) [⟨(c0 :: r).toArray⟩] W5 (by rw [← hW5]; exact isSl_lit w1 [(.slice (some ⟨b, o, none⟩) k c, ⟨(c0 :: r).toArray⟩)] (allc HI.out.1 alln) _ rfl 1 rfl) (c0 :: r) (by simp [flatL]) (by simp) (by have := HI.out.2.2; omega)
      have HB := show Hid (Below w.heap.size w W5) from bl2 HI.out.2.1 (by rw [← hW5]; exact alB _ _)
      clear HNL hn0 h7
      go_wp2_with fail
      refine hL.mono ?_
      rintro e w5 ⟨⟨v5, rfl, i5⟩, b5⟩
      have HF := show Hid (IsBytes w5 v5 ⟨(putL1 (2, c0 :: r)).toArray⟩ ∧ Below w.heap.size w w5) from ⟨i5, bl2 HB.out b5⟩
      clear hL i5 b5
      go_wp2_with fail
      go_ret
      exact ⟨⟨_, rfl, by rw [HQ.out]; exact HF.out.1⟩, HF.out.2⟩
/-- What something is made by. -/
def algL (o : List UInt8) : List UInt8 := putL1 (48, putL1 (6, o) ++ putL1 (5, []))
set_option maxHeartbeats 4000000 in
theorem dAlgorithm_any (s : ByteArray) (w : World) (hs : s.size ≤ 100) : Calls Try.prog 28 #[.string s] w (Gives w (algL s.data.toList)) := by
  have zo : Hid (s.data.toList.length ≤ 100) := by show s.data.toList.length ≤ 100; rw [len_eq]; exact hs
  obtain ⟨v1, W1, hW1, i1, b1⟩ := conv_any s w (by omega)
  obtain ⟨y1, k1, c1, rfl⟩ := isb_open i1
  have HC2 := show Hid (IsBytes W1 (.slice y1 k1 c1) ⟨(s.data.toList : List UInt8).toArray⟩ ∧ Below w.heap.size w W1) from ⟨i1, b1⟩
  clear b1 i1
  clear hs
  go_enter Try.func28, Try.ntmps28
  have ya : Hid ((s.data.toList : List UInt8).length ≤ 100) := by have := zo.out; show (s.data.toList : List UInt8).length ≤ 100; omega
  have za : Hid ((putL1 (6, s.data.toList)).length ≤ 104) := Nat.le_trans (putL1_up (6, s.data.toList) (Nat.lt_of_le_of_lt ya.out (by decide))) (Nat.add_le_add_right ya.out 4)
  obtain ⟨W4, hW4⟩ : ∃ W, W1.alloc (.cells #[.slice y1 k1 c1] 24) = W := ⟨_, rfl⟩
  have b4 : Below W1.heap.size W1 W4 := by rw [← hW4]; exact alB _ _
  have i4 : IsSl W4 (.slice (some ⟨W1.heap.size, 0, none⟩) 1 1) [⟨(s.data.toList : List UInt8).toArray⟩] := by rw [← hW4]; exact isSl_lit W1 [((.slice y1 k1 c1 : Value), (⟨(s.data.toList : List UInt8).toArray⟩ : ByteArray))] (allc HC2.out.1 alln) _ rfl 1 rfl
  have HC5 := show Hid (IsBytes W4 (.slice y1 k1 c1) ⟨(s.data.toList : List UInt8).toArray⟩ ∧ IsSl W4 (.slice (some ⟨W1.heap.size, 0, none⟩) 1 1) [⟨(s.data.toList : List UInt8).toArray⟩] ∧ Below w.heap.size w W4) from ⟨HC2.out.1.later b4, i4, bl2 HC2.out.2 b4⟩
  clear HC2
  clear b4 i4
  have hc6 := show Calls Try.prog 30 #[.int .u8 6, .slice (some ⟨W1.heap.size, 0, none⟩) 1 1] W4 (Gives W4 (putL1 (6, s.data.toList))) from dPut_any 6 (tk rfl) (.slice (some ⟨W1.heap.size, 0, none⟩) 1 1) _ W4 HC5.out.2.1 (s.data.toList) (by simp [flatL]) (by simp) (Nat.le_trans ya.out (by decide))
  go_wp2_with fail
  refine hc6.mono ?_
  rintro e w6 ⟨⟨v6, rfl, i6⟩, b6⟩
  clear hc6 hW1 hW4
  obtain ⟨y6, k6, c6, rfl⟩ := isb_open i6
  have HC7 := show Hid (IsBytes w6 (.slice y1 k1 c1) ⟨(s.data.toList : List UInt8).toArray⟩ ∧ IsSl w6 (.slice (some ⟨W1.heap.size, 0, none⟩) 1 1) [⟨(s.data.toList : List UInt8).toArray⟩] ∧ IsBytes w6 (.slice y6 k6 c6) ⟨(putL1 (6, s.data.toList) : List UInt8).toArray⟩ ∧ Below w.heap.size w w6) from ⟨HC5.out.1.later b6, HC5.out.2.1.later b6, i6, bl2 HC5.out.2.2 b6⟩
  clear HC5
  clear b6 i6
  clear ya
  have hn0 : IsSl w6 (.slice none 0 0) [] := ⟨none, 0, rfl, .inl rfl⟩
  have zb : Hid ((putL1 (5, ([] : List UInt8))).length ≤ 4) := by show (putL1 (5, ([] : List UInt8))).length ≤ 4; decide
  have hc8 := show Calls Try.prog 30 #[.int .u8 5, .slice none 0 0] w6 (Gives w6 (putL1 (5, []))) from dPut_any 5 (tk rfl) (.slice none 0 0) [] w6 hn0 [] rfl (by decide) (by decide)
  go_wp2_with fail
  refine hc8.mono ?_
  rintro e w8 ⟨⟨v8, rfl, i8⟩, b8⟩
  clear hc8
  obtain ⟨y8, k8, c8, rfl⟩ := isb_open i8
  have HC9 := show Hid (IsBytes w8 (.slice y1 k1 c1) ⟨(s.data.toList : List UInt8).toArray⟩ ∧ IsBytes w8 (.slice y6 k6 c6) ⟨(putL1 (6, s.data.toList) : List UInt8).toArray⟩ ∧ IsBytes w8 (.slice y8 k8 c8) ⟨(putL1 (5, []) : List UInt8).toArray⟩ ∧ Below w.heap.size w w8) from ⟨HC7.out.1.later b8, HC7.out.2.2.1.later b8, i8, bl2 HC7.out.2.2.2 b8⟩
  clear HC7
  clear b8 i8
  clear hn0
  have yr : Hid ((putL1 (6, s.data.toList) ++ putL1 (5, []) : List UInt8).length ≤ 108) := by have := za.out; have := zb.out; show (putL1 (6, s.data.toList) ++ putL1 (5, []) : List UInt8).length ≤ 108; simp only [List.length_append]; omega
  have zr : Hid ((putL1 (48, putL1 (6, s.data.toList) ++ putL1 (5, []))).length ≤ 112) := Nat.le_trans (putL1_up (48, putL1 (6, s.data.toList) ++ putL1 (5, [])) (Nat.lt_of_le_of_lt yr.out (by decide))) (Nat.add_le_add_right yr.out 4)
  obtain ⟨W11, hW11⟩ : ∃ W, w8.alloc (.cells #[.slice y6 k6 c6, .slice y8 k8 c8] 24) = W := ⟨_, rfl⟩
  have b11 : Below w8.heap.size w8 W11 := by rw [← hW11]; exact alB _ _
  have i11 : IsSl W11 (.slice (some ⟨w8.heap.size, 0, none⟩) 2 2) [⟨(putL1 (6, s.data.toList) : List UInt8).toArray⟩, ⟨(putL1 (5, []) : List UInt8).toArray⟩] := by rw [← hW11]; exact isSl_lit w8 [((.slice y6 k6 c6 : Value), (⟨(putL1 (6, s.data.toList) : List UInt8).toArray⟩ : ByteArray)), ((.slice y8 k8 c8 : Value), (⟨(putL1 (5, []) : List UInt8).toArray⟩ : ByteArray))] (allc HC9.out.2.1 (allc HC9.out.2.2.1 alln)) _ rfl 2 rfl
  have HC12 := show Hid (IsBytes W11 (.slice y1 k1 c1) ⟨(s.data.toList : List UInt8).toArray⟩ ∧ IsBytes W11 (.slice y6 k6 c6) ⟨(putL1 (6, s.data.toList) : List UInt8).toArray⟩ ∧ IsBytes W11 (.slice y8 k8 c8) ⟨(putL1 (5, []) : List UInt8).toArray⟩ ∧ IsSl W11 (.slice (some ⟨w8.heap.size, 0, none⟩) 2 2) [⟨(putL1 (6, s.data.toList) : List UInt8).toArray⟩, ⟨(putL1 (5, []) : List UInt8).toArray⟩] ∧ Below w.heap.size w W11) from ⟨HC9.out.1.later b11, HC9.out.2.1.later b11, HC9.out.2.2.1.later b11, i11, bl2 HC9.out.2.2.2 b11⟩
  clear HC9
  clear b11 i11
  have hc13 := show Calls Try.prog 30 #[.int .u8 48, .slice (some ⟨w8.heap.size, 0, none⟩) 2 2] W11 (Gives W11 (putL1 (48, putL1 (6, s.data.toList) ++ putL1 (5, [])))) from dPut_any 48 (tk rfl) (.slice (some ⟨w8.heap.size, 0, none⟩) 2 2) _ W11 HC12.out.2.2.2.1 (putL1 (6, s.data.toList) ++ putL1 (5, [])) (by simp [flatL]) (by simp) (Nat.le_trans yr.out (by decide))
  go_wp2_with fail
  refine hc13.mono ?_
  rintro e w13 ⟨⟨v13, rfl, i13⟩, b13⟩
  clear hc13 hW11
  obtain ⟨y13, k13, c13, rfl⟩ := isb_open i13
  have HC14 := show Hid (IsBytes w13 (.slice y1 k1 c1) ⟨(s.data.toList : List UInt8).toArray⟩ ∧ IsBytes w13 (.slice y6 k6 c6) ⟨(putL1 (6, s.data.toList) : List UInt8).toArray⟩ ∧ IsBytes w13 (.slice y8 k8 c8) ⟨(putL1 (5, []) : List UInt8).toArray⟩ ∧ IsSl w13 (.slice (some ⟨w8.heap.size, 0, none⟩) 2 2) [⟨(putL1 (6, s.data.toList) : List UInt8).toArray⟩, ⟨(putL1 (5, []) : List UInt8).toArray⟩] ∧ IsBytes w13 (.slice y13 k13 c13) ⟨(putL1 (48, putL1 (6, s.data.toList) ++ putL1 (5, [])) : List UInt8).toArray⟩ ∧ Below w.heap.size w w13) from ⟨HC12.out.1.later b13, HC12.out.2.1.later b13, HC12.out.2.2.1.later b13, HC12.out.2.2.2.1.later b13, i13, bl2 HC12.out.2.2.2.2 b13⟩
  clear HC12
  clear b13 i13
  clear yr
  go_wp2_with fail
  go_ret
  exact ⟨⟨_, rfl, HC14.out.2.2.2.2.1⟩, HC14.out.2.2.2.2.2⟩
/-- A holder's name. -/
def holdL (o : List UInt8) : List UInt8 := putL1 (48, putL1 (49, putL1 (48, putL1 (6, [85, 4, 3]) ++ putL1 (12, o))))
set_option maxHeartbeats 4000000 in
theorem dHolder_any (s : ByteArray) (w : World) (hs : s.size ≤ 200) : Calls Try.prog 29 #[.string s] w (Gives w (holdL s.data.toList)) := by
  have zo : Hid (s.data.toList.length ≤ 200) := by show s.data.toList.length ≤ 200; rw [len_eq]; exact hs
  obtain ⟨W1, hW1⟩ : ∃ W, w.alloc (.cells #[.int .u8 85, .int .u8 4, .int .u8 3] 5 (3, 4)) = W := ⟨_, rfl⟩
  have b1 : Below w.heap.size w W1 := by rw [← hW1]; exact alB _ _
  have i1 : IsBytes W1 (.slice (some ⟨w.heap.size, 0, none⟩) 3 3) ⟨([85, 4, 3] : List UInt8).toArray⟩ := by rw [← hW1]; exact litM w ⟨#[85, 4, 3]⟩ _ _ rfl (show (3 : Nat) ≤ maxLen by unfold maxLen; decide)
  have HC2 := show Hid (IsBytes W1 (.slice (some ⟨w.heap.size, 0, none⟩) 3 3) ⟨([85, 4, 3] : List UInt8).toArray⟩ ∧ Below w.heap.size w W1) from ⟨i1, b1⟩
  clear b1 i1
  have hs6 := hs
  clear hs
  have kc := fun (w : World) (C : Array Value) (n c : Nat) => Lib.run_convert_bytes_const (P := Try.prog) w 24 5 C n c Try.underlying24 Try.underlying5
  go_enter Try.func29, Try.ntmps29
  have ya : Hid (([85, 4, 3] : List UInt8).length ≤ 3) := by show ([85, 4, 3] : List UInt8).length ≤ 3; simp only [List.length_cons, List.length_nil]; omega
  have za : Hid ((putL1 (6, [85, 4, 3])).length ≤ 7) := Nat.le_trans (putL1_up (6, [85, 4, 3]) (Nat.lt_of_le_of_lt ya.out (by decide))) (Nat.add_le_add_right ya.out 4)
  obtain ⟨W4, hW4⟩ : ∃ W, W1.alloc (.cells #[.slice (some ⟨w.heap.size, 0, none⟩) 3 3] 24) = W := ⟨_, rfl⟩
  have b4 : Below W1.heap.size W1 W4 := by rw [← hW4]; exact alB _ _
  have i4 : IsSl W4 (.slice (some ⟨W1.heap.size, 0, none⟩) 1 1) [⟨([85, 4, 3] : List UInt8).toArray⟩] := by rw [← hW4]; exact isSl_lit W1 [((.slice (some ⟨w.heap.size, 0, none⟩) 3 3 : Value), (⟨([85, 4, 3] : List UInt8).toArray⟩ : ByteArray))] (allc HC2.out.1 alln) _ rfl 1 rfl
  have HC5 := show Hid (IsBytes W4 (.slice (some ⟨w.heap.size, 0, none⟩) 3 3) ⟨([85, 4, 3] : List UInt8).toArray⟩ ∧ IsSl W4 (.slice (some ⟨W1.heap.size, 0, none⟩) 1 1) [⟨([85, 4, 3] : List UInt8).toArray⟩] ∧ Below w.heap.size w W4) from ⟨HC2.out.1.later b4, i4, bl2 HC2.out.2 b4⟩
  clear HC2
  clear b4 i4
  have hc6 := show Calls Try.prog 30 #[.int .u8 6, .slice (some ⟨W1.heap.size, 0, none⟩) 1 1] W4 (Gives W4 (putL1 (6, [85, 4, 3]))) from dPut_any 6 (tk rfl) (.slice (some ⟨W1.heap.size, 0, none⟩) 1 1) _ W4 HC5.out.2.1 ([85, 4, 3]) (by simp [flatL]) (by simp) (Nat.le_trans ya.out (by decide))
  go_wp2_with fail
  refine hc6.mono ?_
  rintro e w6 ⟨⟨v6, rfl, i6⟩, b6⟩
  clear hc6 hW1 hW4
  obtain ⟨y6, k6, c6, rfl⟩ := isb_open i6
  have HC7 := show Hid (IsBytes w6 (.slice (some ⟨w.heap.size, 0, none⟩) 3 3) ⟨([85, 4, 3] : List UInt8).toArray⟩ ∧ IsSl w6 (.slice (some ⟨W1.heap.size, 0, none⟩) 1 1) [⟨([85, 4, 3] : List UInt8).toArray⟩] ∧ IsBytes w6 (.slice y6 k6 c6) ⟨(putL1 (6, [85, 4, 3]) : List UInt8).toArray⟩ ∧ Below w.heap.size w w6) from ⟨HC5.out.1.later b6, HC5.out.2.1.later b6, i6, bl2 HC5.out.2.2 b6⟩
  clear HC5
  clear b6 i6
  clear ya
  obtain ⟨v8, W8, hW8, i8, b8⟩ := conv_any s w6 (by exact Nat.le_trans hs6 (by decide))
  replace i8 : IsBytes W8 v8 ⟨(s.data.toList : List UInt8).toArray⟩ := i8
  obtain ⟨y8, k8, c8, rfl⟩ := isb_open i8
  have HC9 := show Hid (IsBytes W8 (.slice (some ⟨w.heap.size, 0, none⟩) 3 3) ⟨([85, 4, 3] : List UInt8).toArray⟩ ∧ IsBytes W8 (.slice y6 k6 c6) ⟨(putL1 (6, [85, 4, 3]) : List UInt8).toArray⟩ ∧ IsBytes W8 (.slice y8 k8 c8) ⟨(s.data.toList : List UInt8).toArray⟩ ∧ Below w.heap.size w W8) from ⟨HC7.out.1.later b8, HC7.out.2.2.1.later b8, i8, bl2 HC7.out.2.2.2 b8⟩
  clear HC7
  clear b8 i8
  clear hs6
  have yb : Hid ((s.data.toList : List UInt8).length ≤ 200) := by have := zo.out; show (s.data.toList : List UInt8).length ≤ 200; omega
  have zb : Hid ((putL1 (12, s.data.toList)).length ≤ 204) := Nat.le_trans (putL1_up (12, s.data.toList) (Nat.lt_of_le_of_lt yb.out (by decide))) (Nat.add_le_add_right yb.out 4)
  obtain ⟨W11, hW11⟩ : ∃ W, W8.alloc (.cells #[.slice y8 k8 c8] 24) = W := ⟨_, rfl⟩
  have b11 : Below W8.heap.size W8 W11 := by rw [← hW11]; exact alB _ _
  have i11 : IsSl W11 (.slice (some ⟨W8.heap.size, 0, none⟩) 1 1) [⟨(s.data.toList : List UInt8).toArray⟩] := by rw [← hW11]; exact isSl_lit W8 [((.slice y8 k8 c8 : Value), (⟨(s.data.toList : List UInt8).toArray⟩ : ByteArray))] (allc HC9.out.2.2.1 alln) _ rfl 1 rfl
  have HC12 := show Hid (IsBytes W11 (.slice (some ⟨w.heap.size, 0, none⟩) 3 3) ⟨([85, 4, 3] : List UInt8).toArray⟩ ∧ IsBytes W11 (.slice y6 k6 c6) ⟨(putL1 (6, [85, 4, 3]) : List UInt8).toArray⟩ ∧ IsBytes W11 (.slice y8 k8 c8) ⟨(s.data.toList : List UInt8).toArray⟩ ∧ IsSl W11 (.slice (some ⟨W8.heap.size, 0, none⟩) 1 1) [⟨(s.data.toList : List UInt8).toArray⟩] ∧ Below w.heap.size w W11) from ⟨HC9.out.1.later b11, HC9.out.2.1.later b11, HC9.out.2.2.1.later b11, i11, bl2 HC9.out.2.2.2 b11⟩
  clear HC9
  clear b11 i11
  have hc13 := show Calls Try.prog 30 #[.int .u8 12, .slice (some ⟨W8.heap.size, 0, none⟩) 1 1] W11 (Gives W11 (putL1 (12, s.data.toList))) from dPut_any 12 (tk rfl) (.slice (some ⟨W8.heap.size, 0, none⟩) 1 1) _ W11 HC12.out.2.2.2.1 (s.data.toList) (by simp [flatL]) (by simp) (Nat.le_trans yb.out (by decide))
  go_wp2_with fail
  refine hc13.mono ?_
  rintro e w13 ⟨⟨v13, rfl, i13⟩, b13⟩
  clear hc13 hW8 hW11
  obtain ⟨y13, k13, c13, rfl⟩ := isb_open i13
  have HC14 := show Hid (IsBytes w13 (.slice (some ⟨w.heap.size, 0, none⟩) 3 3) ⟨([85, 4, 3] : List UInt8).toArray⟩ ∧ IsBytes w13 (.slice y6 k6 c6) ⟨(putL1 (6, [85, 4, 3]) : List UInt8).toArray⟩ ∧ IsBytes w13 (.slice y8 k8 c8) ⟨(s.data.toList : List UInt8).toArray⟩ ∧ IsSl w13 (.slice (some ⟨W8.heap.size, 0, none⟩) 1 1) [⟨(s.data.toList : List UInt8).toArray⟩] ∧ IsBytes w13 (.slice y13 k13 c13) ⟨(putL1 (12, s.data.toList) : List UInt8).toArray⟩ ∧ Below w.heap.size w w13) from ⟨HC12.out.1.later b13, HC12.out.2.1.later b13, HC12.out.2.2.1.later b13, HC12.out.2.2.2.1.later b13, i13, bl2 HC12.out.2.2.2.2 b13⟩
  clear HC12
  clear b13 i13
  clear yb
  have yd : Hid ((putL1 (6, [85, 4, 3]) ++ putL1 (12, s.data.toList) : List UInt8).length ≤ 211) := by have := za.out; have := zb.out; show (putL1 (6, [85, 4, 3]) ++ putL1 (12, s.data.toList) : List UInt8).length ≤ 211; simp only [List.length_append]; omega
  have zd : Hid ((putL1 (48, putL1 (6, [85, 4, 3]) ++ putL1 (12, s.data.toList))).length ≤ 215) := Nat.le_trans (putL1_up (48, putL1 (6, [85, 4, 3]) ++ putL1 (12, s.data.toList)) (Nat.lt_of_le_of_lt yd.out (by decide))) (Nat.add_le_add_right yd.out 4)
  obtain ⟨W16, hW16⟩ : ∃ W, w13.alloc (.cells #[.slice y6 k6 c6, .slice y13 k13 c13] 24) = W := ⟨_, rfl⟩
  have b16 : Below w13.heap.size w13 W16 := by rw [← hW16]; exact alB _ _
  have i16 : IsSl W16 (.slice (some ⟨w13.heap.size, 0, none⟩) 2 2) [⟨(putL1 (6, [85, 4, 3]) : List UInt8).toArray⟩, ⟨(putL1 (12, s.data.toList) : List UInt8).toArray⟩] := by rw [← hW16]; exact isSl_lit w13 [((.slice y6 k6 c6 : Value), (⟨(putL1 (6, [85, 4, 3]) : List UInt8).toArray⟩ : ByteArray)), ((.slice y13 k13 c13 : Value), (⟨(putL1 (12, s.data.toList) : List UInt8).toArray⟩ : ByteArray))] (allc HC14.out.2.1 (allc HC14.out.2.2.2.2.1 alln)) _ rfl 2 rfl
  have HC17 := show Hid (IsBytes W16 (.slice (some ⟨w.heap.size, 0, none⟩) 3 3) ⟨([85, 4, 3] : List UInt8).toArray⟩ ∧ IsBytes W16 (.slice y6 k6 c6) ⟨(putL1 (6, [85, 4, 3]) : List UInt8).toArray⟩ ∧ IsBytes W16 (.slice y8 k8 c8) ⟨(s.data.toList : List UInt8).toArray⟩ ∧ IsBytes W16 (.slice y13 k13 c13) ⟨(putL1 (12, s.data.toList) : List UInt8).toArray⟩ ∧ IsSl W16 (.slice (some ⟨w13.heap.size, 0, none⟩) 2 2) [⟨(putL1 (6, [85, 4, 3]) : List UInt8).toArray⟩, ⟨(putL1 (12, s.data.toList) : List UInt8).toArray⟩] ∧ Below w.heap.size w W16) from ⟨HC14.out.1.later b16, HC14.out.2.1.later b16, HC14.out.2.2.1.later b16, HC14.out.2.2.2.2.1.later b16, i16, bl2 HC14.out.2.2.2.2.2 b16⟩
  clear HC14
  clear b16 i16
  have hc18 := show Calls Try.prog 30 #[.int .u8 48, .slice (some ⟨w13.heap.size, 0, none⟩) 2 2] W16 (Gives W16 (putL1 (48, putL1 (6, [85, 4, 3]) ++ putL1 (12, s.data.toList)))) from dPut_any 48 (tk rfl) (.slice (some ⟨w13.heap.size, 0, none⟩) 2 2) _ W16 HC17.out.2.2.2.2.1 (putL1 (6, [85, 4, 3]) ++ putL1 (12, s.data.toList)) (by simp [flatL]) (by simp) (Nat.le_trans yd.out (by decide))
  go_wp2_with fail
  refine hc18.mono ?_
  rintro e w18 ⟨⟨v18, rfl, i18⟩, b18⟩
  clear hc18 hW16
  obtain ⟨y18, k18, c18, rfl⟩ := isb_open i18
  have HC19 := show Hid (IsBytes w18 (.slice (some ⟨w.heap.size, 0, none⟩) 3 3) ⟨([85, 4, 3] : List UInt8).toArray⟩ ∧ IsBytes w18 (.slice y6 k6 c6) ⟨(putL1 (6, [85, 4, 3]) : List UInt8).toArray⟩ ∧ IsBytes w18 (.slice y8 k8 c8) ⟨(s.data.toList : List UInt8).toArray⟩ ∧ IsBytes w18 (.slice y13 k13 c13) ⟨(putL1 (12, s.data.toList) : List UInt8).toArray⟩ ∧ IsSl w18 (.slice (some ⟨w13.heap.size, 0, none⟩) 2 2) [⟨(putL1 (6, [85, 4, 3]) : List UInt8).toArray⟩, ⟨(putL1 (12, s.data.toList) : List UInt8).toArray⟩] ∧ IsBytes w18 (.slice y18 k18 c18) ⟨(putL1 (48, putL1 (6, [85, 4, 3]) ++ putL1 (12, s.data.toList)) : List UInt8).toArray⟩ ∧ Below w.heap.size w w18) from ⟨HC17.out.1.later b18, HC17.out.2.1.later b18, HC17.out.2.2.1.later b18, HC17.out.2.2.2.1.later b18, HC17.out.2.2.2.2.1.later b18, i18, bl2 HC17.out.2.2.2.2.2 b18⟩
  clear HC17
  clear b18 i18
  clear yd
  have ye : Hid ((putL1 (48, putL1 (6, [85, 4, 3]) ++ putL1 (12, s.data.toList)) : List UInt8).length ≤ 215) := by have := zd.out; show (putL1 (48, putL1 (6, [85, 4, 3]) ++ putL1 (12, s.data.toList)) : List UInt8).length ≤ 215; omega
  have ze : Hid ((putL1 (49, putL1 (48, putL1 (6, [85, 4, 3]) ++ putL1 (12, s.data.toList)))).length ≤ 219) := Nat.le_trans (putL1_up (49, putL1 (48, putL1 (6, [85, 4, 3]) ++ putL1 (12, s.data.toList))) (Nat.lt_of_le_of_lt ye.out (by decide))) (Nat.add_le_add_right ye.out 4)
  obtain ⟨W21, hW21⟩ : ∃ W, w18.alloc (.cells #[.slice y18 k18 c18] 24) = W := ⟨_, rfl⟩
  have b21 : Below w18.heap.size w18 W21 := by rw [← hW21]; exact alB _ _
  have i21 : IsSl W21 (.slice (some ⟨w18.heap.size, 0, none⟩) 1 1) [⟨(putL1 (48, putL1 (6, [85, 4, 3]) ++ putL1 (12, s.data.toList)) : List UInt8).toArray⟩] := by rw [← hW21]; exact isSl_lit w18 [((.slice y18 k18 c18 : Value), (⟨(putL1 (48, putL1 (6, [85, 4, 3]) ++ putL1 (12, s.data.toList)) : List UInt8).toArray⟩ : ByteArray))] (allc HC19.out.2.2.2.2.2.1 alln) _ rfl 1 rfl
  have HC22 := show Hid (IsBytes W21 (.slice (some ⟨w.heap.size, 0, none⟩) 3 3) ⟨([85, 4, 3] : List UInt8).toArray⟩ ∧ IsBytes W21 (.slice y6 k6 c6) ⟨(putL1 (6, [85, 4, 3]) : List UInt8).toArray⟩ ∧ IsBytes W21 (.slice y8 k8 c8) ⟨(s.data.toList : List UInt8).toArray⟩ ∧ IsBytes W21 (.slice y13 k13 c13) ⟨(putL1 (12, s.data.toList) : List UInt8).toArray⟩ ∧ IsBytes W21 (.slice y18 k18 c18) ⟨(putL1 (48, putL1 (6, [85, 4, 3]) ++ putL1 (12, s.data.toList)) : List UInt8).toArray⟩ ∧ IsSl W21 (.slice (some ⟨w18.heap.size, 0, none⟩) 1 1) [⟨(putL1 (48, putL1 (6, [85, 4, 3]) ++ putL1 (12, s.data.toList)) : List UInt8).toArray⟩] ∧ Below w.heap.size w W21) from ⟨HC19.out.1.later b21, HC19.out.2.1.later b21, HC19.out.2.2.1.later b21, HC19.out.2.2.2.1.later b21, HC19.out.2.2.2.2.2.1.later b21, i21, bl2 HC19.out.2.2.2.2.2.2 b21⟩
  clear HC19
  clear b21 i21
  have hc23 := show Calls Try.prog 30 #[.int .u8 49, .slice (some ⟨w18.heap.size, 0, none⟩) 1 1] W21 (Gives W21 (putL1 (49, putL1 (48, putL1 (6, [85, 4, 3]) ++ putL1 (12, s.data.toList))))) from dPut_any 49 (tk rfl) (.slice (some ⟨w18.heap.size, 0, none⟩) 1 1) _ W21 HC22.out.2.2.2.2.2.1 (putL1 (48, putL1 (6, [85, 4, 3]) ++ putL1 (12, s.data.toList))) (by simp [flatL]) (by simp) (Nat.le_trans ye.out (by decide))
  go_wp2_with fail
  refine hc23.mono ?_
  rintro e w23 ⟨⟨v23, rfl, i23⟩, b23⟩
  clear hc23 hW21
  obtain ⟨y23, k23, c23, rfl⟩ := isb_open i23
  have HC24 := show Hid (IsBytes w23 (.slice (some ⟨w.heap.size, 0, none⟩) 3 3) ⟨([85, 4, 3] : List UInt8).toArray⟩ ∧ IsBytes w23 (.slice y6 k6 c6) ⟨(putL1 (6, [85, 4, 3]) : List UInt8).toArray⟩ ∧ IsBytes w23 (.slice y8 k8 c8) ⟨(s.data.toList : List UInt8).toArray⟩ ∧ IsBytes w23 (.slice y13 k13 c13) ⟨(putL1 (12, s.data.toList) : List UInt8).toArray⟩ ∧ IsBytes w23 (.slice y18 k18 c18) ⟨(putL1 (48, putL1 (6, [85, 4, 3]) ++ putL1 (12, s.data.toList)) : List UInt8).toArray⟩ ∧ IsSl w23 (.slice (some ⟨w18.heap.size, 0, none⟩) 1 1) [⟨(putL1 (48, putL1 (6, [85, 4, 3]) ++ putL1 (12, s.data.toList)) : List UInt8).toArray⟩] ∧ IsBytes w23 (.slice y23 k23 c23) ⟨(putL1 (49, putL1 (48, putL1 (6, [85, 4, 3]) ++ putL1 (12, s.data.toList))) : List UInt8).toArray⟩ ∧ Below w.heap.size w w23) from ⟨HC22.out.1.later b23, HC22.out.2.1.later b23, HC22.out.2.2.1.later b23, HC22.out.2.2.2.1.later b23, HC22.out.2.2.2.2.1.later b23, HC22.out.2.2.2.2.2.1.later b23, i23, bl2 HC22.out.2.2.2.2.2.2 b23⟩
  clear HC22
  clear b23 i23
  clear ye
  have yr : Hid ((putL1 (49, putL1 (48, putL1 (6, [85, 4, 3]) ++ putL1 (12, s.data.toList))) : List UInt8).length ≤ 219) := by have := ze.out; show (putL1 (49, putL1 (48, putL1 (6, [85, 4, 3]) ++ putL1 (12, s.data.toList))) : List UInt8).length ≤ 219; omega
  have zr : Hid ((putL1 (48, putL1 (49, putL1 (48, putL1 (6, [85, 4, 3]) ++ putL1 (12, s.data.toList))))).length ≤ 223) := Nat.le_trans (putL1_up (48, putL1 (49, putL1 (48, putL1 (6, [85, 4, 3]) ++ putL1 (12, s.data.toList)))) (Nat.lt_of_le_of_lt yr.out (by decide))) (Nat.add_le_add_right yr.out 4)
  obtain ⟨W26, hW26⟩ : ∃ W, w23.alloc (.cells #[.slice y23 k23 c23] 24) = W := ⟨_, rfl⟩
  have b26 : Below w23.heap.size w23 W26 := by rw [← hW26]; exact alB _ _
  have i26 : IsSl W26 (.slice (some ⟨w23.heap.size, 0, none⟩) 1 1) [⟨(putL1 (49, putL1 (48, putL1 (6, [85, 4, 3]) ++ putL1 (12, s.data.toList))) : List UInt8).toArray⟩] := by rw [← hW26]; exact isSl_lit w23 [((.slice y23 k23 c23 : Value), (⟨(putL1 (49, putL1 (48, putL1 (6, [85, 4, 3]) ++ putL1 (12, s.data.toList))) : List UInt8).toArray⟩ : ByteArray))] (allc HC24.out.2.2.2.2.2.2.1 alln) _ rfl 1 rfl
  have HC27 := show Hid (IsBytes W26 (.slice (some ⟨w.heap.size, 0, none⟩) 3 3) ⟨([85, 4, 3] : List UInt8).toArray⟩ ∧ IsBytes W26 (.slice y6 k6 c6) ⟨(putL1 (6, [85, 4, 3]) : List UInt8).toArray⟩ ∧ IsBytes W26 (.slice y8 k8 c8) ⟨(s.data.toList : List UInt8).toArray⟩ ∧ IsBytes W26 (.slice y13 k13 c13) ⟨(putL1 (12, s.data.toList) : List UInt8).toArray⟩ ∧ IsBytes W26 (.slice y18 k18 c18) ⟨(putL1 (48, putL1 (6, [85, 4, 3]) ++ putL1 (12, s.data.toList)) : List UInt8).toArray⟩ ∧ IsBytes W26 (.slice y23 k23 c23) ⟨(putL1 (49, putL1 (48, putL1 (6, [85, 4, 3]) ++ putL1 (12, s.data.toList))) : List UInt8).toArray⟩ ∧ IsSl W26 (.slice (some ⟨w23.heap.size, 0, none⟩) 1 1) [⟨(putL1 (49, putL1 (48, putL1 (6, [85, 4, 3]) ++ putL1 (12, s.data.toList))) : List UInt8).toArray⟩] ∧ Below w.heap.size w W26) from ⟨HC24.out.1.later b26, HC24.out.2.1.later b26, HC24.out.2.2.1.later b26, HC24.out.2.2.2.1.later b26, HC24.out.2.2.2.2.1.later b26, HC24.out.2.2.2.2.2.2.1.later b26, i26, bl2 HC24.out.2.2.2.2.2.2.2 b26⟩
  clear HC24
  clear b26 i26
  have hc28 := show Calls Try.prog 30 #[.int .u8 48, .slice (some ⟨w23.heap.size, 0, none⟩) 1 1] W26 (Gives W26 (putL1 (48, putL1 (49, putL1 (48, putL1 (6, [85, 4, 3]) ++ putL1 (12, s.data.toList)))))) from dPut_any 48 (tk rfl) (.slice (some ⟨w23.heap.size, 0, none⟩) 1 1) _ W26 HC27.out.2.2.2.2.2.2.1 (putL1 (49, putL1 (48, putL1 (6, [85, 4, 3]) ++ putL1 (12, s.data.toList)))) (by simp [flatL]) (by simp) (Nat.le_trans yr.out (by decide))
  go_wp2_with fail
  refine hc28.mono ?_
  rintro e w28 ⟨⟨v28, rfl, i28⟩, b28⟩
  clear hc28 hW26
  obtain ⟨y28, k28, c28, rfl⟩ := isb_open i28
  have HC29 := show Hid (IsBytes w28 (.slice (some ⟨w.heap.size, 0, none⟩) 3 3) ⟨([85, 4, 3] : List UInt8).toArray⟩ ∧ IsBytes w28 (.slice y6 k6 c6) ⟨(putL1 (6, [85, 4, 3]) : List UInt8).toArray⟩ ∧ IsBytes w28 (.slice y8 k8 c8) ⟨(s.data.toList : List UInt8).toArray⟩ ∧ IsBytes w28 (.slice y13 k13 c13) ⟨(putL1 (12, s.data.toList) : List UInt8).toArray⟩ ∧ IsBytes w28 (.slice y18 k18 c18) ⟨(putL1 (48, putL1 (6, [85, 4, 3]) ++ putL1 (12, s.data.toList)) : List UInt8).toArray⟩ ∧ IsBytes w28 (.slice y23 k23 c23) ⟨(putL1 (49, putL1 (48, putL1 (6, [85, 4, 3]) ++ putL1 (12, s.data.toList))) : List UInt8).toArray⟩ ∧ IsSl w28 (.slice (some ⟨w23.heap.size, 0, none⟩) 1 1) [⟨(putL1 (49, putL1 (48, putL1 (6, [85, 4, 3]) ++ putL1 (12, s.data.toList))) : List UInt8).toArray⟩] ∧ IsBytes w28 (.slice y28 k28 c28) ⟨(putL1 (48, putL1 (49, putL1 (48, putL1 (6, [85, 4, 3]) ++ putL1 (12, s.data.toList)))) : List UInt8).toArray⟩ ∧ Below w.heap.size w w28) from ⟨HC27.out.1.later b28, HC27.out.2.1.later b28, HC27.out.2.2.1.later b28, HC27.out.2.2.2.1.later b28, HC27.out.2.2.2.2.1.later b28, HC27.out.2.2.2.2.2.1.later b28, HC27.out.2.2.2.2.2.2.1.later b28, i28, bl2 HC27.out.2.2.2.2.2.2.2 b28⟩
  clear HC27
  clear b28 i28
  clear yr
  go_wp2_with fail
  go_ret
  exact ⟨⟨_, rfl, HC29.out.2.2.2.2.2.2.2.1⟩, HC29.out.2.2.2.2.2.2.2.2⟩
end Go.Proofs.Ythdoginhbhdmbaa
