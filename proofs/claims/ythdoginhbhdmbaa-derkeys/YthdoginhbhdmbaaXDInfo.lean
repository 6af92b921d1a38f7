/-
  Package der: info.
-/
import Derived.Test.YthdoginhbhdmbaaXDAlg
namespace Go.Proofs.Ythdoginhbhdmbaa
open Go.RowKit Ch
set_option maxRecDepth 100000

theorem isl_open {w : World} {v : Value} {ls : List ByteArray} (h : IsSl w v ls) : ∃ y k c, v = .slice y k c := by
  obtain ⟨a, c, hv, _⟩ := h
  exact ⟨a, _, c, hv⟩
/-- A key's form. -/
def infoL (N E : List UInt8) : List UInt8 := putL1 (48, kindL 1 ++ putL1 (3, [0] ++ putL1 (48, putL1 (2, numL N) ++ putL1 (2, numL E))))
theorem numC_le : ∀ l : List UInt8, (numC l).length ≤ l.length + 1
  | [] => by simp [numC]
  | c :: r => by rw [numC_cons]; split <;> simp
theorem numL_le (l : List UInt8) : (numL l).length ≤ l.length + 1 := by
  have h1 := numC_le (bareL l)
  have h2 : (bareL l).length ≤ l.length := by
    unfold bareL
    exact (List.dropWhile_sublist _).length_le
  unfold numL
  omega
theorem putNum_le (l : List UInt8) (h : l.length ≤ 10000) : (putL1 (2, numL l)).length ≤ 10006 := by
  have h1 := numL_le l
  have := up_of (p := (2, numL l)) (n := 10001) (by simp only; omega) (by omega)
  omega
/-- A key in a box. -/
structure KeyBox (w W : World) (q : Nat) (a b c : Value) : Prop where
  below : Below w.heap.size w W
  size : w.heap.size = q
  at0 : W.heap[q]? = some (.cells #[a, b, c] 36 (0, 0))
theorem keyBox (w : World) (a b c : Value) : KeyBox w (w.alloc (.cells #[a, b, c] 36)) w.heap.size a b c := ⟨alB _ _, rfl, heap_push_at _ _⟩
theorem KeyBox.cells {w W : World} {q : Nat} {a b c : Value} (h : KeyBox w W q a b c) {u : World} (hu : Below W.heap.size W u) : u.cell? ⟨q, 0, none⟩ = some a ∧ u.cell? ⟨q, 1, none⟩ = some b ∧ u.cell? ⟨q, 2, none⟩ = some c := by
  have h1 := (hu.block q (block_lt h.at0)).trans h.at0
  exact ⟨block_cell 0 h1 rfl, block_cell 1 h1 rfl, block_cell 2 h1 rfl⟩
def semInf (x y : Option Addr) (cx cy nN nE q : Nat) (A B : List UInt8) : Nat → Value → World → Prop := fun ix v u => match ix with
  | 0 => v = .pointer (some ⟨q, 0, none⟩)
  | 1 => v = .slice x nN cx
  | 2 => IsBytes u v ⟨A.toArray⟩
  | 3 => v = .pointer (some ⟨q, 1, none⟩)
  | 4 => v = .slice y nE cy
  | 5 => IsBytes u v ⟨B.toArray⟩
  | 6 => IsSl u v [⟨A.toArray⟩, ⟨B.toArray⟩]
  | 7 => IsBytes u v ⟨(putL1 (48, A ++ B)).toArray⟩
  | 8 => IsBytes u v ⟨(putL1 (48, A ++ B)).toArray⟩
  | _ => True
set_option maxHeartbeats 8000000 in
theorem dInfo_any (x y z : Option Addr) (cx cy cz nN nE nD : Nat) (lN lE : List UInt8) (w : World) (hN : IsBytes w (.slice x nN cx) ⟨lN.toArray⟩) (hE : IsBytes w (.slice y nE cy) ⟨lE.toArray⟩) (zN : lN.length ≤ 10000) (zE : lE.length ≤ 10000) (bN : bareL lN ≠ []) (bE : bareL lE ≠ []) :
    Calls Try.prog 27 #[.agg #[.slice x nN cx, .slice y nE cy, .slice z nD cz]] w (Gives w (infoL lN lE)) := by
  obtain ⟨W1, hW1⟩ : ∃ W, w.alloc (.cells #[.slice x nN cx, .slice y nE cy, .slice z nD cz] 36) = W := ⟨_, rfl⟩
  have hK := keyBox w (.slice x nN cx) (.slice y nE cy) (.slice z nD cz)
  rw [hW1] at hK
  obtain ⟨q, hq⟩ : ∃ q, w.heap.size = q := ⟨_, rfl⟩
  rw [hq] at hK
  obtain ⟨A, hA⟩ : ∃ A, putL1 (2, numL lN) = A := ⟨_, rfl⟩
  obtain ⟨B, hB⟩ : ∃ A, putL1 (2, numL lE) = A := ⟨_, rfl⟩
  have HAB := show Hid (putL1 (2, numL lN) = A ∧ putL1 (2, numL lE) = B) from ⟨hA, hB⟩
  have HL := show Hid ((A ++ B).length ≤ 20012) from by
    have h1 := putNum_le lN zN
    have h2 := putNum_le lE zE
    rw [hA] at h1
    rw [hB] at h2
    show (A ++ B).length ≤ 20012
    rw [List.length_append]
    omega
  have HL2 := show Hid ((putL1 (48, A ++ B)).length ≤ 20016) from up_of (p := (48, A ++ B)) HL.out (by omega)
  have HU := show Hid (∀ u, Below W1.heap.size W1 u → u.cell? ⟨q, 0, none⟩ = some (.slice x nN cx) ∧ u.cell? ⟨q, 1, none⟩ = some (.slice y nE cy) ∧ Calls Try.prog 50 #[.slice x nN cx] u (Gives u A) ∧ Calls Try.prog 50 #[.slice y nE cy] u (Gives u B) ∧ Below w.heap.size w u) from fun u hu => by
    have hwu := bl2 hK.below hu
    refine ⟨(hK.cells hu).1, (hK.cells hu).2.1, ?_, ?_, hwu⟩
    · rw [← hA]
      exact dNumber_any lN _ u (hN.later hwu) (by omega) bN
    · rw [← hB]
      exact dNumber_any lE _ u (hE.later hwu) (by omega) bE
  clear hA hB hK hN hE zN zE bN bE
  go_enter Try.func27, Try.ntmps27
  go_wp2_with fail
  refine free_walk (Sem := semInf x y cx cy nN nE q A B) rfl (n := 19) (by kernel_rfl) rfl (by kernel_rfl) ?_ ?_ ?_
  · intro ix v u u' h hb
    match ix, h with
    | 0, h => exact h
    | 1, h => exact h
    | 2, h => exact IsBytes.later h hb
    | 3, h => exact h
    | 4, h => exact h
    | 5, h => exact IsBytes.later h hb
    | 6, h => exact IsSl.later h hb
    | 7, h => exact IsBytes.later h hb
    | 8, h => exact IsBytes.later h hb
    | _ + 9, _ => exact trivial
  · intro ix o a u ho hF hbu
    match ix, ho, hF with
    | 0, ho, hF =>
      obtain rfl := Option.some.inj ho
      have h1 : a.tmps[1]? = some (.pointer (some ⟨q, 0, none⟩)) := (hF.out 1 rfl).trans rfl
      refine free_step rfl (by rfl) (fun K' hK => ?_)
      go_simp
      exact hK.out _ _ rfl (Below.refl _ _)
    | 1, ho, hF =>
      obtain rfl := Option.some.inj ho
      obtain ⟨v4, h4, s4⟩ := hF.dep 0 4 rfl rfl
      obtain rfl : v4 = .pointer (some ⟨q, 0, none⟩) := s4
      have g0 := (HU.out u (below_drewA hbu)).1
      refine free_step rfl (by rfl) (fun K' hK => ?_)
      go_simp
      exact hK.out _ _ rfl (Below.refl _ _)
    | 2, ho, hF =>
      obtain rfl := Option.some.inj ho
      obtain ⟨v5, h5, s5⟩ := hF.dep 1 5 rfl rfl
      obtain rfl : v5 = .slice x nN cx := s5
      refine free_step rfl (by rfl) (fun K' hK => ?_)
      go_wp2_with fail
      refine (HU.out u (below_drewA hbu)).2.2.1.mono ?_
      rintro e u' ⟨⟨v, rfl, ho⟩, hb⟩
      go_simp
      exact hK.out _ _ ho hb
    | 3, ho, hF =>
      obtain rfl := Option.some.inj ho
      have h1 : a.tmps[1]? = some (.pointer (some ⟨q, 0, none⟩)) := (hF.out 1 rfl).trans rfl
      refine free_step rfl (by rfl) (fun K' hK => ?_)
      go_simp
      exact hK.out _ _ rfl (Below.refl _ _)
    | 4, ho, hF =>
      obtain rfl := Option.some.inj ho
      obtain ⟨v7, h7, s7⟩ := hF.dep 3 7 rfl rfl
      obtain rfl : v7 = .pointer (some ⟨q, 1, none⟩) := s7
      have g1 := (HU.out u (below_drewA hbu)).2.1
      refine free_step rfl (by rfl) (fun K' hK => ?_)
      go_simp
      exact hK.out _ _ rfl (Below.refl _ _)
    | 5, ho, hF =>
      obtain rfl := Option.some.inj ho
      obtain ⟨v8, h8, s8⟩ := hF.dep 4 8 rfl rfl
      obtain rfl : v8 = .slice y nE cy := s8
      refine free_step rfl (by rfl) (fun K' hK => ?_)
      go_wp2_with fail
      refine (HU.out u (below_drewA hbu)).2.2.2.1.mono ?_
      rintro e u' ⟨⟨v, rfl, ho⟩, hb⟩
      go_simp
      exact hK.out _ _ ho hb
    | 6, ho, hF =>
      obtain rfl := Option.some.inj ho
      obtain ⟨v6, h6, s6⟩ := hF.dep 2 6 rfl rfl
      replace s6 : IsBytes u v6 ⟨A.toArray⟩ := s6
      obtain ⟨v9, h9, s9⟩ := hF.dep 5 9 rfl rfl
      replace s9 : IsBytes u v9 ⟨B.toArray⟩ := s9
      obtain ⟨y6, k6, c6, rfl⟩ := isb_open s6
      obtain ⟨y9, k9, c9, rfl⟩ := isb_open s9
      refine free_step rfl (by rfl) (fun K' hK => ?_)
      go_simp
      exact hK.out _ _ (isSl_lit u [(.slice y6 k6 c6, ⟨A.toArray⟩), (.slice y9 k9 c9, ⟨B.toArray⟩)] (allc s6 (allc s9 alln)) _ rfl 2 rfl) (alB u _)
    | 7, ho, hF =>
      obtain rfl := Option.some.inj ho
      obtain ⟨v10, h10, s10⟩ := hF.dep 6 10 rfl rfl
      replace s10 : IsSl u v10 [⟨A.toArray⟩, ⟨B.toArray⟩] := s10
      have hP7 := dPut_any 48 (tk rfl) v10 _ u s10 (A ++ B) (by simp [flatL]) (by simp) (Nat.le_trans HL.out (by decide))
      obtain ⟨y10, k10, c10, rfl⟩ := isl_open s10
      refine free_step rfl (by rfl) (fun K' hK => ?_)
      go_wp2_with fail
      refine hP7.mono ?_
      rintro e u' ⟨⟨v, rfl, ho⟩, hb⟩
      go_simp
      exact hK.out _ _ ho hb
    | 8, ho, hF =>
      obtain rfl := Option.some.inj ho
      obtain ⟨v11, h11, s11⟩ := hF.dep 7 11 rfl rfl
      replace s11 : IsBytes u v11 ⟨(putL1 (48, A ++ B)).toArray⟩ := s11
      refine free_step rfl (by rfl) (fun K' hK => ?_)
      go_simp
      exact hK.out _ _ s11 (Below.refl _ _)
    | n + 9, ho, _ => exact absurd (Array.getElem?_eq_some_iff.1 ho).1 (by show ¬ n + 9 < 9; omega)
  · intro vs u hS hbu
    have s8 := hS 8 3 rfl
    simp only [putFrom, Act.put, List.setIfInBounds_toArray, List.set_cons_succ, List.set_cons_zero, Nat.reduceAdd]
    clear hS
    generalize vs 0 = z0
    generalize vs 1 = z1
    generalize vs 2 = z2
    generalize vs 3 = z3
    generalize vs 4 = z4
    generalize vs 5 = z5
    generalize vs 6 = z6
    generalize vs 7 = z7
    generalize vs 8 = z8 at *
    replace s8 : IsBytes u z8 ⟨(putL1 (48, A ++ B)).toArray⟩ := s8
    obtain ⟨y8, k8, c8, rfl⟩ := isb_open s8
    have HW := show Hid (IsBytes u (.slice y8 k8 c8) ⟨(putL1 (48, A ++ B)).toArray⟩ ∧ Below w.heap.size w u) from ⟨s8, (HU.out u (below_drewA hbu)).2.2.2.2⟩
    have zns := HL2
    clear hbu s8 HU HL2
    have hca1 := show Calls Try.prog 28 #[.string ⟨#[42, 134, 72, 134, 247, 13, 1, 1, 1]⟩] u (Gives u (kindL 1)) from dAlgorithm_any ⟨#[42, 134, 72, 134, 247, 13, 1, 1, 1]⟩ u (by decide)
    go_wp2_with fail
    refine hca1.mono ?_
    rintro e wa1 ⟨⟨va1, rfl, ia1⟩, ba1⟩
    clear hca1
    obtain ⟨ya1, ka1, ca1, rfl⟩ := isb_open ia1
    have HCa2 := show Hid (IsBytes wa1 (.slice y8 k8 c8) ⟨(putL1 (48, A ++ B) : List UInt8).toArray⟩ ∧ IsBytes wa1 (.slice ya1 ka1 ca1) ⟨(kindL 1 : List UInt8).toArray⟩ ∧ Below w.heap.size w wa1) from ⟨HW.out.1.later ba1, ia1, bl2 HW.out.2 ba1⟩
    clear HW
    clear ba1 ia1
    have zk : Hid ((kindL 1).length ≤ 15) := by show (kindL 1).length ≤ 15; rw [kindL_len]; omega
    obtain ⟨Wa3, hWa3⟩ : ∃ W, wa1.alloc (.cells #[.int .u8 0] 5) = W := ⟨_, rfl⟩
    have ba3 : Below wa1.heap.size wa1 Wa3 := by rw [← hWa3]; exact alB _ _
    have ia3 : IsBytes Wa3 (.slice (some ⟨wa1.heap.size, 0, none⟩) 1 1) ⟨([0] : List UInt8).toArray⟩ := by rw [← hWa3]; exact litM wa1 ⟨#[0]⟩ _ _ rfl (show (1 : Nat) ≤ maxLen by unfold maxLen; decide)
    have HCa4 := show Hid (IsBytes Wa3 (.slice y8 k8 c8) ⟨(putL1 (48, A ++ B) : List UInt8).toArray⟩ ∧ IsBytes Wa3 (.slice ya1 ka1 ca1) ⟨(kindL 1 : List UInt8).toArray⟩ ∧ IsBytes Wa3 (.slice (some ⟨wa1.heap.size, 0, none⟩) 1 1) ⟨([0] : List UInt8).toArray⟩ ∧ Below w.heap.size w Wa3) from ⟨HCa2.out.1.later ba3, HCa2.out.2.1.later ba3, ia3, bl2 HCa2.out.2.2 ba3⟩
    clear HCa2
    clear ba3 ia3
    have yp : Hid (([0] ++ putL1 (48, A ++ B) : List UInt8).length ≤ 20017) := by have := zns.out; show ([0] ++ putL1 (48, A ++ B) : List UInt8).length ≤ 20017; simp only [List.length_append, List.length_cons, List.length_nil]; omega
    have zp : Hid ((putL1 (3, [0] ++ putL1 (48, A ++ B))).length ≤ 20021) := Nat.le_trans (putL1_up (3, [0] ++ putL1 (48, A ++ B)) (Nat.lt_of_le_of_lt yp.out (by decide))) (Nat.add_le_add_right yp.out 4)
    obtain ⟨Wa6, hWa6⟩ : ∃ W, Wa3.alloc (.cells #[.slice (some ⟨wa1.heap.size, 0, none⟩) 1 1, .slice y8 k8 c8] 24) = W := ⟨_, rfl⟩
    have ba6 : Below Wa3.heap.size Wa3 Wa6 := by rw [← hWa6]; exact alB _ _
    have ia6 : IsSl Wa6 (.slice (some ⟨Wa3.heap.size, 0, none⟩) 2 2) [⟨([0] : List UInt8).toArray⟩, ⟨(putL1 (48, A ++ B) : List UInt8).toArray⟩] := by rw [← hWa6]; exact isSl_lit Wa3 [((.slice (some ⟨wa1.heap.size, 0, none⟩) 1 1 : Value), (⟨([0] : List UInt8).toArray⟩ : ByteArray)), ((.slice y8 k8 c8 : Value), (⟨(putL1 (48, A ++ B) : List UInt8).toArray⟩ : ByteArray))] (allc HCa4.out.2.2.1 (allc HCa4.out.1 alln)) _ rfl 2 rfl
    have HCa7 := show Hid (IsBytes Wa6 (.slice y8 k8 c8) ⟨(putL1 (48, A ++ B) : List UInt8).toArray⟩ ∧ IsBytes Wa6 (.slice ya1 ka1 ca1) ⟨(kindL 1 : List UInt8).toArray⟩ ∧ IsBytes Wa6 (.slice (some ⟨wa1.heap.size, 0, none⟩) 1 1) ⟨([0] : List UInt8).toArray⟩ ∧ IsSl Wa6 (.slice (some ⟨Wa3.heap.size, 0, none⟩) 2 2) [⟨([0] : List UInt8).toArray⟩, ⟨(putL1 (48, A ++ B) : List UInt8).toArray⟩] ∧ Below w.heap.size w Wa6) from ⟨HCa4.out.1.later ba6, HCa4.out.2.1.later ba6, HCa4.out.2.2.1.later ba6, ia6, bl2 HCa4.out.2.2.2 ba6⟩
    clear HCa4
    clear ba6 ia6
    have hca8 := show Calls Try.prog 30 #[.int .u8 3, .slice (some ⟨Wa3.heap.size, 0, none⟩) 2 2] Wa6 (Gives Wa6 (putL1 (3, [0] ++ putL1 (48, A ++ B)))) from dPut_any 3 (tk rfl) (.slice (some ⟨Wa3.heap.size, 0, none⟩) 2 2) _ Wa6 HCa7.out.2.2.2.1 ([0] ++ putL1 (48, A ++ B)) (by simp [flatL]) (by simp) (Nat.le_trans yp.out (by decide))
    go_wp2_with fail
    refine hca8.mono ?_
    rintro e wa8 ⟨⟨va8, rfl, ia8⟩, ba8⟩
    clear hca8 hWa3 hWa6
    obtain ⟨ya8, ka8, ca8, rfl⟩ := isb_open ia8
    have HCa9 := show Hid (IsBytes wa8 (.slice y8 k8 c8) ⟨(putL1 (48, A ++ B) : List UInt8).toArray⟩ ∧ IsBytes wa8 (.slice ya1 ka1 ca1) ⟨(kindL 1 : List UInt8).toArray⟩ ∧ IsBytes wa8 (.slice (some ⟨wa1.heap.size, 0, none⟩) 1 1) ⟨([0] : List UInt8).toArray⟩ ∧ IsSl wa8 (.slice (some ⟨Wa3.heap.size, 0, none⟩) 2 2) [⟨([0] : List UInt8).toArray⟩, ⟨(putL1 (48, A ++ B) : List UInt8).toArray⟩] ∧ IsBytes wa8 (.slice ya8 ka8 ca8) ⟨(putL1 (3, [0] ++ putL1 (48, A ++ B)) : List UInt8).toArray⟩ ∧ Below w.heap.size w wa8) from ⟨HCa7.out.1.later ba8, HCa7.out.2.1.later ba8, HCa7.out.2.2.1.later ba8, HCa7.out.2.2.2.1.later ba8, ia8, bl2 HCa7.out.2.2.2.2 ba8⟩
    clear HCa7
    clear ba8 ia8
    clear yp
    have yr : Hid ((kindL 1 ++ putL1 (3, [0] ++ putL1 (48, A ++ B)) : List UInt8).length ≤ 20036) := by have := zk.out; have := zp.out; show (kindL 1 ++ putL1 (3, [0] ++ putL1 (48, A ++ B)) : List UInt8).length ≤ 20036; simp only [List.length_append]; omega
    have zr : Hid ((putL1 (48, kindL 1 ++ putL1 (3, [0] ++ putL1 (48, A ++ B)))).length ≤ 20040) := Nat.le_trans (putL1_up (48, kindL 1 ++ putL1 (3, [0] ++ putL1 (48, A ++ B))) (Nat.lt_of_le_of_lt yr.out (by decide))) (Nat.add_le_add_right yr.out 4)
    obtain ⟨Wa11, hWa11⟩ : ∃ W, wa8.alloc (.cells #[.slice ya1 ka1 ca1, .slice ya8 ka8 ca8] 24) = W := ⟨_, rfl⟩
    have ba11 : Below wa8.heap.size wa8 Wa11 := by rw [← hWa11]; exact alB _ _
    have ia11 : IsSl Wa11 (.slice (some ⟨wa8.heap.size, 0, none⟩) 2 2) [⟨(kindL 1 : List UInt8).toArray⟩, ⟨(putL1 (3, [0] ++ putL1 (48, A ++ B)) : List UInt8).toArray⟩] := by rw [← hWa11]; exact isSl_lit wa8 [((.slice ya1 ka1 ca1 : Value), (⟨(kindL 1 : List UInt8).toArray⟩ : ByteArray)), ((.slice ya8 ka8 ca8 : Value), (⟨(putL1 (3, [0] ++ putL1 (48, A ++ B)) : List UInt8).toArray⟩ : ByteArray))] (allc HCa9.out.2.1 (allc HCa9.out.2.2.2.2.1 alln)) _ rfl 2 rfl
    have HCa12 := show Hid (IsBytes Wa11 (.slice y8 k8 c8) ⟨(putL1 (48, A ++ B) : List UInt8).toArray⟩ ∧ IsBytes Wa11 (.slice ya1 ka1 ca1) ⟨(kindL 1 : List UInt8).toArray⟩ ∧ IsBytes Wa11 (.slice (some ⟨wa1.heap.size, 0, none⟩) 1 1) ⟨([0] : List UInt8).toArray⟩ ∧ IsBytes Wa11 (.slice ya8 ka8 ca8) ⟨(putL1 (3, [0] ++ putL1 (48, A ++ B)) : List UInt8).toArray⟩ ∧ IsSl Wa11 (.slice (some ⟨wa8.heap.size, 0, none⟩) 2 2) [⟨(kindL 1 : List UInt8).toArray⟩, ⟨(putL1 (3, [0] ++ putL1 (48, A ++ B)) : List UInt8).toArray⟩] ∧ Below w.heap.size w Wa11) from ⟨HCa9.out.1.later ba11, HCa9.out.2.1.later ba11, HCa9.out.2.2.1.later ba11, HCa9.out.2.2.2.2.1.later ba11, ia11, bl2 HCa9.out.2.2.2.2.2 ba11⟩
    clear HCa9
    clear ba11 ia11
    have hca13 := show Calls Try.prog 30 #[.int .u8 48, .slice (some ⟨wa8.heap.size, 0, none⟩) 2 2] Wa11 (Gives Wa11 (putL1 (48, kindL 1 ++ putL1 (3, [0] ++ putL1 (48, A ++ B))))) from dPut_any 48 (tk rfl) (.slice (some ⟨wa8.heap.size, 0, none⟩) 2 2) _ Wa11 HCa12.out.2.2.2.2.1 (kindL 1 ++ putL1 (3, [0] ++ putL1 (48, A ++ B))) (by simp [flatL]) (by simp) (Nat.le_trans yr.out (by decide))
    go_wp2_with fail
    refine hca13.mono ?_
    rintro e wa13 ⟨⟨va13, rfl, ia13⟩, ba13⟩
    clear hca13 hWa11
    obtain ⟨ya13, ka13, ca13, rfl⟩ := isb_open ia13
    have HCa14 := show Hid (IsBytes wa13 (.slice y8 k8 c8) ⟨(putL1 (48, A ++ B) : List UInt8).toArray⟩ ∧ IsBytes wa13 (.slice ya1 ka1 ca1) ⟨(kindL 1 : List UInt8).toArray⟩ ∧ IsBytes wa13 (.slice (some ⟨wa1.heap.size, 0, none⟩) 1 1) ⟨([0] : List UInt8).toArray⟩ ∧ IsBytes wa13 (.slice ya8 ka8 ca8) ⟨(putL1 (3, [0] ++ putL1 (48, A ++ B)) : List UInt8).toArray⟩ ∧ IsSl wa13 (.slice (some ⟨wa8.heap.size, 0, none⟩) 2 2) [⟨(kindL 1 : List UInt8).toArray⟩, ⟨(putL1 (3, [0] ++ putL1 (48, A ++ B)) : List UInt8).toArray⟩] ∧ IsBytes wa13 (.slice ya13 ka13 ca13) ⟨(putL1 (48, kindL 1 ++ putL1 (3, [0] ++ putL1 (48, A ++ B))) : List UInt8).toArray⟩ ∧ Below w.heap.size w wa13) from ⟨HCa12.out.1.later ba13, HCa12.out.2.1.later ba13, HCa12.out.2.2.1.later ba13, HCa12.out.2.2.2.1.later ba13, HCa12.out.2.2.2.2.1.later ba13, ia13, bl2 HCa12.out.2.2.2.2.2 ba13⟩
    clear HCa12
    clear ba13 ia13
    clear yr
    go_wp2_with fail
    go_ret
    exact ⟨⟨_, rfl, by unfold infoL; rw [HAB.out.1, HAB.out.2]; exact HCa14.out.2.2.2.2.2.1⟩, HCa14.out.2.2.2.2.2.2⟩
end Go.Proofs.Ythdoginhbhdmbaa
