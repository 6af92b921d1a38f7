/-
  Layer 8's reference: Info, Cert.
-/
import Derived.Test.YthdoginhbhdmbaaXDCert
namespace Go.Proofs.Ythdoginhbhdmbaa
open Go.RowKit Ch
set_option maxRecDepth 100000

def semRInf (x y : Option Addr) (cx cy nN nE q : Nat) (A B : List UInt8) : Nat → Value → World → Prop := fun ix v u => match ix with
  | 0 => v = .pointer (some ⟨q, 0, none⟩)
  | 1 => v = .slice x nN cx
  | 2 => IsBytes u v ⟨A.toArray⟩
  | 3 => v = .pointer (some ⟨q, 1, none⟩)
  | 4 => v = .slice y nE cy
  | 5 => IsBytes u v ⟨B.toArray⟩
  | 6 => IsBytes u v ⟨(A ++ B).toArray⟩
  | 7 => IsBytes u v ⟨(putL1 (48, A ++ B)).toArray⟩
  | 8 => IsBytes u v ⟨(putL1 (48, A ++ B)).toArray⟩
  | _ => True
set_option maxHeartbeats 8000000 in
theorem rxInfo_any (x y z : Option Addr) (cx cy cz nN nE nD : Nat) (lN lE : List UInt8) (w : World) (hN : IsBytes w (.slice x nN cx) ⟨lN.toArray⟩) (hE : IsBytes w (.slice y nE cy) ⟨lE.toArray⟩) (zN : lN.length ≤ 10000) (zE : lE.length ≤ 10000) :
    Calls Try.prog 14 #[.agg #[.slice x nN cx, .slice y nE cy, .slice z nD cz]] w (Gives w (infoL lN lE)) := by
  obtain ⟨W1, hW1⟩ : ∃ W, w.alloc (.cells #[.slice x nN cx, .slice y nE cy, .slice z nD cz] 36) = W := ⟨_, rfl⟩
  have hK := keyBox w (.slice x nN cx) (.slice y nE cy) (.slice z nD cz)
  rw [hW1] at hK
  obtain ⟨q, hq⟩ : ∃ q, w.heap.size = q := ⟨_, rfl⟩
  rw [hq] at hK
  obtain ⟨A, hA⟩ : ∃ A, putL1 (2, numL lN) = A := ⟨_, rfl⟩
  obtain ⟨B, hB⟩ : ∃ A, putL1 (2, numL lE) = A := ⟨_, rfl⟩
  have HAB := show Hid (putL1 (2, numL lN) = A ∧ putL1 (2, numL lE) = B) from ⟨hA, hB⟩
  have HL := show Hid ((A ++ B).length ≤ 20012) from by
    have h1 := putNum_le lN zN
    have h2 := putNum_le lE zE
    rw [hA] at h1
    rw [hB] at h2
    show (A ++ B).length ≤ 20012
    rw [List.length_append]
    omega
  have HL2 := show Hid ((putL1 (48, A ++ B)).length ≤ 20016) from up_of (p := (48, A ++ B)) HL.out (by omega)
  have HU := show Hid (∀ u, Below W1.heap.size W1 u → u.cell? ⟨q, 0, none⟩ = some (.slice x nN cx) ∧ u.cell? ⟨q, 1, none⟩ = some (.slice y nE cy) ∧ Calls Try.prog 34 #[.slice x nN cx] u (Gives u A) ∧ Calls Try.prog 34 #[.slice y nE cy] u (Gives u B) ∧ Below w.heap.size w u) from fun u hu => by
    have hwu := bl2 hK.below hu
    refine ⟨(hK.cells hu).1, (hK.cells hu).2.1, ?_, ?_, hwu⟩
    · rw [← hA]
      exact rxNumberV _ lN u (hN.later hwu) (by omega)
    · rw [← hB]
      exact rxNumberV _ lE u (hE.later hwu) (by omega)
  clear hA hB hK hN hE zN zE
  go_enter Try.func14, Try.ntmps14
  go_wp2_with fail
  refine free_walk (Sem := semRInf x y cx cy nN nE q A B) rfl (n := 19) (by kernel_rfl) rfl (by kernel_rfl) ?_ ?_ ?_
  · intro ix v u u' h hb
    match ix, h with
    | 0, h => exact h
    | 1, h => exact h
    | 2, h => exact IsBytes.later h hb
    | 3, h => exact h
    | 4, h => exact h
    | 5, h => exact IsBytes.later h hb
    | 6, h => exact IsBytes.later h hb
    | 7, h => exact IsBytes.later h hb
    | 8, h => exact IsBytes.later h hb
    | _ + 9, _ => exact trivial
  · intro ix o a u ho hF hbu
    match ix, ho, hF with
    | 0, ho, hF =>
      obtain rfl := Option.some.inj ho
      have h1 : a.tmps[1]? = some (.pointer (some ⟨q, 0, none⟩)) := (hF.out 1 rfl).trans rfl
      refine free_step rfl (by rfl) (fun K' hK => ?_)
      go_simp
      exact hK.out _ _ rfl (Below.refl _ _)
    | 1, ho, hF =>
      obtain rfl := Option.some.inj ho
      obtain ⟨v4, h4, s4⟩ := hF.dep 0 4 rfl rfl
      obtain rfl : v4 = .pointer (some ⟨q, 0, none⟩) := s4
      have g0 := (HU.out u (below_drewA hbu)).1
      refine free_step rfl (by rfl) (fun K' hK => ?_)
      go_simp
      exact hK.out _ _ rfl (Below.refl _ _)
    | 2, ho, hF =>
      obtain rfl := Option.some.inj ho
      obtain ⟨v5, h5, s5⟩ := hF.dep 1 5 rfl rfl
      obtain rfl : v5 = .slice x nN cx := s5
      refine free_step rfl (by rfl) (fun K' hK => ?_)
      go_wp2_with fail
      refine (HU.out u (below_drewA hbu)).2.2.1.mono ?_
      rintro e u' ⟨⟨v, rfl, ho⟩, hb⟩
      go_simp
      exact hK.out _ _ ho hb
    | 3, ho, hF =>
      obtain rfl := Option.some.inj ho
      have h1 : a.tmps[1]? = some (.pointer (some ⟨q, 0, none⟩)) := (hF.out 1 rfl).trans rfl
      refine free_step rfl (by rfl) (fun K' hK => ?_)
      go_simp
      exact hK.out _ _ rfl (Below.refl _ _)
    | 4, ho, hF =>
      obtain rfl := Option.some.inj ho
      obtain ⟨v7, h7, s7⟩ := hF.dep 3 7 rfl rfl
      obtain rfl : v7 = .pointer (some ⟨q, 1, none⟩) := s7
      have g1 := (HU.out u (below_drewA hbu)).2.1
      refine free_step rfl (by rfl) (fun K' hK => ?_)
      go_simp
      exact hK.out _ _ rfl (Below.refl _ _)
    | 5, ho, hF =>
      obtain rfl := Option.some.inj ho
      obtain ⟨v8, h8, s8⟩ := hF.dep 4 8 rfl rfl
      obtain rfl : v8 = .slice y nE cy := s8
      refine free_step rfl (by rfl) (fun K' hK => ?_)
      go_wp2_with fail
      refine (HU.out u (below_drewA hbu)).2.2.2.1.mono ?_
      rintro e u' ⟨⟨v, rfl, ho⟩, hb⟩
      go_simp
      exact hK.out _ _ ho hb
    | 6, ho, hF =>
      obtain rfl := Option.some.inj ho
      obtain ⟨v6, h6, s6⟩ := hF.dep 2 6 rfl rfl
      replace s6 : IsBytes u v6 ⟨A.toArray⟩ := s6
      obtain ⟨v9, h9, s9⟩ := hF.dep 5 9 rfl rfl
      replace s9 : IsBytes u v9 ⟨B.toArray⟩ := s9
      have hP6 := rxCatV v6 v9 A B u s6 s9 (by rw [← List.length_append]; exact Nat.le_trans HL.out (by decide))
      refine free_step rfl (by rfl) (fun K' hK => ?_)
      go_wp2_with fail
      refine hP6.mono ?_
      rintro e u' ⟨⟨v, rfl, ho⟩, hb⟩
      go_simp
      exact hK.out _ _ ho hb
    | 7, ho, hF =>
      obtain rfl := Option.some.inj ho
      obtain ⟨v10, h10, s10⟩ := hF.dep 6 10 rfl rfl
      replace s10 : IsBytes u v10 ⟨(A ++ B).toArray⟩ := s10
      have hP6 := rxPutV 48 (A ++ B) v10 u s10 (Nat.le_trans HL.out (by decide))
      refine free_step rfl (by rfl) (fun K' hK => ?_)
      go_wp2_with fail
      refine hP6.mono ?_
      rintro e u' ⟨⟨v, rfl, ho⟩, hb⟩
      go_simp
      exact hK.out _ _ ho hb
    | 8, ho, hF =>
      obtain rfl := Option.some.inj ho
      obtain ⟨v11, h11, s11⟩ := hF.dep 7 11 rfl rfl
      replace s11 : IsBytes u v11 ⟨(putL1 (48, A ++ B)).toArray⟩ := s11
      refine free_step rfl (by rfl) (fun K' hK => ?_)
      go_simp
      exact hK.out _ _ s11 (Below.refl _ _)
    | n + 9, ho, _ => exact absurd (Array.getElem?_eq_some_iff.1 ho).1 (by show ¬ n + 9 < 9; omega)
  · intro vs u hS hbu
    have s8 := hS 8 3 rfl
    simp only [putFrom, Act.put, List.setIfInBounds_toArray, List.set_cons_succ, List.set_cons_zero, Nat.reduceAdd]
    clear hS
    generalize vs 0 = z0
    generalize vs 1 = z1
    generalize vs 2 = z2
    generalize vs 3 = z3
    generalize vs 4 = z4
    generalize vs 5 = z5
    generalize vs 6 = z6
    generalize vs 7 = z7
    generalize vs 8 = z8 at *
    replace s8 : IsBytes u z8 ⟨(putL1 (48, A ++ B)).toArray⟩ := s8
    obtain ⟨y8, k8, c8, rfl⟩ := isb_open s8
    have HW := show Hid (IsBytes u (.slice y8 k8 c8) ⟨(putL1 (48, A ++ B)).toArray⟩ ∧ Below w.heap.size w u) from ⟨s8, (HU.out u (below_drewA hbu)).2.2.2.2⟩
    have zns := HL2
    clear hbu s8 HU HL2
    have zk : Hid ((kindL 1).length ≤ 15) := by show (kindL 1).length ≤ 15; rw [kindL_len]; omega
    have hca1 := show Calls Try.prog 35 #[.int .u8 1] u (Gives u (kindL 1)) from rxKindV 1 u
    go_wp2_with fail
    refine hca1.mono ?_
    rintro e wa1 ⟨⟨va1, rfl, ia1⟩, ba1⟩
    clear hca1
    obtain ⟨ya1, ka1, ca1, rfl⟩ := isb_open ia1
    have HCa2 := show Hid (IsBytes wa1 (.slice y8 k8 c8) ⟨(putL1 (48, A ++ B) : List UInt8).toArray⟩ ∧ IsBytes wa1 (.slice ya1 ka1 ca1) ⟨(kindL 1 : List UInt8).toArray⟩ ∧ Below w.heap.size w wa1) from ⟨HW.out.1.later ba1, ia1, bl2 HW.out.2 ba1⟩
    clear HW
    clear ba1 ia1
    obtain ⟨Wa3, hWa3⟩ : ∃ W, wa1.alloc (.cells #[.int .u8 0] 5) = W := ⟨_, rfl⟩
    have ba3 : Below wa1.heap.size wa1 Wa3 := by rw [← hWa3]; exact alB _ _
    have ia3 : IsBytes Wa3 (.slice (some ⟨wa1.heap.size, 0, none⟩) 1 1) ⟨([0] : List UInt8).toArray⟩ := by rw [← hWa3]; exact litM wa1 ⟨#[0]⟩ _ _ rfl (show (1 : Nat) ≤ maxLen by unfold maxLen; decide)
    have HCa4 := show Hid (IsBytes Wa3 (.slice y8 k8 c8) ⟨(putL1 (48, A ++ B) : List UInt8).toArray⟩ ∧ IsBytes Wa3 (.slice ya1 ka1 ca1) ⟨(kindL 1 : List UInt8).toArray⟩ ∧ IsBytes Wa3 (.slice (some ⟨wa1.heap.size, 0, none⟩) 1 1) ⟨([0] : List UInt8).toArray⟩ ∧ Below w.heap.size w Wa3) from ⟨HCa2.out.1.later ba3, HCa2.out.2.1.later ba3, ia3, bl2 HCa2.out.2.2 ba3⟩
    clear HCa2
    clear ba3 ia3
    have zp : Hid ((([0] ++ putL1 (48, A ++ B)) : List UInt8).length ≤ 20017) := by have := zns.out; show (([0] ++ putL1 (48, A ++ B)) : List UInt8).length ≤ 20017; rw [List.length_append]; simp only [List.length_cons, List.length_nil]; omega
    have hca6 := show Calls Try.prog 33 #[.slice (some ⟨wa1.heap.size, 0, none⟩) 1 1, .slice y8 k8 c8] Wa3 (Gives Wa3 ([0] ++ putL1 (48, A ++ B))) from rxCatV (.slice (some ⟨wa1.heap.size, 0, none⟩) 1 1) (.slice y8 k8 c8) ([0]) (putL1 (48, A ++ B)) Wa3 HCa4.out.2.2.1 HCa4.out.1 (by rw [← List.length_append]; exact Nat.le_trans zp.out (by decide))
    go_wp2_with fail
    refine hca6.mono ?_
    rintro e wa6 ⟨⟨va6, rfl, ia6⟩, ba6⟩
    clear hca6 hWa3
    obtain ⟨ya6, ka6, ca6, rfl⟩ := isb_open ia6
    have HCa7 := show Hid (IsBytes wa6 (.slice y8 k8 c8) ⟨(putL1 (48, A ++ B) : List UInt8).toArray⟩ ∧ IsBytes wa6 (.slice ya1 ka1 ca1) ⟨(kindL 1 : List UInt8).toArray⟩ ∧ IsBytes wa6 (.slice (some ⟨wa1.heap.size, 0, none⟩) 1 1) ⟨([0] : List UInt8).toArray⟩ ∧ IsBytes wa6 (.slice ya6 ka6 ca6) ⟨(([0] ++ putL1 (48, A ++ B)) : List UInt8).toArray⟩ ∧ Below w.heap.size w wa6) from ⟨HCa4.out.1.later ba6, HCa4.out.2.1.later ba6, HCa4.out.2.2.1.later ba6, ia6, bl2 HCa4.out.2.2.2 ba6⟩
    clear HCa4
    clear ba6 ia6
    have ypp : Hid ((([0] ++ putL1 (48, A ++ B)) : List UInt8).length ≤ 20017) := by have := zp.out; show (([0] ++ putL1 (48, A ++ B)) : List UInt8).length ≤ 20017; omega
    have zpp : Hid ((putL1 (3, ([0] ++ putL1 (48, A ++ B)))).length ≤ 20021) := Nat.le_trans (putL1_up (3, ([0] ++ putL1 (48, A ++ B))) (Nat.lt_of_le_of_lt ypp.out (by decide))) (Nat.add_le_add_right ypp.out 4)
    have hca9 := show Calls Try.prog 7 #[.int .u8 3, .slice ya6 ka6 ca6] wa6 (Gives wa6 (putL1 (3, ([0] ++ putL1 (48, A ++ B))))) from rxPutV 3 (([0] ++ putL1 (48, A ++ B))) (.slice ya6 ka6 ca6) wa6 HCa7.out.2.2.2.1 (Nat.le_trans ypp.out (by decide))
    go_wp2_with fail
    refine hca9.mono ?_
    rintro e wa9 ⟨⟨va9, rfl, ia9⟩, ba9⟩
    clear hca9
    obtain ⟨ya9, ka9, ca9, rfl⟩ := isb_open ia9
    have HCa10 := show Hid (IsBytes wa9 (.slice y8 k8 c8) ⟨(putL1 (48, A ++ B) : List UInt8).toArray⟩ ∧ IsBytes wa9 (.slice ya1 ka1 ca1) ⟨(kindL 1 : List UInt8).toArray⟩ ∧ IsBytes wa9 (.slice (some ⟨wa1.heap.size, 0, none⟩) 1 1) ⟨([0] : List UInt8).toArray⟩ ∧ IsBytes wa9 (.slice ya6 ka6 ca6) ⟨(([0] ++ putL1 (48, A ++ B)) : List UInt8).toArray⟩ ∧ IsBytes wa9 (.slice ya9 ka9 ca9) ⟨(putL1 (3, ([0] ++ putL1 (48, A ++ B))) : List UInt8).toArray⟩ ∧ Below w.heap.size w wa9) from ⟨HCa7.out.1.later ba9, HCa7.out.2.1.later ba9, HCa7.out.2.2.1.later ba9, HCa7.out.2.2.2.1.later ba9, ia9, bl2 HCa7.out.2.2.2.2 ba9⟩
    clear HCa7
    clear ba9 ia9
    clear ypp
    have zr : Hid (((kindL 1 ++ putL1 (3, ([0] ++ putL1 (48, A ++ B)))) : List UInt8).length ≤ 20036) := by have := zk.out; have := zpp.out; show ((kindL 1 ++ putL1 (3, ([0] ++ putL1 (48, A ++ B)))) : List UInt8).length ≤ 20036; rw [List.length_append]; omega
    have hca12 := show Calls Try.prog 33 #[.slice ya1 ka1 ca1, .slice ya9 ka9 ca9] wa9 (Gives wa9 (kindL 1 ++ putL1 (3, ([0] ++ putL1 (48, A ++ B))))) from rxCatV (.slice ya1 ka1 ca1) (.slice ya9 ka9 ca9) (kindL 1) (putL1 (3, ([0] ++ putL1 (48, A ++ B)))) wa9 HCa10.out.2.1 HCa10.out.2.2.2.2.1 (by rw [← List.length_append]; exact Nat.le_trans zr.out (by decide))
    go_wp2_with fail
    refine hca12.mono ?_
    rintro e wa12 ⟨⟨va12, rfl, ia12⟩, ba12⟩
    clear hca12
    obtain ⟨ya12, ka12, ca12, rfl⟩ := isb_open ia12
    have HCa13 := show Hid (IsBytes wa12 (.slice y8 k8 c8) ⟨(putL1 (48, A ++ B) : List UInt8).toArray⟩ ∧ IsBytes wa12 (.slice ya1 ka1 ca1) ⟨(kindL 1 : List UInt8).toArray⟩ ∧ IsBytes wa12 (.slice (some ⟨wa1.heap.size, 0, none⟩) 1 1) ⟨([0] : List UInt8).toArray⟩ ∧ IsBytes wa12 (.slice ya6 ka6 ca6) ⟨(([0] ++ putL1 (48, A ++ B)) : List UInt8).toArray⟩ ∧ IsBytes wa12 (.slice ya9 ka9 ca9) ⟨(putL1 (3, ([0] ++ putL1 (48, A ++ B))) : List UInt8).toArray⟩ ∧ IsBytes wa12 (.slice ya12 ka12 ca12) ⟨((kindL 1 ++ putL1 (3, ([0] ++ putL1 (48, A ++ B)))) : List UInt8).toArray⟩ ∧ Below w.heap.size w wa12) from ⟨HCa10.out.1.later ba12, HCa10.out.2.1.later ba12, HCa10.out.2.2.1.later ba12, HCa10.out.2.2.2.1.later ba12, HCa10.out.2.2.2.2.1.later ba12, ia12, bl2 HCa10.out.2.2.2.2.2 ba12⟩
    clear HCa10
    clear ba12 ia12
    have yrr : Hid (((kindL 1 ++ putL1 (3, ([0] ++ putL1 (48, A ++ B)))) : List UInt8).length ≤ 20036) := by have := zr.out; show ((kindL 1 ++ putL1 (3, ([0] ++ putL1 (48, A ++ B)))) : List UInt8).length ≤ 20036; omega
    have zrr : Hid ((putL1 (48, (kindL 1 ++ putL1 (3, ([0] ++ putL1 (48, A ++ B)))))).length ≤ 20040) := Nat.le_trans (putL1_up (48, (kindL 1 ++ putL1 (3, ([0] ++ putL1 (48, A ++ B))))) (Nat.lt_of_le_of_lt yrr.out (by decide))) (Nat.add_le_add_right yrr.out 4)
    have hca15 := show Calls Try.prog 7 #[.int .u8 48, .slice ya12 ka12 ca12] wa12 (Gives wa12 (putL1 (48, (kindL 1 ++ putL1 (3, ([0] ++ putL1 (48, A ++ B))))))) from rxPutV 48 ((kindL 1 ++ putL1 (3, ([0] ++ putL1 (48, A ++ B))))) (.slice ya12 ka12 ca12) wa12 HCa13.out.2.2.2.2.2.1 (Nat.le_trans yrr.out (by decide))
    go_wp2_with fail
    refine hca15.mono ?_
    rintro e wa15 ⟨⟨va15, rfl, ia15⟩, ba15⟩
    clear hca15
    obtain ⟨ya15, ka15, ca15, rfl⟩ := isb_open ia15
    have HCa16 := show Hid (IsBytes wa15 (.slice y8 k8 c8) ⟨(putL1 (48, A ++ B) : List UInt8).toArray⟩ ∧ IsBytes wa15 (.slice ya1 ka1 ca1) ⟨(kindL 1 : List UInt8).toArray⟩ ∧ IsBytes wa15 (.slice (some ⟨wa1.heap.size, 0, none⟩) 1 1) ⟨([0] : List UInt8).toArray⟩ ∧ IsBytes wa15 (.slice ya6 ka6 ca6) ⟨(([0] ++ putL1 (48, A ++ B)) : List UInt8).toArray⟩ ∧ IsBytes wa15 (.slice ya9 ka9 ca9) ⟨(putL1 (3, ([0] ++ putL1 (48, A ++ B))) : List UInt8).toArray⟩ ∧ IsBytes wa15 (.slice ya12 ka12 ca12) ⟨((kindL 1 ++ putL1 (3, ([0] ++ putL1 (48, A ++ B)))) : List UInt8).toArray⟩ ∧ IsBytes wa15 (.slice ya15 ka15 ca15) ⟨(putL1 (48, (kindL 1 ++ putL1 (3, ([0] ++ putL1 (48, A ++ B))))) : List UInt8).toArray⟩ ∧ Below w.heap.size w wa15) from ⟨HCa13.out.1.later ba15, HCa13.out.2.1.later ba15, HCa13.out.2.2.1.later ba15, HCa13.out.2.2.2.1.later ba15, HCa13.out.2.2.2.2.1.later ba15, HCa13.out.2.2.2.2.2.1.later ba15, ia15, bl2 HCa13.out.2.2.2.2.2.2 ba15⟩
    clear HCa13
    clear ba15 ia15
    clear yrr
    go_wp2_with fail
    go_ret
    exact ⟨⟨_, rfl, by unfold infoL; rw [HAB.out.1, HAB.out.2]; exact HCa16.out.2.2.2.2.2.2.1⟩, HCa16.out.2.2.2.2.2.2.2⟩
set_option maxHeartbeats 16000000 in
theorem rxCert_any (x y z : Option Addr) (cx cy cz nN nE nD : Nat) (lN lE : List UInt8) (s : ByteArray) (w : World) (hN : IsBytes w (.slice x nN cx) ⟨lN.toArray⟩) (hE : IsBytes w (.slice y nE cy) ⟨lE.toArray⟩) (zN : lN.length ≤ 10000) (zE : lE.length ≤ 10000) (hs : s.size ≤ 200) :
    Calls Try.prog 18 #[.agg #[.slice x nN cx, .slice y nE cy, .slice z nD cz], .string s] w (Gives w (certOf (kindL 11) (holdL s.data.toList) (infoL lN lE))) := by
  obtain ⟨W1, hW1⟩ : ∃ W, w.alloc (.cells #[.slice x nN cx, .slice y nE cy, .slice z nD cz] 36) = W := ⟨_, rfl⟩
  have hK := keyBox w (.slice x nN cx) (.slice y nE cy) (.slice z nD cz)
  rw [hW1] at hK
  obtain ⟨q, hq⟩ : ∃ q, w.heap.size = q := ⟨_, rfl⟩
  rw [hq] at hK
  have HK := show Hid (KeyBox w W1 q (.slice x nN cx) (.slice y nE cy) (.slice z nD cz) ∧ IsBytes W1 (.slice x nN cx) ⟨lN.toArray⟩ ∧ IsBytes W1 (.slice y nE cy) ⟨lE.toArray⟩ ∧ lN.length ≤ 10000 ∧ lE.length ≤ 10000) from ⟨hK, hN.later hK.below, hE.later hK.below, zN, zE⟩
  clear hK hN hE zN zE
  have zname : Hid (s.data.toList.length ≤ 200) := by show s.data.toList.length ≤ 200; rw [len_eq]; exact hs
  obtain ⟨Wa1, hWa1⟩ : ∃ W, W1.alloc (.cells #[.int .u8 85, .int .u8 4, .int .u8 3] 5) = W := ⟨_, rfl⟩
  have ba1 : Below W1.heap.size W1 Wa1 := by rw [← hWa1]; exact alB _ _
  have ia1 : IsBytes Wa1 (.slice (some ⟨W1.heap.size, 0, none⟩) 3 3) ⟨([85, 4, 3] : List UInt8).toArray⟩ := by rw [← hWa1]; exact litM W1 ⟨#[85, 4, 3]⟩ _ _ rfl (show (3 : Nat) ≤ maxLen by unfold maxLen; decide)
  have HCa2 := show Hid (IsBytes Wa1 (.slice (some ⟨W1.heap.size, 0, none⟩) 3 3) ⟨([85, 4, 3] : List UInt8).toArray⟩ ∧ Below W1.heap.size W1 Wa1) from ⟨ia1, ba1⟩
  clear ba1 ia1
  go_enter Try.func18, Try.ntmps18
  have ya : Hid (([85, 4, 3] : List UInt8).length ≤ 3) := by show ([85, 4, 3] : List UInt8).length ≤ 3; simp only [List.length_cons, List.length_nil]; omega
  have za : Hid ((putL1 (6, [85, 4, 3])).length ≤ 7) := Nat.le_trans (putL1_up (6, [85, 4, 3]) (Nat.lt_of_le_of_lt ya.out (by decide))) (Nat.add_le_add_right ya.out 4)
  have hca4 := show Calls Try.prog 7 #[.int .u8 6, .slice (some ⟨W1.heap.size, 0, none⟩) 3 3] Wa1 (Gives Wa1 (putL1 (6, [85, 4, 3]))) from rxPutV 6 ([85, 4, 3]) (.slice (some ⟨W1.heap.size, 0, none⟩) 3 3) Wa1 HCa2.out.1 (Nat.le_trans ya.out (by decide))
  go_wp2_with fail
  refine hca4.mono ?_
  rintro e wa4 ⟨⟨va4, rfl, ia4⟩, ba4⟩
  clear hca4 hWa1
  obtain ⟨ya4, ka4, ca4, rfl⟩ := isb_open ia4
  have HCa5 := show Hid (IsBytes wa4 (.slice (some ⟨W1.heap.size, 0, none⟩) 3 3) ⟨([85, 4, 3] : List UInt8).toArray⟩ ∧ IsBytes wa4 (.slice ya4 ka4 ca4) ⟨(putL1 (6, [85, 4, 3]) : List UInt8).toArray⟩ ∧ Below W1.heap.size W1 wa4) from ⟨HCa2.out.1.later ba4, ia4, bl2 HCa2.out.2 ba4⟩
  clear HCa2
  clear ba4 ia4
  clear ya
  obtain ⟨va6, Wa6, hWa6, ia6, ba6⟩ := conv_any s wa4 (by exact Nat.le_trans hs (by decide))
  replace ia6 : IsBytes Wa6 va6 ⟨(s.data.toList : List UInt8).toArray⟩ := ia6
  obtain ⟨ya6, ka6, ca6, rfl⟩ := isb_open ia6
  have HCa7 := show Hid (IsBytes Wa6 (.slice (some ⟨W1.heap.size, 0, none⟩) 3 3) ⟨([85, 4, 3] : List UInt8).toArray⟩ ∧ IsBytes Wa6 (.slice ya4 ka4 ca4) ⟨(putL1 (6, [85, 4, 3]) : List UInt8).toArray⟩ ∧ IsBytes Wa6 (.slice ya6 ka6 ca6) ⟨(s.data.toList : List UInt8).toArray⟩ ∧ Below W1.heap.size W1 Wa6) from ⟨HCa5.out.1.later ba6, HCa5.out.2.1.later ba6, ia6, bl2 HCa5.out.2.2 ba6⟩
  clear HCa5
  clear ba6 ia6
  have yb : Hid ((s.data.toList : List UInt8).length ≤ 200) := by have := zname.out; show (s.data.toList : List UInt8).length ≤ 200; omega
  have zb : Hid ((putL1 (12, s.data.toList)).length ≤ 204) := Nat.le_trans (putL1_up (12, s.data.toList) (Nat.lt_of_le_of_lt yb.out (by decide))) (Nat.add_le_add_right yb.out 4)
  have hca9 := show Calls Try.prog 7 #[.int .u8 12, .slice ya6 ka6 ca6] Wa6 (Gives Wa6 (putL1 (12, s.data.toList))) from rxPutV 12 (s.data.toList) (.slice ya6 ka6 ca6) Wa6 HCa7.out.2.2.1 (Nat.le_trans yb.out (by decide))
  go_wp2_with fail
  refine hca9.mono ?_
  rintro e wa9 ⟨⟨va9, rfl, ia9⟩, ba9⟩
  clear hca9 hWa6
  obtain ⟨ya9, ka9, ca9, rfl⟩ := isb_open ia9
  have HCa10 := show Hid (IsBytes wa9 (.slice (some ⟨W1.heap.size, 0, none⟩) 3 3) ⟨([85, 4, 3] : List UInt8).toArray⟩ ∧ IsBytes wa9 (.slice ya4 ka4 ca4) ⟨(putL1 (6, [85, 4, 3]) : List UInt8).toArray⟩ ∧ IsBytes wa9 (.slice ya6 ka6 ca6) ⟨(s.data.toList : List UInt8).toArray⟩ ∧ IsBytes wa9 (.slice ya9 ka9 ca9) ⟨(putL1 (12, s.data.toList) : List UInt8).toArray⟩ ∧ Below W1.heap.size W1 wa9) from ⟨HCa7.out.1.later ba9, HCa7.out.2.1.later ba9, HCa7.out.2.2.1.later ba9, ia9, bl2 HCa7.out.2.2.2 ba9⟩
  clear HCa7
  clear ba9 ia9
  clear yb
  have zd : Hid (((putL1 (6, [85, 4, 3]) ++ putL1 (12, s.data.toList)) : List UInt8).length ≤ 211) := by have := za.out; have := zb.out; show ((putL1 (6, [85, 4, 3]) ++ putL1 (12, s.data.toList)) : List UInt8).length ≤ 211; rw [List.length_append]; omega
  have hca12 := show Calls Try.prog 33 #[.slice ya4 ka4 ca4, .slice ya9 ka9 ca9] wa9 (Gives wa9 (putL1 (6, [85, 4, 3]) ++ putL1 (12, s.data.toList))) from rxCatV (.slice ya4 ka4 ca4) (.slice ya9 ka9 ca9) (putL1 (6, [85, 4, 3])) (putL1 (12, s.data.toList)) wa9 HCa10.out.2.1 HCa10.out.2.2.2.1 (by rw [← List.length_append]; exact Nat.le_trans zd.out (by decide))
  go_wp2_with fail
  refine hca12.mono ?_
  rintro e wa12 ⟨⟨va12, rfl, ia12⟩, ba12⟩
  clear hca12
  obtain ⟨ya12, ka12, ca12, rfl⟩ := isb_open ia12
  have HCa13 := show Hid (IsBytes wa12 (.slice (some ⟨W1.heap.size, 0, none⟩) 3 3) ⟨([85, 4, 3] : List UInt8).toArray⟩ ∧ IsBytes wa12 (.slice ya4 ka4 ca4) ⟨(putL1 (6, [85, 4, 3]) : List UInt8).toArray⟩ ∧ IsBytes wa12 (.slice ya6 ka6 ca6) ⟨(s.data.toList : List UInt8).toArray⟩ ∧ IsBytes wa12 (.slice ya9 ka9 ca9) ⟨(putL1 (12, s.data.toList) : List UInt8).toArray⟩ ∧ IsBytes wa12 (.slice ya12 ka12 ca12) ⟨((putL1 (6, [85, 4, 3]) ++ putL1 (12, s.data.toList)) : List UInt8).toArray⟩ ∧ Below W1.heap.size W1 wa12) from ⟨HCa10.out.1.later ba12, HCa10.out.2.1.later ba12, HCa10.out.2.2.1.later ba12, HCa10.out.2.2.2.1.later ba12, ia12, bl2 HCa10.out.2.2.2.2 ba12⟩
  clear HCa10
  clear ba12 ia12
  have ye : Hid (((putL1 (6, [85, 4, 3]) ++ putL1 (12, s.data.toList)) : List UInt8).length ≤ 211) := by have := zd.out; show ((putL1 (6, [85, 4, 3]) ++ putL1 (12, s.data.toList)) : List UInt8).length ≤ 211; omega
  have ze : Hid ((putL1 (48, (putL1 (6, [85, 4, 3]) ++ putL1 (12, s.data.toList)))).length ≤ 215) := Nat.le_trans (putL1_up (48, (putL1 (6, [85, 4, 3]) ++ putL1 (12, s.data.toList))) (Nat.lt_of_le_of_lt ye.out (by decide))) (Nat.add_le_add_right ye.out 4)
  have hca15 := show Calls Try.prog 7 #[.int .u8 48, .slice ya12 ka12 ca12] wa12 (Gives wa12 (putL1 (48, (putL1 (6, [85, 4, 3]) ++ putL1 (12, s.data.toList))))) from rxPutV 48 ((putL1 (6, [85, 4, 3]) ++ putL1 (12, s.data.toList))) (.slice ya12 ka12 ca12) wa12 HCa13.out.2.2.2.2.1 (Nat.le_trans ye.out (by decide))
  go_wp2_with fail
  refine hca15.mono ?_
  rintro e wa15 ⟨⟨va15, rfl, ia15⟩, ba15⟩
  clear hca15
  obtain ⟨ya15, ka15, ca15, rfl⟩ := isb_open ia15
  have HCa16 := show Hid (IsBytes wa15 (.slice (some ⟨W1.heap.size, 0, none⟩) 3 3) ⟨([85, 4, 3] : List UInt8).toArray⟩ ∧ IsBytes wa15 (.slice ya4 ka4 ca4) ⟨(putL1 (6, [85, 4, 3]) : List UInt8).toArray⟩ ∧ IsBytes wa15 (.slice ya6 ka6 ca6) ⟨(s.data.toList : List UInt8).toArray⟩ ∧ IsBytes wa15 (.slice ya9 ka9 ca9) ⟨(putL1 (12, s.data.toList) : List UInt8).toArray⟩ ∧ IsBytes wa15 (.slice ya12 ka12 ca12) ⟨((putL1 (6, [85, 4, 3]) ++ putL1 (12, s.data.toList)) : List UInt8).toArray⟩ ∧ IsBytes wa15 (.slice ya15 ka15 ca15) ⟨(putL1 (48, (putL1 (6, [85, 4, 3]) ++ putL1 (12, s.data.toList))) : List UInt8).toArray⟩ ∧ Below W1.heap.size W1 wa15) from ⟨HCa13.out.1.later ba15, HCa13.out.2.1.later ba15, HCa13.out.2.2.1.later ba15, HCa13.out.2.2.2.1.later ba15, HCa13.out.2.2.2.2.1.later ba15, ia15, bl2 HCa13.out.2.2.2.2.2 ba15⟩
  clear HCa13
  clear ba15 ia15
  clear ye
  have yf : Hid ((putL1 (48, (putL1 (6, [85, 4, 3]) ++ putL1 (12, s.data.toList))) : List UInt8).length ≤ 215) := by have := ze.out; show (putL1 (48, (putL1 (6, [85, 4, 3]) ++ putL1 (12, s.data.toList))) : List UInt8).length ≤ 215; omega
  have zf : Hid ((putL1 (49, putL1 (48, (putL1 (6, [85, 4, 3]) ++ putL1 (12, s.data.toList))))).length ≤ 219) := Nat.le_trans (putL1_up (49, putL1 (48, (putL1 (6, [85, 4, 3]) ++ putL1 (12, s.data.toList)))) (Nat.lt_of_le_of_lt yf.out (by decide))) (Nat.add_le_add_right yf.out 4)
  have hca18 := show Calls Try.prog 7 #[.int .u8 49, .slice ya15 ka15 ca15] wa15 (Gives wa15 (putL1 (49, putL1 (48, (putL1 (6, [85, 4, 3]) ++ putL1 (12, s.data.toList)))))) from rxPutV 49 (putL1 (48, (putL1 (6, [85, 4, 3]) ++ putL1 (12, s.data.toList)))) (.slice ya15 ka15 ca15) wa15 HCa16.out.2.2.2.2.2.1 (Nat.le_trans yf.out (by decide))
  go_wp2_with fail
  refine hca18.mono ?_
  rintro e wa18 ⟨⟨va18, rfl, ia18⟩, ba18⟩
  clear hca18
  obtain ⟨ya18, ka18, ca18, rfl⟩ := isb_open ia18
  have HCa19 := show Hid (IsBytes wa18 (.slice (some ⟨W1.heap.size, 0, none⟩) 3 3) ⟨([85, 4, 3] : List UInt8).toArray⟩ ∧ IsBytes wa18 (.slice ya4 ka4 ca4) ⟨(putL1 (6, [85, 4, 3]) : List UInt8).toArray⟩ ∧ IsBytes wa18 (.slice ya6 ka6 ca6) ⟨(s.data.toList : List UInt8).toArray⟩ ∧ IsBytes wa18 (.slice ya9 ka9 ca9) ⟨(putL1 (12, s.data.toList) : List UInt8).toArray⟩ ∧ IsBytes wa18 (.slice ya12 ka12 ca12) ⟨((putL1 (6, [85, 4, 3]) ++ putL1 (12, s.data.toList)) : List UInt8).toArray⟩ ∧ IsBytes wa18 (.slice ya15 ka15 ca15) ⟨(putL1 (48, (putL1 (6, [85, 4, 3]) ++ putL1 (12, s.data.toList))) : List UInt8).toArray⟩ ∧ IsBytes wa18 (.slice ya18 ka18 ca18) ⟨(putL1 (49, putL1 (48, (putL1 (6, [85, 4, 3]) ++ putL1 (12, s.data.toList)))) : List UInt8).toArray⟩ ∧ Below W1.heap.size W1 wa18) from ⟨HCa16.out.1.later ba18, HCa16.out.2.1.later ba18, HCa16.out.2.2.1.later ba18, HCa16.out.2.2.2.1.later ba18, HCa16.out.2.2.2.2.1.later ba18, HCa16.out.2.2.2.2.2.1.later ba18, ia18, bl2 HCa16.out.2.2.2.2.2.2 ba18⟩
  clear HCa16
  clear ba18 ia18
  clear yf
  have ywho : Hid ((putL1 (49, putL1 (48, (putL1 (6, [85, 4, 3]) ++ putL1 (12, s.data.toList)))) : List UInt8).length ≤ 219) := by have := zf.out; show (putL1 (49, putL1 (48, (putL1 (6, [85, 4, 3]) ++ putL1 (12, s.data.toList)))) : List UInt8).length ≤ 219; omega
  have zwho : Hid ((putL1 (48, putL1 (49, putL1 (48, (putL1 (6, [85, 4, 3]) ++ putL1 (12, s.data.toList)))))).length ≤ 223) := Nat.le_trans (putL1_up (48, putL1 (49, putL1 (48, (putL1 (6, [85, 4, 3]) ++ putL1 (12, s.data.toList))))) (Nat.lt_of_le_of_lt ywho.out (by decide))) (Nat.add_le_add_right ywho.out 4)
  have hca21 := show Calls Try.prog 7 #[.int .u8 48, .slice ya18 ka18 ca18] wa18 (Gives wa18 (putL1 (48, putL1 (49, putL1 (48, (putL1 (6, [85, 4, 3]) ++ putL1 (12, s.data.toList))))))) from rxPutV 48 (putL1 (49, putL1 (48, (putL1 (6, [85, 4, 3]) ++ putL1 (12, s.data.toList))))) (.slice ya18 ka18 ca18) wa18 HCa19.out.2.2.2.2.2.2.1 (Nat.le_trans ywho.out (by decide))
  go_wp2_with fail
  refine hca21.mono ?_
  rintro e wa21 ⟨⟨va21, rfl, ia21⟩, ba21⟩
  clear hca21
  obtain ⟨ya21, ka21, ca21, rfl⟩ := isb_open ia21
  have HCa22 := show Hid (IsBytes wa21 (.slice (some ⟨W1.heap.size, 0, none⟩) 3 3) ⟨([85, 4, 3] : List UInt8).toArray⟩ ∧ IsBytes wa21 (.slice ya4 ka4 ca4) ⟨(putL1 (6, [85, 4, 3]) : List UInt8).toArray⟩ ∧ IsBytes wa21 (.slice ya6 ka6 ca6) ⟨(s.data.toList : List UInt8).toArray⟩ ∧ IsBytes wa21 (.slice ya9 ka9 ca9) ⟨(putL1 (12, s.data.toList) : List UInt8).toArray⟩ ∧ IsBytes wa21 (.slice ya12 ka12 ca12) ⟨((putL1 (6, [85, 4, 3]) ++ putL1 (12, s.data.toList)) : List UInt8).toArray⟩ ∧ IsBytes wa21 (.slice ya15 ka15 ca15) ⟨(putL1 (48, (putL1 (6, [85, 4, 3]) ++ putL1 (12, s.data.toList))) : List UInt8).toArray⟩ ∧ IsBytes wa21 (.slice ya18 ka18 ca18) ⟨(putL1 (49, putL1 (48, (putL1 (6, [85, 4, 3]) ++ putL1 (12, s.data.toList)))) : List UInt8).toArray⟩ ∧ IsBytes wa21 (.slice ya21 ka21 ca21) ⟨(putL1 (48, putL1 (49, putL1 (48, (putL1 (6, [85, 4, 3]) ++ putL1 (12, s.data.toList))))) : List UInt8).toArray⟩ ∧ Below W1.heap.size W1 wa21) from ⟨HCa19.out.1.later ba21, HCa19.out.2.1.later ba21, HCa19.out.2.2.1.later ba21, HCa19.out.2.2.2.1.later ba21, HCa19.out.2.2.2.2.1.later ba21, HCa19.out.2.2.2.2.2.1.later ba21, HCa19.out.2.2.2.2.2.2.1.later ba21, ia21, bl2 HCa19.out.2.2.2.2.2.2.2 ba21⟩
  clear HCa19
  clear ba21 ia21
  clear ywho
  have kc := fun (w : World) (C : Array Value) (n c : Nat) => Lib.run_convert_bytes_const (P := Try.prog) w 24 5 C n c Try.underlying24 Try.underlying5
  obtain ⟨Wa24, hWa24⟩ : ∃ W, wa21.alloc (.cells #[.int .u8 48, .int .u8 48, .int .u8 48, .int .u8 49, .int .u8 48, .int .u8 49, .int .u8 48, .int .u8 48, .int .u8 48, .int .u8 48, .int .u8 48, .int .u8 48, .int .u8 90] 5 (13, 14)) = W := ⟨_, rfl⟩
  have ba24 : Below wa21.heap.size wa21 Wa24 := by rw [← hWa24]; exact alB _ _
  have ia24 : IsBytes Wa24 (.slice (some ⟨wa21.heap.size, 0, none⟩) 13 13) ⟨([48, 48, 48, 49, 48, 49, 48, 48, 48, 48, 48, 48, 90] : List UInt8).toArray⟩ := by rw [← hWa24]; exact litM wa21 ⟨#[48, 48, 48, 49, 48, 49, 48, 48, 48, 48, 48, 48, 90]⟩ _ _ rfl (show (13 : Nat) ≤ maxLen by unfold maxLen; decide)
  have HCa25 := show Hid (IsBytes Wa24 (.slice ya21 ka21 ca21) ⟨(putL1 (48, putL1 (49, putL1 (48, (putL1 (6, [85, 4, 3]) ++ putL1 (12, s.data.toList))))) : List UInt8).toArray⟩ ∧ IsBytes Wa24 (.slice (some ⟨wa21.heap.size, 0, none⟩) 13 13) ⟨([48, 48, 48, 49, 48, 49, 48, 48, 48, 48, 48, 48, 90] : List UInt8).toArray⟩ ∧ Below W1.heap.size W1 Wa24) from ⟨HCa22.out.2.2.2.2.2.2.2.1.later ba24, ia24, bl2 HCa22.out.2.2.2.2.2.2.2.2 ba24⟩
  clear HCa22
  clear ba24 ia24
  have yp1 : Hid (([48, 48, 48, 49, 48, 49, 48, 48, 48, 48, 48, 48, 90] : List UInt8).length ≤ 13) := by show ([48, 48, 48, 49, 48, 49, 48, 48, 48, 48, 48, 48, 90] : List UInt8).length ≤ 13; simp only [List.length_cons, List.length_nil]; omega
  have zp1 : Hid ((putL1 (23, [48, 48, 48, 49, 48, 49, 48, 48, 48, 48, 48, 48, 90])).length ≤ 17) := Nat.le_trans (putL1_up (23, [48, 48, 48, 49, 48, 49, 48, 48, 48, 48, 48, 48, 90]) (Nat.lt_of_le_of_lt yp1.out (by decide))) (Nat.add_le_add_right yp1.out 4)
  have hca27 := show Calls Try.prog 7 #[.int .u8 23, .slice (some ⟨wa21.heap.size, 0, none⟩) 13 13] Wa24 (Gives Wa24 (putL1 (23, [48, 48, 48, 49, 48, 49, 48, 48, 48, 48, 48, 48, 90]))) from rxPutV 23 ([48, 48, 48, 49, 48, 49, 48, 48, 48, 48, 48, 48, 90]) (.slice (some ⟨wa21.heap.size, 0, none⟩) 13 13) Wa24 HCa25.out.2.1 (Nat.le_trans yp1.out (by decide))
  go_wp2_with fail
  refine hca27.mono ?_
  rintro e wa27 ⟨⟨va27, rfl, ia27⟩, ba27⟩
  clear hca27 hWa24
  obtain ⟨ya27, ka27, ca27, rfl⟩ := isb_open ia27
  have HCa28 := show Hid (IsBytes wa27 (.slice ya21 ka21 ca21) ⟨(putL1 (48, putL1 (49, putL1 (48, (putL1 (6, [85, 4, 3]) ++ putL1 (12, s.data.toList))))) : List UInt8).toArray⟩ ∧ IsBytes wa27 (.slice (some ⟨wa21.heap.size, 0, none⟩) 13 13) ⟨([48, 48, 48, 49, 48, 49, 48, 48, 48, 48, 48, 48, 90] : List UInt8).toArray⟩ ∧ IsBytes wa27 (.slice ya27 ka27 ca27) ⟨(putL1 (23, [48, 48, 48, 49, 48, 49, 48, 48, 48, 48, 48, 48, 90]) : List UInt8).toArray⟩ ∧ Below W1.heap.size W1 wa27) from ⟨HCa25.out.1.later ba27, HCa25.out.2.1.later ba27, ia27, bl2 HCa25.out.2.2 ba27⟩
  clear HCa25
  clear ba27 ia27
  clear yp1
  obtain ⟨Wa29, hWa29⟩ : ∃ W, wa27.alloc (.cells #[.int .u8 52, .int .u8 57, .int .u8 49, .int .u8 50, .int .u8 51, .int .u8 49, .int .u8 50, .int .u8 51, .int .u8 53, .int .u8 57, .int .u8 53, .int .u8 57, .int .u8 90] 5 (13, 14)) = W := ⟨_, rfl⟩
  have ba29 : Below wa27.heap.size wa27 Wa29 := by rw [← hWa29]; exact alB _ _
  have ia29 : IsBytes Wa29 (.slice (some ⟨wa27.heap.size, 0, none⟩) 13 13) ⟨([52, 57, 49, 50, 51, 49, 50, 51, 53, 57, 53, 57, 90] : List UInt8).toArray⟩ := by rw [← hWa29]; exact litM wa27 ⟨#[52, 57, 49, 50, 51, 49, 50, 51, 53, 57, 53, 57, 90]⟩ _ _ rfl (show (13 : Nat) ≤ maxLen by unfold maxLen; decide)
  have HCa30 := show Hid (IsBytes Wa29 (.slice ya21 ka21 ca21) ⟨(putL1 (48, putL1 (49, putL1 (48, (putL1 (6, [85, 4, 3]) ++ putL1 (12, s.data.toList))))) : List UInt8).toArray⟩ ∧ IsBytes Wa29 (.slice (some ⟨wa21.heap.size, 0, none⟩) 13 13) ⟨([48, 48, 48, 49, 48, 49, 48, 48, 48, 48, 48, 48, 90] : List UInt8).toArray⟩ ∧ IsBytes Wa29 (.slice ya27 ka27 ca27) ⟨(putL1 (23, [48, 48, 48, 49, 48, 49, 48, 48, 48, 48, 48, 48, 90]) : List UInt8).toArray⟩ ∧ IsBytes Wa29 (.slice (some ⟨wa27.heap.size, 0, none⟩) 13 13) ⟨([52, 57, 49, 50, 51, 49, 50, 51, 53, 57, 53, 57, 90] : List UInt8).toArray⟩ ∧ Below W1.heap.size W1 Wa29) from ⟨HCa28.out.1.later ba29, HCa28.out.2.1.later ba29, HCa28.out.2.2.1.later ba29, ia29, bl2 HCa28.out.2.2.2 ba29⟩
  clear HCa28
  clear ba29 ia29
  have yp2 : Hid (([52, 57, 49, 50, 51, 49, 50, 51, 53, 57, 53, 57, 90] : List UInt8).length ≤ 13) := by show ([52, 57, 49, 50, 51, 49, 50, 51, 53, 57, 53, 57, 90] : List UInt8).length ≤ 13; simp only [List.length_cons, List.length_nil]; omega
  have zp2 : Hid ((putL1 (23, [52, 57, 49, 50, 51, 49, 50, 51, 53, 57, 53, 57, 90])).length ≤ 17) := Nat.le_trans (putL1_up (23, [52, 57, 49, 50, 51, 49, 50, 51, 53, 57, 53, 57, 90]) (Nat.lt_of_le_of_lt yp2.out (by decide))) (Nat.add_le_add_right yp2.out 4)
  have hca32 := show Calls Try.prog 7 #[.int .u8 23, .slice (some ⟨wa27.heap.size, 0, none⟩) 13 13] Wa29 (Gives Wa29 (putL1 (23, [52, 57, 49, 50, 51, 49, 50, 51, 53, 57, 53, 57, 90]))) from rxPutV 23 ([52, 57, 49, 50, 51, 49, 50, 51, 53, 57, 53, 57, 90]) (.slice (some ⟨wa27.heap.size, 0, none⟩) 13 13) Wa29 HCa30.out.2.2.2.1 (Nat.le_trans yp2.out (by decide))
  go_wp2_with fail
  refine hca32.mono ?_
  rintro e wa32 ⟨⟨va32, rfl, ia32⟩, ba32⟩
  clear hca32 hWa29
  obtain ⟨ya32, ka32, ca32, rfl⟩ := isb_open ia32
  have HCa33 := show Hid (IsBytes wa32 (.slice ya21 ka21 ca21) ⟨(putL1 (48, putL1 (49, putL1 (48, (putL1 (6, [85, 4, 3]) ++ putL1 (12, s.data.toList))))) : List UInt8).toArray⟩ ∧ IsBytes wa32 (.slice (some ⟨wa21.heap.size, 0, none⟩) 13 13) ⟨([48, 48, 48, 49, 48, 49, 48, 48, 48, 48, 48, 48, 90] : List UInt8).toArray⟩ ∧ IsBytes wa32 (.slice ya27 ka27 ca27) ⟨(putL1 (23, [48, 48, 48, 49, 48, 49, 48, 48, 48, 48, 48, 48, 90]) : List UInt8).toArray⟩ ∧ IsBytes wa32 (.slice (some ⟨wa27.heap.size, 0, none⟩) 13 13) ⟨([52, 57, 49, 50, 51, 49, 50, 51, 53, 57, 53, 57, 90] : List UInt8).toArray⟩ ∧ IsBytes wa32 (.slice ya32 ka32 ca32) ⟨(putL1 (23, [52, 57, 49, 50, 51, 49, 50, 51, 53, 57, 53, 57, 90]) : List UInt8).toArray⟩ ∧ Below W1.heap.size W1 wa32) from ⟨HCa30.out.1.later ba32, HCa30.out.2.1.later ba32, HCa30.out.2.2.1.later ba32, HCa30.out.2.2.2.1.later ba32, ia32, bl2 HCa30.out.2.2.2.2 ba32⟩
  clear HCa30
  clear ba32 ia32
  clear yp2
  have zdd : Hid (((putL1 (23, [48, 48, 48, 49, 48, 49, 48, 48, 48, 48, 48, 48, 90]) ++ putL1 (23, [52, 57, 49, 50, 51, 49, 50, 51, 53, 57, 53, 57, 90])) : List UInt8).length ≤ 34) := by have := zp1.out; have := zp2.out; show ((putL1 (23, [48, 48, 48, 49, 48, 49, 48, 48, 48, 48, 48, 48, 90]) ++ putL1 (23, [52, 57, 49, 50, 51, 49, 50, 51, 53, 57, 53, 57, 90])) : List UInt8).length ≤ 34; rw [List.length_append]; omega
  have hca35 := show Calls Try.prog 33 #[.slice ya27 ka27 ca27, .slice ya32 ka32 ca32] wa32 (Gives wa32 (putL1 (23, [48, 48, 48, 49, 48, 49, 48, 48, 48, 48, 48, 48, 90]) ++ putL1 (23, [52, 57, 49, 50, 51, 49, 50, 51, 53, 57, 53, 57, 90]))) from rxCatV (.slice ya27 ka27 ca27) (.slice ya32 ka32 ca32) (putL1 (23, [48, 48, 48, 49, 48, 49, 48, 48, 48, 48, 48, 48, 90])) (putL1 (23, [52, 57, 49, 50, 51, 49, 50, 51, 53, 57, 53, 57, 90])) wa32 HCa33.out.2.2.1 HCa33.out.2.2.2.2.1 (by rw [← List.length_append]; exact Nat.le_trans zdd.out (by decide))
  go_wp2_with fail
  refine hca35.mono ?_
  rintro e wa35 ⟨⟨va35, rfl, ia35⟩, ba35⟩
  clear hca35
  obtain ⟨ya35, ka35, ca35, rfl⟩ := isb_open ia35
  have HCa36 := show Hid (IsBytes wa35 (.slice ya21 ka21 ca21) ⟨(putL1 (48, putL1 (49, putL1 (48, (putL1 (6, [85, 4, 3]) ++ putL1 (12, s.data.toList))))) : List UInt8).toArray⟩ ∧ IsBytes wa35 (.slice (some ⟨wa21.heap.size, 0, none⟩) 13 13) ⟨([48, 48, 48, 49, 48, 49, 48, 48, 48, 48, 48, 48, 90] : List UInt8).toArray⟩ ∧ IsBytes wa35 (.slice ya27 ka27 ca27) ⟨(putL1 (23, [48, 48, 48, 49, 48, 49, 48, 48, 48, 48, 48, 48, 90]) : List UInt8).toArray⟩ ∧ IsBytes wa35 (.slice (some ⟨wa27.heap.size, 0, none⟩) 13 13) ⟨([52, 57, 49, 50, 51, 49, 50, 51, 53, 57, 53, 57, 90] : List UInt8).toArray⟩ ∧ IsBytes wa35 (.slice ya32 ka32 ca32) ⟨(putL1 (23, [52, 57, 49, 50, 51, 49, 50, 51, 53, 57, 53, 57, 90]) : List UInt8).toArray⟩ ∧ IsBytes wa35 (.slice ya35 ka35 ca35) ⟨((putL1 (23, [48, 48, 48, 49, 48, 49, 48, 48, 48, 48, 48, 48, 90]) ++ putL1 (23, [52, 57, 49, 50, 51, 49, 50, 51, 53, 57, 53, 57, 90])) : List UInt8).toArray⟩ ∧ Below W1.heap.size W1 wa35) from ⟨HCa33.out.1.later ba35, HCa33.out.2.1.later ba35, HCa33.out.2.2.1.later ba35, HCa33.out.2.2.2.1.later ba35, HCa33.out.2.2.2.2.1.later ba35, ia35, bl2 HCa33.out.2.2.2.2.2 ba35⟩
  clear HCa33
  clear ba35 ia35
  have ydt : Hid (((putL1 (23, [48, 48, 48, 49, 48, 49, 48, 48, 48, 48, 48, 48, 90]) ++ putL1 (23, [52, 57, 49, 50, 51, 49, 50, 51, 53, 57, 53, 57, 90])) : List UInt8).length ≤ 34) := by have := zdd.out; show ((putL1 (23, [48, 48, 48, 49, 48, 49, 48, 48, 48, 48, 48, 48, 90]) ++ putL1 (23, [52, 57, 49, 50, 51, 49, 50, 51, 53, 57, 53, 57, 90])) : List UInt8).length ≤ 34; omega
  have zdt : Hid ((putL1 (48, (putL1 (23, [48, 48, 48, 49, 48, 49, 48, 48, 48, 48, 48, 48, 90]) ++ putL1 (23, [52, 57, 49, 50, 51, 49, 50, 51, 53, 57, 53, 57, 90])))).length ≤ 38) := Nat.le_trans (putL1_up (48, (putL1 (23, [48, 48, 48, 49, 48, 49, 48, 48, 48, 48, 48, 48, 90]) ++ putL1 (23, [52, 57, 49, 50, 51, 49, 50, 51, 53, 57, 53, 57, 90]))) (Nat.lt_of_le_of_lt ydt.out (by decide))) (Nat.add_le_add_right ydt.out 4)
  have hca38 := show Calls Try.prog 7 #[.int .u8 48, .slice ya35 ka35 ca35] wa35 (Gives wa35 (putL1 (48, (putL1 (23, [48, 48, 48, 49, 48, 49, 48, 48, 48, 48, 48, 48, 90]) ++ putL1 (23, [52, 57, 49, 50, 51, 49, 50, 51, 53, 57, 53, 57, 90]))))) from rxPutV 48 ((putL1 (23, [48, 48, 48, 49, 48, 49, 48, 48, 48, 48, 48, 48, 90]) ++ putL1 (23, [52, 57, 49, 50, 51, 49, 50, 51, 53, 57, 53, 57, 90]))) (.slice ya35 ka35 ca35) wa35 HCa36.out.2.2.2.2.2.1 (Nat.le_trans ydt.out (by decide))
  go_wp2_with fail
  refine hca38.mono ?_
  rintro e wa38 ⟨⟨va38, rfl, ia38⟩, ba38⟩
  clear hca38
  obtain ⟨ya38, ka38, ca38, rfl⟩ := isb_open ia38
  have HCa39 := show Hid (IsBytes wa38 (.slice ya21 ka21 ca21) ⟨(putL1 (48, putL1 (49, putL1 (48, (putL1 (6, [85, 4, 3]) ++ putL1 (12, s.data.toList))))) : List UInt8).toArray⟩ ∧ IsBytes wa38 (.slice (some ⟨wa21.heap.size, 0, none⟩) 13 13) ⟨([48, 48, 48, 49, 48, 49, 48, 48, 48, 48, 48, 48, 90] : List UInt8).toArray⟩ ∧ IsBytes wa38 (.slice ya27 ka27 ca27) ⟨(putL1 (23, [48, 48, 48, 49, 48, 49, 48, 48, 48, 48, 48, 48, 90]) : List UInt8).toArray⟩ ∧ IsBytes wa38 (.slice (some ⟨wa27.heap.size, 0, none⟩) 13 13) ⟨([52, 57, 49, 50, 51, 49, 50, 51, 53, 57, 53, 57, 90] : List UInt8).toArray⟩ ∧ IsBytes wa38 (.slice ya32 ka32 ca32) ⟨(putL1 (23, [52, 57, 49, 50, 51, 49, 50, 51, 53, 57, 53, 57, 90]) : List UInt8).toArray⟩ ∧ IsBytes wa38 (.slice ya35 ka35 ca35) ⟨((putL1 (23, [48, 48, 48, 49, 48, 49, 48, 48, 48, 48, 48, 48, 90]) ++ putL1 (23, [52, 57, 49, 50, 51, 49, 50, 51, 53, 57, 53, 57, 90])) : List UInt8).toArray⟩ ∧ IsBytes wa38 (.slice ya38 ka38 ca38) ⟨(putL1 (48, (putL1 (23, [48, 48, 48, 49, 48, 49, 48, 48, 48, 48, 48, 48, 90]) ++ putL1 (23, [52, 57, 49, 50, 51, 49, 50, 51, 53, 57, 53, 57, 90]))) : List UInt8).toArray⟩ ∧ Below W1.heap.size W1 wa38) from ⟨HCa36.out.1.later ba38, HCa36.out.2.1.later ba38, HCa36.out.2.2.1.later ba38, HCa36.out.2.2.2.1.later ba38, HCa36.out.2.2.2.2.1.later ba38, HCa36.out.2.2.2.2.2.1.later ba38, ia38, bl2 HCa36.out.2.2.2.2.2.2 ba38⟩
  clear HCa36
  clear ba38 ia38
  clear ydt
  obtain ⟨Wa41, hWa41⟩ : ∃ W, wa38.alloc (.cells #[.int .u8 2] 5) = W := ⟨_, rfl⟩
  have ba41 : Below wa38.heap.size wa38 Wa41 := by rw [← hWa41]; exact alB _ _
  have ia41 : IsBytes Wa41 (.slice (some ⟨wa38.heap.size, 0, none⟩) 1 1) ⟨([2] : List UInt8).toArray⟩ := by rw [← hWa41]; exact litM wa38 ⟨#[2]⟩ _ _ rfl (show (1 : Nat) ≤ maxLen by unfold maxLen; decide)
  have HCa42 := show Hid (IsBytes Wa41 (.slice ya21 ka21 ca21) ⟨(putL1 (48, putL1 (49, putL1 (48, (putL1 (6, [85, 4, 3]) ++ putL1 (12, s.data.toList))))) : List UInt8).toArray⟩ ∧ IsBytes Wa41 (.slice ya38 ka38 ca38) ⟨(putL1 (48, (putL1 (23, [48, 48, 48, 49, 48, 49, 48, 48, 48, 48, 48, 48, 90]) ++ putL1 (23, [52, 57, 49, 50, 51, 49, 50, 51, 53, 57, 53, 57, 90]))) : List UInt8).toArray⟩ ∧ IsBytes Wa41 (.slice (some ⟨wa38.heap.size, 0, none⟩) 1 1) ⟨([2] : List UInt8).toArray⟩ ∧ Below W1.heap.size W1 Wa41) from ⟨HCa39.out.1.later ba41, HCa39.out.2.2.2.2.2.2.1.later ba41, ia41, bl2 HCa39.out.2.2.2.2.2.2.2 ba41⟩
  clear HCa39
  clear ba41 ia41
  have zn2 : Hid ((putL1 (2, numL [2])).length ≤ 10) := by show (putL1 (2, numL [2])).length ≤ 10; decide
  have hca43 := show Calls Try.prog 34 #[.slice (some ⟨wa38.heap.size, 0, none⟩) 1 1] Wa41 (Gives Wa41 (putL1 (2, numL [2]))) from rxNumberV (.slice (some ⟨wa38.heap.size, 0, none⟩) 1 1) [2] Wa41 HCa42.out.2.2.1 (by decide)
  go_wp2_with fail
  refine hca43.mono ?_
  rintro e wa43 ⟨⟨va43, rfl, ia43⟩, ba43⟩
  clear hca43 hWa41
  obtain ⟨ya43, ka43, ca43, rfl⟩ := isb_open ia43
  have HCa44 := show Hid (IsBytes wa43 (.slice ya21 ka21 ca21) ⟨(putL1 (48, putL1 (49, putL1 (48, (putL1 (6, [85, 4, 3]) ++ putL1 (12, s.data.toList))))) : List UInt8).toArray⟩ ∧ IsBytes wa43 (.slice ya38 ka38 ca38) ⟨(putL1 (48, (putL1 (23, [48, 48, 48, 49, 48, 49, 48, 48, 48, 48, 48, 48, 90]) ++ putL1 (23, [52, 57, 49, 50, 51, 49, 50, 51, 53, 57, 53, 57, 90]))) : List UInt8).toArray⟩ ∧ IsBytes wa43 (.slice (some ⟨wa38.heap.size, 0, none⟩) 1 1) ⟨([2] : List UInt8).toArray⟩ ∧ IsBytes wa43 (.slice ya43 ka43 ca43) ⟨(putL1 (2, numL [2]) : List UInt8).toArray⟩ ∧ Below W1.heap.size W1 wa43) from ⟨HCa42.out.1.later ba43, HCa42.out.2.1.later ba43, HCa42.out.2.2.1.later ba43, ia43, bl2 HCa42.out.2.2.2 ba43⟩
  clear HCa42
  clear ba43 ia43
  have yf0 : Hid ((putL1 (2, numL [2]) : List UInt8).length ≤ 10) := by have := zn2.out; show (putL1 (2, numL [2]) : List UInt8).length ≤ 10; omega
  have zf0 : Hid ((putL1 (160, putL1 (2, numL [2]))).length ≤ 14) := Nat.le_trans (putL1_up (160, putL1 (2, numL [2])) (Nat.lt_of_le_of_lt yf0.out (by decide))) (Nat.add_le_add_right yf0.out 4)
  have hca46 := show Calls Try.prog 7 #[.int .u8 160, .slice ya43 ka43 ca43] wa43 (Gives wa43 (putL1 (160, putL1 (2, numL [2])))) from rxPutV 160 (putL1 (2, numL [2])) (.slice ya43 ka43 ca43) wa43 HCa44.out.2.2.2.1 (Nat.le_trans yf0.out (by decide))
  go_wp2_with fail
  refine hca46.mono ?_
  rintro e wa46 ⟨⟨va46, rfl, ia46⟩, ba46⟩
  clear hca46
  obtain ⟨ya46, ka46, ca46, rfl⟩ := isb_open ia46
  have HCa47 := show Hid (IsBytes wa46 (.slice ya21 ka21 ca21) ⟨(putL1 (48, putL1 (49, putL1 (48, (putL1 (6, [85, 4, 3]) ++ putL1 (12, s.data.toList))))) : List UInt8).toArray⟩ ∧ IsBytes wa46 (.slice ya38 ka38 ca38) ⟨(putL1 (48, (putL1 (23, [48, 48, 48, 49, 48, 49, 48, 48, 48, 48, 48, 48, 90]) ++ putL1 (23, [52, 57, 49, 50, 51, 49, 50, 51, 53, 57, 53, 57, 90]))) : List UInt8).toArray⟩ ∧ IsBytes wa46 (.slice (some ⟨wa38.heap.size, 0, none⟩) 1 1) ⟨([2] : List UInt8).toArray⟩ ∧ IsBytes wa46 (.slice ya43 ka43 ca43) ⟨(putL1 (2, numL [2]) : List UInt8).toArray⟩ ∧ IsBytes wa46 (.slice ya46 ka46 ca46) ⟨(putL1 (160, putL1 (2, numL [2])) : List UInt8).toArray⟩ ∧ Below W1.heap.size W1 wa46) from ⟨HCa44.out.1.later ba46, HCa44.out.2.1.later ba46, HCa44.out.2.2.1.later ba46, HCa44.out.2.2.2.1.later ba46, ia46, bl2 HCa44.out.2.2.2.2 ba46⟩
  clear HCa44
  clear ba46 ia46
  clear yf0
  obtain ⟨Wa48, hWa48⟩ : ∃ W, wa46.alloc (.cells #[.int .u8 1] 5) = W := ⟨_, rfl⟩
  have ba48 : Below wa46.heap.size wa46 Wa48 := by rw [← hWa48]; exact alB _ _
  have ia48 : IsBytes Wa48 (.slice (some ⟨wa46.heap.size, 0, none⟩) 1 1) ⟨([1] : List UInt8).toArray⟩ := by rw [← hWa48]; exact litM wa46 ⟨#[1]⟩ _ _ rfl (show (1 : Nat) ≤ maxLen by unfold maxLen; decide)
  have HCa49 := show Hid (IsBytes Wa48 (.slice ya21 ka21 ca21) ⟨(putL1 (48, putL1 (49, putL1 (48, (putL1 (6, [85, 4, 3]) ++ putL1 (12, s.data.toList))))) : List UInt8).toArray⟩ ∧ IsBytes Wa48 (.slice ya38 ka38 ca38) ⟨(putL1 (48, (putL1 (23, [48, 48, 48, 49, 48, 49, 48, 48, 48, 48, 48, 48, 90]) ++ putL1 (23, [52, 57, 49, 50, 51, 49, 50, 51, 53, 57, 53, 57, 90]))) : List UInt8).toArray⟩ ∧ IsBytes Wa48 (.slice (some ⟨wa38.heap.size, 0, none⟩) 1 1) ⟨([2] : List UInt8).toArray⟩ ∧ IsBytes Wa48 (.slice ya43 ka43 ca43) ⟨(putL1 (2, numL [2]) : List UInt8).toArray⟩ ∧ IsBytes Wa48 (.slice ya46 ka46 ca46) ⟨(putL1 (160, putL1 (2, numL [2])) : List UInt8).toArray⟩ ∧ IsBytes Wa48 (.slice (some ⟨wa46.heap.size, 0, none⟩) 1 1) ⟨([1] : List UInt8).toArray⟩ ∧ Below W1.heap.size W1 Wa48) from ⟨HCa47.out.1.later ba48, HCa47.out.2.1.later ba48, HCa47.out.2.2.1.later ba48, HCa47.out.2.2.2.1.later ba48, HCa47.out.2.2.2.2.1.later ba48, ia48, bl2 HCa47.out.2.2.2.2.2 ba48⟩
  clear HCa47
  clear ba48 ia48
  have zn1 : Hid ((putL1 (2, numL [1])).length ≤ 10) := by show (putL1 (2, numL [1])).length ≤ 10; decide
  have hca50 := show Calls Try.prog 34 #[.slice (some ⟨wa46.heap.size, 0, none⟩) 1 1] Wa48 (Gives Wa48 (putL1 (2, numL [1]))) from rxNumberV (.slice (some ⟨wa46.heap.size, 0, none⟩) 1 1) [1] Wa48 HCa49.out.2.2.2.2.2.1 (by decide)
  go_wp2_with fail
  refine hca50.mono ?_
  rintro e wa50 ⟨⟨va50, rfl, ia50⟩, ba50⟩
  clear hca50 hWa48
  obtain ⟨ya50, ka50, ca50, rfl⟩ := isb_open ia50
  have HCa51 := show Hid (IsBytes wa50 (.slice ya21 ka21 ca21) ⟨(putL1 (48, putL1 (49, putL1 (48, (putL1 (6, [85, 4, 3]) ++ putL1 (12, s.data.toList))))) : List UInt8).toArray⟩ ∧ IsBytes wa50 (.slice ya38 ka38 ca38) ⟨(putL1 (48, (putL1 (23, [48, 48, 48, 49, 48, 49, 48, 48, 48, 48, 48, 48, 90]) ++ putL1 (23, [52, 57, 49, 50, 51, 49, 50, 51, 53, 57, 53, 57, 90]))) : List UInt8).toArray⟩ ∧ IsBytes wa50 (.slice (some ⟨wa38.heap.size, 0, none⟩) 1 1) ⟨([2] : List UInt8).toArray⟩ ∧ IsBytes wa50 (.slice ya43 ka43 ca43) ⟨(putL1 (2, numL [2]) : List UInt8).toArray⟩ ∧ IsBytes wa50 (.slice ya46 ka46 ca46) ⟨(putL1 (160, putL1 (2, numL [2])) : List UInt8).toArray⟩ ∧ IsBytes wa50 (.slice (some ⟨wa46.heap.size, 0, none⟩) 1 1) ⟨([1] : List UInt8).toArray⟩ ∧ IsBytes wa50 (.slice ya50 ka50 ca50) ⟨(putL1 (2, numL [1]) : List UInt8).toArray⟩ ∧ Below W1.heap.size W1 wa50) from ⟨HCa49.out.1.later ba50, HCa49.out.2.1.later ba50, HCa49.out.2.2.1.later ba50, HCa49.out.2.2.2.1.later ba50, HCa49.out.2.2.2.2.1.later ba50, HCa49.out.2.2.2.2.2.1.later ba50, ia50, bl2 HCa49.out.2.2.2.2.2.2 ba50⟩
  clear HCa49
  clear ba50 ia50
  have zf1 : Hid (((putL1 (160, putL1 (2, numL [2])) ++ putL1 (2, numL [1])) : List UInt8).length ≤ 24) := by have := zf0.out; have := zn1.out; show ((putL1 (160, putL1 (2, numL [2])) ++ putL1 (2, numL [1])) : List UInt8).length ≤ 24; rw [List.length_append]; omega
  have hca53 := show Calls Try.prog 33 #[.slice ya46 ka46 ca46, .slice ya50 ka50 ca50] wa50 (Gives wa50 (putL1 (160, putL1 (2, numL [2])) ++ putL1 (2, numL [1]))) from rxCatV (.slice ya46 ka46 ca46) (.slice ya50 ka50 ca50) (putL1 (160, putL1 (2, numL [2]))) (putL1 (2, numL [1])) wa50 HCa51.out.2.2.2.2.1 HCa51.out.2.2.2.2.2.2.1 (by rw [← List.length_append]; exact Nat.le_trans zf1.out (by decide))
  go_wp2_with fail
  refine hca53.mono ?_
  rintro e wa53 ⟨⟨va53, rfl, ia53⟩, ba53⟩
  clear hca53
  obtain ⟨ya53, ka53, ca53, rfl⟩ := isb_open ia53
  have HCa54 := show Hid (IsBytes wa53 (.slice ya21 ka21 ca21) ⟨(putL1 (48, putL1 (49, putL1 (48, (putL1 (6, [85, 4, 3]) ++ putL1 (12, s.data.toList))))) : List UInt8).toArray⟩ ∧ IsBytes wa53 (.slice ya38 ka38 ca38) ⟨(putL1 (48, (putL1 (23, [48, 48, 48, 49, 48, 49, 48, 48, 48, 48, 48, 48, 90]) ++ putL1 (23, [52, 57, 49, 50, 51, 49, 50, 51, 53, 57, 53, 57, 90]))) : List UInt8).toArray⟩ ∧ IsBytes wa53 (.slice (some ⟨wa38.heap.size, 0, none⟩) 1 1) ⟨([2] : List UInt8).toArray⟩ ∧ IsBytes wa53 (.slice ya43 ka43 ca43) ⟨(putL1 (2, numL [2]) : List UInt8).toArray⟩ ∧ IsBytes wa53 (.slice ya46 ka46 ca46) ⟨(putL1 (160, putL1 (2, numL [2])) : List UInt8).toArray⟩ ∧ IsBytes wa53 (.slice (some ⟨wa46.heap.size, 0, none⟩) 1 1) ⟨([1] : List UInt8).toArray⟩ ∧ IsBytes wa53 (.slice ya50 ka50 ca50) ⟨(putL1 (2, numL [1]) : List UInt8).toArray⟩ ∧ IsBytes wa53 (.slice ya53 ka53 ca53) ⟨((putL1 (160, putL1 (2, numL [2])) ++ putL1 (2, numL [1])) : List UInt8).toArray⟩ ∧ Below W1.heap.size W1 wa53) from ⟨HCa51.out.1.later ba53, HCa51.out.2.1.later ba53, HCa51.out.2.2.1.later ba53, HCa51.out.2.2.2.1.later ba53, HCa51.out.2.2.2.2.1.later ba53, HCa51.out.2.2.2.2.2.1.later ba53, HCa51.out.2.2.2.2.2.2.1.later ba53, ia53, bl2 HCa51.out.2.2.2.2.2.2.2 ba53⟩
  clear HCa51
  clear ba53 ia53
  have zk : Hid ((kindL 11).length ≤ 15) := by show (kindL 11).length ≤ 15; rw [kindL_len]; omega
  have hca56 := show Calls Try.prog 35 #[.int .u8 11] wa53 (Gives wa53 (kindL 11)) from rxKindV 11 wa53
  go_wp2_with fail
  refine hca56.mono ?_
  rintro e wa56 ⟨⟨va56, rfl, ia56⟩, ba56⟩
  clear hca56
  obtain ⟨ya56, ka56, ca56, rfl⟩ := isb_open ia56
  have HCa57 := show Hid (IsBytes wa56 (.slice ya21 ka21 ca21) ⟨(putL1 (48, putL1 (49, putL1 (48, (putL1 (6, [85, 4, 3]) ++ putL1 (12, s.data.toList))))) : List UInt8).toArray⟩ ∧ IsBytes wa56 (.slice ya38 ka38 ca38) ⟨(putL1 (48, (putL1 (23, [48, 48, 48, 49, 48, 49, 48, 48, 48, 48, 48, 48, 90]) ++ putL1 (23, [52, 57, 49, 50, 51, 49, 50, 51, 53, 57, 53, 57, 90]))) : List UInt8).toArray⟩ ∧ IsBytes wa56 (.slice ya53 ka53 ca53) ⟨((putL1 (160, putL1 (2, numL [2])) ++ putL1 (2, numL [1])) : List UInt8).toArray⟩ ∧ IsBytes wa56 (.slice ya56 ka56 ca56) ⟨(kindL 11 : List UInt8).toArray⟩ ∧ Below W1.heap.size W1 wa56) from ⟨HCa54.out.1.later ba56, HCa54.out.2.1.later ba56, HCa54.out.2.2.2.2.2.2.2.1.later ba56, ia56, bl2 HCa54.out.2.2.2.2.2.2.2.2 ba56⟩
  clear HCa54
  clear ba56 ia56
  have zf2 : Hid ((((putL1 (160, putL1 (2, numL [2])) ++ putL1 (2, numL [1])) ++ kindL 11) : List UInt8).length ≤ 39) := by have := zf1.out; have := zk.out; show (((putL1 (160, putL1 (2, numL [2])) ++ putL1 (2, numL [1])) ++ kindL 11) : List UInt8).length ≤ 39; rw [List.length_append]; omega
  have hca59 := show Calls Try.prog 33 #[.slice ya53 ka53 ca53, .slice ya56 ka56 ca56] wa56 (Gives wa56 ((putL1 (160, putL1 (2, numL [2])) ++ putL1 (2, numL [1])) ++ kindL 11)) from rxCatV (.slice ya53 ka53 ca53) (.slice ya56 ka56 ca56) ((putL1 (160, putL1 (2, numL [2])) ++ putL1 (2, numL [1]))) (kindL 11) wa56 HCa57.out.2.2.1 HCa57.out.2.2.2.1 (by rw [← List.length_append]; exact Nat.le_trans zf2.out (by decide))
  go_wp2_with fail
  refine hca59.mono ?_
  rintro e wa59 ⟨⟨va59, rfl, ia59⟩, ba59⟩
  clear hca59
  obtain ⟨ya59, ka59, ca59, rfl⟩ := isb_open ia59
  have HCa60 := show Hid (IsBytes wa59 (.slice ya21 ka21 ca21) ⟨(putL1 (48, putL1 (49, putL1 (48, (putL1 (6, [85, 4, 3]) ++ putL1 (12, s.data.toList))))) : List UInt8).toArray⟩ ∧ IsBytes wa59 (.slice ya38 ka38 ca38) ⟨(putL1 (48, (putL1 (23, [48, 48, 48, 49, 48, 49, 48, 48, 48, 48, 48, 48, 90]) ++ putL1 (23, [52, 57, 49, 50, 51, 49, 50, 51, 53, 57, 53, 57, 90]))) : List UInt8).toArray⟩ ∧ IsBytes wa59 (.slice ya53 ka53 ca53) ⟨((putL1 (160, putL1 (2, numL [2])) ++ putL1 (2, numL [1])) : List UInt8).toArray⟩ ∧ IsBytes wa59 (.slice ya56 ka56 ca56) ⟨(kindL 11 : List UInt8).toArray⟩ ∧ IsBytes wa59 (.slice ya59 ka59 ca59) ⟨(((putL1 (160, putL1 (2, numL [2])) ++ putL1 (2, numL [1])) ++ kindL 11) : List UInt8).toArray⟩ ∧ Below W1.heap.size W1 wa59) from ⟨HCa57.out.1.later ba59, HCa57.out.2.1.later ba59, HCa57.out.2.2.1.later ba59, HCa57.out.2.2.2.1.later ba59, ia59, bl2 HCa57.out.2.2.2.2 ba59⟩
  clear HCa57
  clear ba59 ia59
  have zf3 : Hid (((((putL1 (160, putL1 (2, numL [2])) ++ putL1 (2, numL [1])) ++ kindL 11) ++ putL1 (48, putL1 (49, putL1 (48, (putL1 (6, [85, 4, 3]) ++ putL1 (12, s.data.toList)))))) : List UInt8).length ≤ 262) := by have := zf2.out; have := zwho.out; show ((((putL1 (160, putL1 (2, numL [2])) ++ putL1 (2, numL [1])) ++ kindL 11) ++ putL1 (48, putL1 (49, putL1 (48, (putL1 (6, [85, 4, 3]) ++ putL1 (12, s.data.toList)))))) : List UInt8).length ≤ 262; rw [List.length_append]; omega
  have hca62 := show Calls Try.prog 33 #[.slice ya59 ka59 ca59, .slice ya21 ka21 ca21] wa59 (Gives wa59 (((putL1 (160, putL1 (2, numL [2])) ++ putL1 (2, numL [1])) ++ kindL 11) ++ putL1 (48, putL1 (49, putL1 (48, (putL1 (6, [85, 4, 3]) ++ putL1 (12, s.data.toList))))))) from rxCatV (.slice ya59 ka59 ca59) (.slice ya21 ka21 ca21) (((putL1 (160, putL1 (2, numL [2])) ++ putL1 (2, numL [1])) ++ kindL 11)) (putL1 (48, putL1 (49, putL1 (48, (putL1 (6, [85, 4, 3]) ++ putL1 (12, s.data.toList)))))) wa59 HCa60.out.2.2.2.2.1 HCa60.out.1 (by rw [← List.length_append]; exact Nat.le_trans zf3.out (by decide))
  go_wp2_with fail
  refine hca62.mono ?_
  rintro e wa62 ⟨⟨va62, rfl, ia62⟩, ba62⟩
  clear hca62
  obtain ⟨ya62, ka62, ca62, rfl⟩ := isb_open ia62
  have HCa63 := show Hid (IsBytes wa62 (.slice ya21 ka21 ca21) ⟨(putL1 (48, putL1 (49, putL1 (48, (putL1 (6, [85, 4, 3]) ++ putL1 (12, s.data.toList))))) : List UInt8).toArray⟩ ∧ IsBytes wa62 (.slice ya38 ka38 ca38) ⟨(putL1 (48, (putL1 (23, [48, 48, 48, 49, 48, 49, 48, 48, 48, 48, 48, 48, 90]) ++ putL1 (23, [52, 57, 49, 50, 51, 49, 50, 51, 53, 57, 53, 57, 90]))) : List UInt8).toArray⟩ ∧ IsBytes wa62 (.slice ya53 ka53 ca53) ⟨((putL1 (160, putL1 (2, numL [2])) ++ putL1 (2, numL [1])) : List UInt8).toArray⟩ ∧ IsBytes wa62 (.slice ya56 ka56 ca56) ⟨(kindL 11 : List UInt8).toArray⟩ ∧ IsBytes wa62 (.slice ya59 ka59 ca59) ⟨(((putL1 (160, putL1 (2, numL [2])) ++ putL1 (2, numL [1])) ++ kindL 11) : List UInt8).toArray⟩ ∧ IsBytes wa62 (.slice ya62 ka62 ca62) ⟨((((putL1 (160, putL1 (2, numL [2])) ++ putL1 (2, numL [1])) ++ kindL 11) ++ putL1 (48, putL1 (49, putL1 (48, (putL1 (6, [85, 4, 3]) ++ putL1 (12, s.data.toList)))))) : List UInt8).toArray⟩ ∧ Below W1.heap.size W1 wa62) from ⟨HCa60.out.1.later ba62, HCa60.out.2.1.later ba62, HCa60.out.2.2.1.later ba62, HCa60.out.2.2.2.1.later ba62, HCa60.out.2.2.2.2.1.later ba62, ia62, bl2 HCa60.out.2.2.2.2.2 ba62⟩
  clear HCa60
  clear ba62 ia62
  have zf4 : Hid ((((((putL1 (160, putL1 (2, numL [2])) ++ putL1 (2, numL [1])) ++ kindL 11) ++ putL1 (48, putL1 (49, putL1 (48, (putL1 (6, [85, 4, 3]) ++ putL1 (12, s.data.toList)))))) ++ putL1 (48, (putL1 (23, [48, 48, 48, 49, 48, 49, 48, 48, 48, 48, 48, 48, 90]) ++ putL1 (23, [52, 57, 49, 50, 51, 49, 50, 51, 53, 57, 53, 57, 90])))) : List UInt8).length ≤ 300) := by have := zf3.out; have := zdt.out; show (((((putL1 (160, putL1 (2, numL [2])) ++ putL1 (2, numL [1])) ++ kindL 11) ++ putL1 (48, putL1 (49, putL1 (48, (putL1 (6, [85, 4, 3]) ++ putL1 (12, s.data.toList)))))) ++ putL1 (48, (putL1 (23, [48, 48, 48, 49, 48, 49, 48, 48, 48, 48, 48, 48, 90]) ++ putL1 (23, [52, 57, 49, 50, 51, 49, 50, 51, 53, 57, 53, 57, 90])))) : List UInt8).length ≤ 300; rw [List.length_append]; omega
  have hca65 := show Calls Try.prog 33 #[.slice ya62 ka62 ca62, .slice ya38 ka38 ca38] wa62 (Gives wa62 ((((putL1 (160, putL1 (2, numL [2])) ++ putL1 (2, numL [1])) ++ kindL 11) ++ putL1 (48, putL1 (49, putL1 (48, (putL1 (6, [85, 4, 3]) ++ putL1 (12, s.data.toList)))))) ++ putL1 (48, (putL1 (23, [48, 48, 48, 49, 48, 49, 48, 48, 48, 48, 48, 48, 90]) ++ putL1 (23, [52, 57, 49, 50, 51, 49, 50, 51, 53, 57, 53, 57, 90]))))) from rxCatV (.slice ya62 ka62 ca62) (.slice ya38 ka38 ca38) ((((putL1 (160, putL1 (2, numL [2])) ++ putL1 (2, numL [1])) ++ kindL 11) ++ putL1 (48, putL1 (49, putL1 (48, (putL1 (6, [85, 4, 3]) ++ putL1 (12, s.data.toList))))))) (putL1 (48, (putL1 (23, [48, 48, 48, 49, 48, 49, 48, 48, 48, 48, 48, 48, 90]) ++ putL1 (23, [52, 57, 49, 50, 51, 49, 50, 51, 53, 57, 53, 57, 90])))) wa62 HCa63.out.2.2.2.2.2.1 HCa63.out.2.1 (by rw [← List.length_append]; exact Nat.le_trans zf4.out (by decide))
  go_wp2_with fail
  refine hca65.mono ?_
  rintro e wa65 ⟨⟨va65, rfl, ia65⟩, ba65⟩
  clear hca65
  obtain ⟨ya65, ka65, ca65, rfl⟩ := isb_open ia65
  have HCa66 := show Hid (IsBytes wa65 (.slice ya21 ka21 ca21) ⟨(putL1 (48, putL1 (49, putL1 (48, (putL1 (6, [85, 4, 3]) ++ putL1 (12, s.data.toList))))) : List UInt8).toArray⟩ ∧ IsBytes wa65 (.slice ya38 ka38 ca38) ⟨(putL1 (48, (putL1 (23, [48, 48, 48, 49, 48, 49, 48, 48, 48, 48, 48, 48, 90]) ++ putL1 (23, [52, 57, 49, 50, 51, 49, 50, 51, 53, 57, 53, 57, 90]))) : List UInt8).toArray⟩ ∧ IsBytes wa65 (.slice ya53 ka53 ca53) ⟨((putL1 (160, putL1 (2, numL [2])) ++ putL1 (2, numL [1])) : List UInt8).toArray⟩ ∧ IsBytes wa65 (.slice ya56 ka56 ca56) ⟨(kindL 11 : List UInt8).toArray⟩ ∧ IsBytes wa65 (.slice ya59 ka59 ca59) ⟨(((putL1 (160, putL1 (2, numL [2])) ++ putL1 (2, numL [1])) ++ kindL 11) : List UInt8).toArray⟩ ∧ IsBytes wa65 (.slice ya62 ka62 ca62) ⟨((((putL1 (160, putL1 (2, numL [2])) ++ putL1 (2, numL [1])) ++ kindL 11) ++ putL1 (48, putL1 (49, putL1 (48, (putL1 (6, [85, 4, 3]) ++ putL1 (12, s.data.toList)))))) : List UInt8).toArray⟩ ∧ IsBytes wa65 (.slice ya65 ka65 ca65) ⟨(((((putL1 (160, putL1 (2, numL [2])) ++ putL1 (2, numL [1])) ++ kindL 11) ++ putL1 (48, putL1 (49, putL1 (48, (putL1 (6, [85, 4, 3]) ++ putL1 (12, s.data.toList)))))) ++ putL1 (48, (putL1 (23, [48, 48, 48, 49, 48, 49, 48, 48, 48, 48, 48, 48, 90]) ++ putL1 (23, [52, 57, 49, 50, 51, 49, 50, 51, 53, 57, 53, 57, 90])))) : List UInt8).toArray⟩ ∧ Below W1.heap.size W1 wa65) from ⟨HCa63.out.1.later ba65, HCa63.out.2.1.later ba65, HCa63.out.2.2.1.later ba65, HCa63.out.2.2.2.1.later ba65, HCa63.out.2.2.2.2.1.later ba65, HCa63.out.2.2.2.2.2.1.later ba65, ia65, bl2 HCa63.out.2.2.2.2.2.2 ba65⟩
  clear HCa63
  clear ba65 ia65
  have zf5 : Hid (((((((putL1 (160, putL1 (2, numL [2])) ++ putL1 (2, numL [1])) ++ kindL 11) ++ putL1 (48, putL1 (49, putL1 (48, (putL1 (6, [85, 4, 3]) ++ putL1 (12, s.data.toList)))))) ++ putL1 (48, (putL1 (23, [48, 48, 48, 49, 48, 49, 48, 48, 48, 48, 48, 48, 90]) ++ putL1 (23, [52, 57, 49, 50, 51, 49, 50, 51, 53, 57, 53, 57, 90])))) ++ putL1 (48, putL1 (49, putL1 (48, (putL1 (6, [85, 4, 3]) ++ putL1 (12, s.data.toList)))))) : List UInt8).length ≤ 523) := by have := zf4.out; have := zwho.out; show ((((((putL1 (160, putL1 (2, numL [2])) ++ putL1 (2, numL [1])) ++ kindL 11) ++ putL1 (48, putL1 (49, putL1 (48, (putL1 (6, [85, 4, 3]) ++ putL1 (12, s.data.toList)))))) ++ putL1 (48, (putL1 (23, [48, 48, 48, 49, 48, 49, 48, 48, 48, 48, 48, 48, 90]) ++ putL1 (23, [52, 57, 49, 50, 51, 49, 50, 51, 53, 57, 53, 57, 90])))) ++ putL1 (48, putL1 (49, putL1 (48, (putL1 (6, [85, 4, 3]) ++ putL1 (12, s.data.toList)))))) : List UInt8).length ≤ 523; rw [List.length_append]; omega
  have hca68 := show Calls Try.prog 33 #[.slice ya65 ka65 ca65, .slice ya21 ka21 ca21] wa65 (Gives wa65 (((((putL1 (160, putL1 (2, numL [2])) ++ putL1 (2, numL [1])) ++ kindL 11) ++ putL1 (48, putL1 (49, putL1 (48, (putL1 (6, [85, 4, 3]) ++ putL1 (12, s.data.toList)))))) ++ putL1 (48, (putL1 (23, [48, 48, 48, 49, 48, 49, 48, 48, 48, 48, 48, 48, 90]) ++ putL1 (23, [52, 57, 49, 50, 51, 49, 50, 51, 53, 57, 53, 57, 90])))) ++ putL1 (48, putL1 (49, putL1 (48, (putL1 (6, [85, 4, 3]) ++ putL1 (12, s.data.toList))))))) from rxCatV (.slice ya65 ka65 ca65) (.slice ya21 ka21 ca21) (((((putL1 (160, putL1 (2, numL [2])) ++ putL1 (2, numL [1])) ++ kindL 11) ++ putL1 (48, putL1 (49, putL1 (48, (putL1 (6, [85, 4, 3]) ++ putL1 (12, s.data.toList)))))) ++ putL1 (48, (putL1 (23, [48, 48, 48, 49, 48, 49, 48, 48, 48, 48, 48, 48, 90]) ++ putL1 (23, [52, 57, 49, 50, 51, 49, 50, 51, 53, 57, 53, 57, 90]))))) (putL1 (48, putL1 (49, putL1 (48, (putL1 (6, [85, 4, 3]) ++ putL1 (12, s.data.toList)))))) wa65 HCa66.out.2.2.2.2.2.2.1 HCa66.out.1 (by rw [← List.length_append]; exact Nat.le_trans zf5.out (by decide))
  go_wp2_with fail
  refine hca68.mono ?_
  rintro e wa68 ⟨⟨va68, rfl, ia68⟩, ba68⟩
  clear hca68
  obtain ⟨ya68, ka68, ca68, rfl⟩ := isb_open ia68
  have HCa69 := show Hid (IsBytes wa68 (.slice ya21 ka21 ca21) ⟨(putL1 (48, putL1 (49, putL1 (48, (putL1 (6, [85, 4, 3]) ++ putL1 (12, s.data.toList))))) : List UInt8).toArray⟩ ∧ IsBytes wa68 (.slice ya38 ka38 ca38) ⟨(putL1 (48, (putL1 (23, [48, 48, 48, 49, 48, 49, 48, 48, 48, 48, 48, 48, 90]) ++ putL1 (23, [52, 57, 49, 50, 51, 49, 50, 51, 53, 57, 53, 57, 90]))) : List UInt8).toArray⟩ ∧ IsBytes wa68 (.slice ya53 ka53 ca53) ⟨((putL1 (160, putL1 (2, numL [2])) ++ putL1 (2, numL [1])) : List UInt8).toArray⟩ ∧ IsBytes wa68 (.slice ya56 ka56 ca56) ⟨(kindL 11 : List UInt8).toArray⟩ ∧ IsBytes wa68 (.slice ya59 ka59 ca59) ⟨(((putL1 (160, putL1 (2, numL [2])) ++ putL1 (2, numL [1])) ++ kindL 11) : List UInt8).toArray⟩ ∧ IsBytes wa68 (.slice ya62 ka62 ca62) ⟨((((putL1 (160, putL1 (2, numL [2])) ++ putL1 (2, numL [1])) ++ kindL 11) ++ putL1 (48, putL1 (49, putL1 (48, (putL1 (6, [85, 4, 3]) ++ putL1 (12, s.data.toList)))))) : List UInt8).toArray⟩ ∧ IsBytes wa68 (.slice ya65 ka65 ca65) ⟨(((((putL1 (160, putL1 (2, numL [2])) ++ putL1 (2, numL [1])) ++ kindL 11) ++ putL1 (48, putL1 (49, putL1 (48, (putL1 (6, [85, 4, 3]) ++ putL1 (12, s.data.toList)))))) ++ putL1 (48, (putL1 (23, [48, 48, 48, 49, 48, 49, 48, 48, 48, 48, 48, 48, 90]) ++ putL1 (23, [52, 57, 49, 50, 51, 49, 50, 51, 53, 57, 53, 57, 90])))) : List UInt8).toArray⟩ ∧ IsBytes wa68 (.slice ya68 ka68 ca68) ⟨((((((putL1 (160, putL1 (2, numL [2])) ++ putL1 (2, numL [1])) ++ kindL 11) ++ putL1 (48, putL1 (49, putL1 (48, (putL1 (6, [85, 4, 3]) ++ putL1 (12, s.data.toList)))))) ++ putL1 (48, (putL1 (23, [48, 48, 48, 49, 48, 49, 48, 48, 48, 48, 48, 48, 90]) ++ putL1 (23, [52, 57, 49, 50, 51, 49, 50, 51, 53, 57, 53, 57, 90])))) ++ putL1 (48, putL1 (49, putL1 (48, (putL1 (6, [85, 4, 3]) ++ putL1 (12, s.data.toList)))))) : List UInt8).toArray⟩ ∧ Below W1.heap.size W1 wa68) from ⟨HCa66.out.1.later ba68, HCa66.out.2.1.later ba68, HCa66.out.2.2.1.later ba68, HCa66.out.2.2.2.1.later ba68, HCa66.out.2.2.2.2.1.later ba68, HCa66.out.2.2.2.2.2.1.later ba68, HCa66.out.2.2.2.2.2.2.1.later ba68, ia68, bl2 HCa66.out.2.2.2.2.2.2.2 ba68⟩
  clear HCa66
  clear ba68 ia68
  obtain ⟨⟨g0, g1, g2⟩, _⟩ := And.intro (HK.out.1.cells HCa69.out.2.2.2.2.2.2.2.2) trivial
  have zi : Hid ((infoL lN lE).length ≤ 21000) := infoL_le _ _ HK.out.2.2.2.1 HK.out.2.2.2.2
  have hca71 := show Calls Try.prog 14 #[.agg #[.slice x nN cx, .slice y nE cy, .slice z nD cz]] wa68 (Gives wa68 (infoL lN lE)) from rxInfo_any x y z cx cy cz nN nE nD lN lE wa68 (HK.out.2.1.later HCa69.out.2.2.2.2.2.2.2.2) (HK.out.2.2.1.later HCa69.out.2.2.2.2.2.2.2.2) HK.out.2.2.2.1 HK.out.2.2.2.2
  go_wp2_with fail
  refine hca71.mono ?_
  rintro e wa71 ⟨⟨va71, rfl, ia71⟩, ba71⟩
  clear hca71
  obtain ⟨ya71, ka71, ca71, rfl⟩ := isb_open ia71
  have HCa72 := show Hid (IsBytes wa71 (.slice ya68 ka68 ca68) ⟨((((((putL1 (160, putL1 (2, numL [2])) ++ putL1 (2, numL [1])) ++ kindL 11) ++ putL1 (48, putL1 (49, putL1 (48, (putL1 (6, [85, 4, 3]) ++ putL1 (12, s.data.toList)))))) ++ putL1 (48, (putL1 (23, [48, 48, 48, 49, 48, 49, 48, 48, 48, 48, 48, 48, 90]) ++ putL1 (23, [52, 57, 49, 50, 51, 49, 50, 51, 53, 57, 53, 57, 90])))) ++ putL1 (48, putL1 (49, putL1 (48, (putL1 (6, [85, 4, 3]) ++ putL1 (12, s.data.toList)))))) : List UInt8).toArray⟩ ∧ IsBytes wa71 (.slice ya71 ka71 ca71) ⟨(infoL lN lE : List UInt8).toArray⟩ ∧ Below W1.heap.size W1 wa71) from ⟨HCa69.out.2.2.2.2.2.2.2.1.later ba71, ia71, bl2 HCa69.out.2.2.2.2.2.2.2.2 ba71⟩
  clear HCa69
  clear ba71 ia71
  clear g0 g1 g2
  have zf6 : Hid ((((((((putL1 (160, putL1 (2, numL [2])) ++ putL1 (2, numL [1])) ++ kindL 11) ++ putL1 (48, putL1 (49, putL1 (48, (putL1 (6, [85, 4, 3]) ++ putL1 (12, s.data.toList)))))) ++ putL1 (48, (putL1 (23, [48, 48, 48, 49, 48, 49, 48, 48, 48, 48, 48, 48, 90]) ++ putL1 (23, [52, 57, 49, 50, 51, 49, 50, 51, 53, 57, 53, 57, 90])))) ++ putL1 (48, putL1 (49, putL1 (48, (putL1 (6, [85, 4, 3]) ++ putL1 (12, s.data.toList)))))) ++ infoL lN lE) : List UInt8).length ≤ 21523) := by have := zf5.out; have := zi.out; show (((((((putL1 (160, putL1 (2, numL [2])) ++ putL1 (2, numL [1])) ++ kindL 11) ++ putL1 (48, putL1 (49, putL1 (48, (putL1 (6, [85, 4, 3]) ++ putL1 (12, s.data.toList)))))) ++ putL1 (48, (putL1 (23, [48, 48, 48, 49, 48, 49, 48, 48, 48, 48, 48, 48, 90]) ++ putL1 (23, [52, 57, 49, 50, 51, 49, 50, 51, 53, 57, 53, 57, 90])))) ++ putL1 (48, putL1 (49, putL1 (48, (putL1 (6, [85, 4, 3]) ++ putL1 (12, s.data.toList)))))) ++ infoL lN lE) : List UInt8).length ≤ 21523; rw [List.length_append]; omega
  have hca74 := show Calls Try.prog 33 #[.slice ya68 ka68 ca68, .slice ya71 ka71 ca71] wa71 (Gives wa71 ((((((putL1 (160, putL1 (2, numL [2])) ++ putL1 (2, numL [1])) ++ kindL 11) ++ putL1 (48, putL1 (49, putL1 (48, (putL1 (6, [85, 4, 3]) ++ putL1 (12, s.data.toList)))))) ++ putL1 (48, (putL1 (23, [48, 48, 48, 49, 48, 49, 48, 48, 48, 48, 48, 48, 90]) ++ putL1 (23, [52, 57, 49, 50, 51, 49, 50, 51, 53, 57, 53, 57, 90])))) ++ putL1 (48, putL1 (49, putL1 (48, (putL1 (6, [85, 4, 3]) ++ putL1 (12, s.data.toList)))))) ++ infoL lN lE)) from rxCatV (.slice ya68 ka68 ca68) (.slice ya71 ka71 ca71) ((((((putL1 (160, putL1 (2, numL [2])) ++ putL1 (2, numL [1])) ++ kindL 11) ++ putL1 (48, putL1 (49, putL1 (48, (putL1 (6, [85, 4, 3]) ++ putL1 (12, s.data.toList)))))) ++ putL1 (48, (putL1 (23, [48, 48, 48, 49, 48, 49, 48, 48, 48, 48, 48, 48, 90]) ++ putL1 (23, [52, 57, 49, 50, 51, 49, 50, 51, 53, 57, 53, 57, 90])))) ++ putL1 (48, putL1 (49, putL1 (48, (putL1 (6, [85, 4, 3]) ++ putL1 (12, s.data.toList))))))) (infoL lN lE) wa71 HCa72.out.1 HCa72.out.2.1 (by rw [← List.length_append]; exact Nat.le_trans zf6.out (by decide))
  go_wp2_with fail
  refine hca74.mono ?_
  rintro e wa74 ⟨⟨va74, rfl, ia74⟩, ba74⟩
  clear hca74
  obtain ⟨ya74, ka74, ca74, rfl⟩ := isb_open ia74
  have HCa75 := show Hid (IsBytes wa74 (.slice ya68 ka68 ca68) ⟨((((((putL1 (160, putL1 (2, numL [2])) ++ putL1 (2, numL [1])) ++ kindL 11) ++ putL1 (48, putL1 (49, putL1 (48, (putL1 (6, [85, 4, 3]) ++ putL1 (12, s.data.toList)))))) ++ putL1 (48, (putL1 (23, [48, 48, 48, 49, 48, 49, 48, 48, 48, 48, 48, 48, 90]) ++ putL1 (23, [52, 57, 49, 50, 51, 49, 50, 51, 53, 57, 53, 57, 90])))) ++ putL1 (48, putL1 (49, putL1 (48, (putL1 (6, [85, 4, 3]) ++ putL1 (12, s.data.toList)))))) : List UInt8).toArray⟩ ∧ IsBytes wa74 (.slice ya71 ka71 ca71) ⟨(infoL lN lE : List UInt8).toArray⟩ ∧ IsBytes wa74 (.slice ya74 ka74 ca74) ⟨(((((((putL1 (160, putL1 (2, numL [2])) ++ putL1 (2, numL [1])) ++ kindL 11) ++ putL1 (48, putL1 (49, putL1 (48, (putL1 (6, [85, 4, 3]) ++ putL1 (12, s.data.toList)))))) ++ putL1 (48, (putL1 (23, [48, 48, 48, 49, 48, 49, 48, 48, 48, 48, 48, 48, 90]) ++ putL1 (23, [52, 57, 49, 50, 51, 49, 50, 51, 53, 57, 53, 57, 90])))) ++ putL1 (48, putL1 (49, putL1 (48, (putL1 (6, [85, 4, 3]) ++ putL1 (12, s.data.toList)))))) ++ infoL lN lE) : List UInt8).toArray⟩ ∧ Below W1.heap.size W1 wa74) from ⟨HCa72.out.1.later ba74, HCa72.out.2.1.later ba74, ia74, bl2 HCa72.out.2.2 ba74⟩
  clear HCa72
  clear ba74 ia74
  have yg : Hid ((((((((putL1 (160, putL1 (2, numL [2])) ++ putL1 (2, numL [1])) ++ kindL 11) ++ putL1 (48, putL1 (49, putL1 (48, (putL1 (6, [85, 4, 3]) ++ putL1 (12, s.data.toList)))))) ++ putL1 (48, (putL1 (23, [48, 48, 48, 49, 48, 49, 48, 48, 48, 48, 48, 48, 90]) ++ putL1 (23, [52, 57, 49, 50, 51, 49, 50, 51, 53, 57, 53, 57, 90])))) ++ putL1 (48, putL1 (49, putL1 (48, (putL1 (6, [85, 4, 3]) ++ putL1 (12, s.data.toList)))))) ++ infoL lN lE) : List UInt8).length ≤ 21523) := by have := zf6.out; show (((((((putL1 (160, putL1 (2, numL [2])) ++ putL1 (2, numL [1])) ++ kindL 11) ++ putL1 (48, putL1 (49, putL1 (48, (putL1 (6, [85, 4, 3]) ++ putL1 (12, s.data.toList)))))) ++ putL1 (48, (putL1 (23, [48, 48, 48, 49, 48, 49, 48, 48, 48, 48, 48, 48, 90]) ++ putL1 (23, [52, 57, 49, 50, 51, 49, 50, 51, 53, 57, 53, 57, 90])))) ++ putL1 (48, putL1 (49, putL1 (48, (putL1 (6, [85, 4, 3]) ++ putL1 (12, s.data.toList)))))) ++ infoL lN lE) : List UInt8).length ≤ 21523; omega
  have zg : Hid ((putL1 (48, ((((((putL1 (160, putL1 (2, numL [2])) ++ putL1 (2, numL [1])) ++ kindL 11) ++ putL1 (48, putL1 (49, putL1 (48, (putL1 (6, [85, 4, 3]) ++ putL1 (12, s.data.toList)))))) ++ putL1 (48, (putL1 (23, [48, 48, 48, 49, 48, 49, 48, 48, 48, 48, 48, 48, 90]) ++ putL1 (23, [52, 57, 49, 50, 51, 49, 50, 51, 53, 57, 53, 57, 90])))) ++ putL1 (48, putL1 (49, putL1 (48, (putL1 (6, [85, 4, 3]) ++ putL1 (12, s.data.toList)))))) ++ infoL lN lE))).length ≤ 21527) := Nat.le_trans (putL1_up (48, ((((((putL1 (160, putL1 (2, numL [2])) ++ putL1 (2, numL [1])) ++ kindL 11) ++ putL1 (48, putL1 (49, putL1 (48, (putL1 (6, [85, 4, 3]) ++ putL1 (12, s.data.toList)))))) ++ putL1 (48, (putL1 (23, [48, 48, 48, 49, 48, 49, 48, 48, 48, 48, 48, 48, 90]) ++ putL1 (23, [52, 57, 49, 50, 51, 49, 50, 51, 53, 57, 53, 57, 90])))) ++ putL1 (48, putL1 (49, putL1 (48, (putL1 (6, [85, 4, 3]) ++ putL1 (12, s.data.toList)))))) ++ infoL lN lE)) (Nat.lt_of_le_of_lt yg.out (by decide))) (Nat.add_le_add_right yg.out 4)
  have hca77 := show Calls Try.prog 7 #[.int .u8 48, .slice ya74 ka74 ca74] wa74 (Gives wa74 (putL1 (48, ((((((putL1 (160, putL1 (2, numL [2])) ++ putL1 (2, numL [1])) ++ kindL 11) ++ putL1 (48, putL1 (49, putL1 (48, (putL1 (6, [85, 4, 3]) ++ putL1 (12, s.data.toList)))))) ++ putL1 (48, (putL1 (23, [48, 48, 48, 49, 48, 49, 48, 48, 48, 48, 48, 48, 90]) ++ putL1 (23, [52, 57, 49, 50, 51, 49, 50, 51, 53, 57, 53, 57, 90])))) ++ putL1 (48, putL1 (49, putL1 (48, (putL1 (6, [85, 4, 3]) ++ putL1 (12, s.data.toList)))))) ++ infoL lN lE)))) from rxPutV 48 (((((((putL1 (160, putL1 (2, numL [2])) ++ putL1 (2, numL [1])) ++ kindL 11) ++ putL1 (48, putL1 (49, putL1 (48, (putL1 (6, [85, 4, 3]) ++ putL1 (12, s.data.toList)))))) ++ putL1 (48, (putL1 (23, [48, 48, 48, 49, 48, 49, 48, 48, 48, 48, 48, 48, 90]) ++ putL1 (23, [52, 57, 49, 50, 51, 49, 50, 51, 53, 57, 53, 57, 90])))) ++ putL1 (48, putL1 (49, putL1 (48, (putL1 (6, [85, 4, 3]) ++ putL1 (12, s.data.toList)))))) ++ infoL lN lE)) (.slice ya74 ka74 ca74) wa74 HCa75.out.2.2.1 (Nat.le_trans yg.out (by decide))
  go_wp2_with fail
  refine hca77.mono ?_
  rintro e wa77 ⟨⟨va77, rfl, ia77⟩, ba77⟩
  clear hca77
  obtain ⟨ya77, ka77, ca77, rfl⟩ := isb_open ia77
  have HCa78 := show Hid (IsBytes wa77 (.slice ya68 ka68 ca68) ⟨((((((putL1 (160, putL1 (2, numL [2])) ++ putL1 (2, numL [1])) ++ kindL 11) ++ putL1 (48, putL1 (49, putL1 (48, (putL1 (6, [85, 4, 3]) ++ putL1 (12, s.data.toList)))))) ++ putL1 (48, (putL1 (23, [48, 48, 48, 49, 48, 49, 48, 48, 48, 48, 48, 48, 90]) ++ putL1 (23, [52, 57, 49, 50, 51, 49, 50, 51, 53, 57, 53, 57, 90])))) ++ putL1 (48, putL1 (49, putL1 (48, (putL1 (6, [85, 4, 3]) ++ putL1 (12, s.data.toList)))))) : List UInt8).toArray⟩ ∧ IsBytes wa77 (.slice ya71 ka71 ca71) ⟨(infoL lN lE : List UInt8).toArray⟩ ∧ IsBytes wa77 (.slice ya74 ka74 ca74) ⟨(((((((putL1 (160, putL1 (2, numL [2])) ++ putL1 (2, numL [1])) ++ kindL 11) ++ putL1 (48, putL1 (49, putL1 (48, (putL1 (6, [85, 4, 3]) ++ putL1 (12, s.data.toList)))))) ++ putL1 (48, (putL1 (23, [48, 48, 48, 49, 48, 49, 48, 48, 48, 48, 48, 48, 90]) ++ putL1 (23, [52, 57, 49, 50, 51, 49, 50, 51, 53, 57, 53, 57, 90])))) ++ putL1 (48, putL1 (49, putL1 (48, (putL1 (6, [85, 4, 3]) ++ putL1 (12, s.data.toList)))))) ++ infoL lN lE) : List UInt8).toArray⟩ ∧ IsBytes wa77 (.slice ya77 ka77 ca77) ⟨(putL1 (48, ((((((putL1 (160, putL1 (2, numL [2])) ++ putL1 (2, numL [1])) ++ kindL 11) ++ putL1 (48, putL1 (49, putL1 (48, (putL1 (6, [85, 4, 3]) ++ putL1 (12, s.data.toList)))))) ++ putL1 (48, (putL1 (23, [48, 48, 48, 49, 48, 49, 48, 48, 48, 48, 48, 48, 90]) ++ putL1 (23, [52, 57, 49, 50, 51, 49, 50, 51, 53, 57, 53, 57, 90])))) ++ putL1 (48, putL1 (49, putL1 (48, (putL1 (6, [85, 4, 3]) ++ putL1 (12, s.data.toList)))))) ++ infoL lN lE)) : List UInt8).toArray⟩ ∧ Below W1.heap.size W1 wa77) from ⟨HCa75.out.1.later ba77, HCa75.out.2.1.later ba77, HCa75.out.2.2.1.later ba77, ia77, bl2 HCa75.out.2.2.2 ba77⟩
  clear HCa75
  clear ba77 ia77
  clear yg
  have zkk : Hid ((kindL 11).length ≤ 15) := by show (kindL 11).length ≤ 15; rw [kindL_len]; omega
  have hca80 := show Calls Try.prog 35 #[.int .u8 11] wa77 (Gives wa77 (kindL 11)) from rxKindV 11 wa77
  go_wp2_with fail
  refine hca80.mono ?_
  rintro e wa80 ⟨⟨va80, rfl, ia80⟩, ba80⟩
  clear hca80
  obtain ⟨ya80, ka80, ca80, rfl⟩ := isb_open ia80
  have HCa81 := show Hid (IsBytes wa80 (.slice ya77 ka77 ca77) ⟨(putL1 (48, ((((((putL1 (160, putL1 (2, numL [2])) ++ putL1 (2, numL [1])) ++ kindL 11) ++ putL1 (48, putL1 (49, putL1 (48, (putL1 (6, [85, 4, 3]) ++ putL1 (12, s.data.toList)))))) ++ putL1 (48, (putL1 (23, [48, 48, 48, 49, 48, 49, 48, 48, 48, 48, 48, 48, 90]) ++ putL1 (23, [52, 57, 49, 50, 51, 49, 50, 51, 53, 57, 53, 57, 90])))) ++ putL1 (48, putL1 (49, putL1 (48, (putL1 (6, [85, 4, 3]) ++ putL1 (12, s.data.toList)))))) ++ infoL lN lE)) : List UInt8).toArray⟩ ∧ IsBytes wa80 (.slice ya80 ka80 ca80) ⟨(kindL 11 : List UInt8).toArray⟩ ∧ Below W1.heap.size W1 wa80) from ⟨HCa78.out.2.2.2.1.later ba80, ia80, bl2 HCa78.out.2.2.2.2 ba80⟩
  clear HCa78
  clear ba80 ia80
  have zh : Hid (((putL1 (48, ((((((putL1 (160, putL1 (2, numL [2])) ++ putL1 (2, numL [1])) ++ kindL 11) ++ putL1 (48, putL1 (49, putL1 (48, (putL1 (6, [85, 4, 3]) ++ putL1 (12, s.data.toList)))))) ++ putL1 (48, (putL1 (23, [48, 48, 48, 49, 48, 49, 48, 48, 48, 48, 48, 48, 90]) ++ putL1 (23, [52, 57, 49, 50, 51, 49, 50, 51, 53, 57, 53, 57, 90])))) ++ putL1 (48, putL1 (49, putL1 (48, (putL1 (6, [85, 4, 3]) ++ putL1 (12, s.data.toList)))))) ++ infoL lN lE)) ++ kindL 11) : List UInt8).length ≤ 21542) := by have := zg.out; have := zkk.out; show ((putL1 (48, ((((((putL1 (160, putL1 (2, numL [2])) ++ putL1 (2, numL [1])) ++ kindL 11) ++ putL1 (48, putL1 (49, putL1 (48, (putL1 (6, [85, 4, 3]) ++ putL1 (12, s.data.toList)))))) ++ putL1 (48, (putL1 (23, [48, 48, 48, 49, 48, 49, 48, 48, 48, 48, 48, 48, 90]) ++ putL1 (23, [52, 57, 49, 50, 51, 49, 50, 51, 53, 57, 53, 57, 90])))) ++ putL1 (48, putL1 (49, putL1 (48, (putL1 (6, [85, 4, 3]) ++ putL1 (12, s.data.toList)))))) ++ infoL lN lE)) ++ kindL 11) : List UInt8).length ≤ 21542; rw [List.length_append]; omega
  have hca83 := show Calls Try.prog 33 #[.slice ya77 ka77 ca77, .slice ya80 ka80 ca80] wa80 (Gives wa80 (putL1 (48, ((((((putL1 (160, putL1 (2, numL [2])) ++ putL1 (2, numL [1])) ++ kindL 11) ++ putL1 (48, putL1 (49, putL1 (48, (putL1 (6, [85, 4, 3]) ++ putL1 (12, s.data.toList)))))) ++ putL1 (48, (putL1 (23, [48, 48, 48, 49, 48, 49, 48, 48, 48, 48, 48, 48, 90]) ++ putL1 (23, [52, 57, 49, 50, 51, 49, 50, 51, 53, 57, 53, 57, 90])))) ++ putL1 (48, putL1 (49, putL1 (48, (putL1 (6, [85, 4, 3]) ++ putL1 (12, s.data.toList)))))) ++ infoL lN lE)) ++ kindL 11)) from rxCatV (.slice ya77 ka77 ca77) (.slice ya80 ka80 ca80) (putL1 (48, ((((((putL1 (160, putL1 (2, numL [2])) ++ putL1 (2, numL [1])) ++ kindL 11) ++ putL1 (48, putL1 (49, putL1 (48, (putL1 (6, [85, 4, 3]) ++ putL1 (12, s.data.toList)))))) ++ putL1 (48, (putL1 (23, [48, 48, 48, 49, 48, 49, 48, 48, 48, 48, 48, 48, 90]) ++ putL1 (23, [52, 57, 49, 50, 51, 49, 50, 51, 53, 57, 53, 57, 90])))) ++ putL1 (48, putL1 (49, putL1 (48, (putL1 (6, [85, 4, 3]) ++ putL1 (12, s.data.toList)))))) ++ infoL lN lE))) (kindL 11) wa80 HCa81.out.1 HCa81.out.2.1 (by rw [← List.length_append]; exact Nat.le_trans zh.out (by decide))
  go_wp2_with fail
  refine hca83.mono ?_
  rintro e wa83 ⟨⟨va83, rfl, ia83⟩, ba83⟩
  clear hca83
  obtain ⟨ya83, ka83, ca83, rfl⟩ := isb_open ia83
  have HCa84 := show Hid (IsBytes wa83 (.slice ya77 ka77 ca77) ⟨(putL1 (48, ((((((putL1 (160, putL1 (2, numL [2])) ++ putL1 (2, numL [1])) ++ kindL 11) ++ putL1 (48, putL1 (49, putL1 (48, (putL1 (6, [85, 4, 3]) ++ putL1 (12, s.data.toList)))))) ++ putL1 (48, (putL1 (23, [48, 48, 48, 49, 48, 49, 48, 48, 48, 48, 48, 48, 90]) ++ putL1 (23, [52, 57, 49, 50, 51, 49, 50, 51, 53, 57, 53, 57, 90])))) ++ putL1 (48, putL1 (49, putL1 (48, (putL1 (6, [85, 4, 3]) ++ putL1 (12, s.data.toList)))))) ++ infoL lN lE)) : List UInt8).toArray⟩ ∧ IsBytes wa83 (.slice ya80 ka80 ca80) ⟨(kindL 11 : List UInt8).toArray⟩ ∧ IsBytes wa83 (.slice ya83 ka83 ca83) ⟨((putL1 (48, ((((((putL1 (160, putL1 (2, numL [2])) ++ putL1 (2, numL [1])) ++ kindL 11) ++ putL1 (48, putL1 (49, putL1 (48, (putL1 (6, [85, 4, 3]) ++ putL1 (12, s.data.toList)))))) ++ putL1 (48, (putL1 (23, [48, 48, 48, 49, 48, 49, 48, 48, 48, 48, 48, 48, 90]) ++ putL1 (23, [52, 57, 49, 50, 51, 49, 50, 51, 53, 57, 53, 57, 90])))) ++ putL1 (48, putL1 (49, putL1 (48, (putL1 (6, [85, 4, 3]) ++ putL1 (12, s.data.toList)))))) ++ infoL lN lE)) ++ kindL 11) : List UInt8).toArray⟩ ∧ Below W1.heap.size W1 wa83) from ⟨HCa81.out.1.later ba83, HCa81.out.2.1.later ba83, ia83, bl2 HCa81.out.2.2 ba83⟩
  clear HCa81
  clear ba83 ia83
  obtain ⟨Wa85, hWa85⟩ : ∃ W, wa83.alloc (.cells #[.int .u8 0] 5) = W := ⟨_, rfl⟩
  have ba85 : Below wa83.heap.size wa83 Wa85 := by rw [← hWa85]; exact alB _ _
  have ia85 : IsBytes Wa85 (.slice (some ⟨wa83.heap.size, 0, none⟩) 1 1) ⟨([0] : List UInt8).toArray⟩ := by rw [← hWa85]; exact litM wa83 ⟨#[0]⟩ _ _ rfl (show (1 : Nat) ≤ maxLen by unfold maxLen; decide)
  have HCa86 := show Hid (IsBytes Wa85 (.slice ya77 ka77 ca77) ⟨(putL1 (48, ((((((putL1 (160, putL1 (2, numL [2])) ++ putL1 (2, numL [1])) ++ kindL 11) ++ putL1 (48, putL1 (49, putL1 (48, (putL1 (6, [85, 4, 3]) ++ putL1 (12, s.data.toList)))))) ++ putL1 (48, (putL1 (23, [48, 48, 48, 49, 48, 49, 48, 48, 48, 48, 48, 48, 90]) ++ putL1 (23, [52, 57, 49, 50, 51, 49, 50, 51, 53, 57, 53, 57, 90])))) ++ putL1 (48, putL1 (49, putL1 (48, (putL1 (6, [85, 4, 3]) ++ putL1 (12, s.data.toList)))))) ++ infoL lN lE)) : List UInt8).toArray⟩ ∧ IsBytes Wa85 (.slice ya80 ka80 ca80) ⟨(kindL 11 : List UInt8).toArray⟩ ∧ IsBytes Wa85 (.slice ya83 ka83 ca83) ⟨((putL1 (48, ((((((putL1 (160, putL1 (2, numL [2])) ++ putL1 (2, numL [1])) ++ kindL 11) ++ putL1 (48, putL1 (49, putL1 (48, (putL1 (6, [85, 4, 3]) ++ putL1 (12, s.data.toList)))))) ++ putL1 (48, (putL1 (23, [48, 48, 48, 49, 48, 49, 48, 48, 48, 48, 48, 48, 90]) ++ putL1 (23, [52, 57, 49, 50, 51, 49, 50, 51, 53, 57, 53, 57, 90])))) ++ putL1 (48, putL1 (49, putL1 (48, (putL1 (6, [85, 4, 3]) ++ putL1 (12, s.data.toList)))))) ++ infoL lN lE)) ++ kindL 11) : List UInt8).toArray⟩ ∧ IsBytes Wa85 (.slice (some ⟨wa83.heap.size, 0, none⟩) 1 1) ⟨([0] : List UInt8).toArray⟩ ∧ Below W1.heap.size W1 Wa85) from ⟨HCa84.out.1.later ba85, HCa84.out.2.1.later ba85, HCa84.out.2.2.1.later ba85, ia85, bl2 HCa84.out.2.2.2 ba85⟩
  clear HCa84
  clear ba85 ia85
  have ybt : Hid (([0] : List UInt8).length ≤ 1) := by show ([0] : List UInt8).length ≤ 1; simp only [List.length_cons, List.length_nil]; omega
  have zbt : Hid ((putL1 (3, [0])).length ≤ 5) := Nat.le_trans (putL1_up (3, [0]) (Nat.lt_of_le_of_lt ybt.out (by decide))) (Nat.add_le_add_right ybt.out 4)
  have hca88 := show Calls Try.prog 7 #[.int .u8 3, .slice (some ⟨wa83.heap.size, 0, none⟩) 1 1] Wa85 (Gives Wa85 (putL1 (3, [0]))) from rxPutV 3 ([0]) (.slice (some ⟨wa83.heap.size, 0, none⟩) 1 1) Wa85 HCa86.out.2.2.2.1 (Nat.le_trans ybt.out (by decide))
  go_wp2_with fail
  refine hca88.mono ?_
  rintro e wa88 ⟨⟨va88, rfl, ia88⟩, ba88⟩
  clear hca88 hWa85
  obtain ⟨ya88, ka88, ca88, rfl⟩ := isb_open ia88
  have HCa89 := show Hid (IsBytes wa88 (.slice ya77 ka77 ca77) ⟨(putL1 (48, ((((((putL1 (160, putL1 (2, numL [2])) ++ putL1 (2, numL [1])) ++ kindL 11) ++ putL1 (48, putL1 (49, putL1 (48, (putL1 (6, [85, 4, 3]) ++ putL1 (12, s.data.toList)))))) ++ putL1 (48, (putL1 (23, [48, 48, 48, 49, 48, 49, 48, 48, 48, 48, 48, 48, 90]) ++ putL1 (23, [52, 57, 49, 50, 51, 49, 50, 51, 53, 57, 53, 57, 90])))) ++ putL1 (48, putL1 (49, putL1 (48, (putL1 (6, [85, 4, 3]) ++ putL1 (12, s.data.toList)))))) ++ infoL lN lE)) : List UInt8).toArray⟩ ∧ IsBytes wa88 (.slice ya80 ka80 ca80) ⟨(kindL 11 : List UInt8).toArray⟩ ∧ IsBytes wa88 (.slice ya83 ka83 ca83) ⟨((putL1 (48, ((((((putL1 (160, putL1 (2, numL [2])) ++ putL1 (2, numL [1])) ++ kindL 11) ++ putL1 (48, putL1 (49, putL1 (48, (putL1 (6, [85, 4, 3]) ++ putL1 (12, s.data.toList)))))) ++ putL1 (48, (putL1 (23, [48, 48, 48, 49, 48, 49, 48, 48, 48, 48, 48, 48, 90]) ++ putL1 (23, [52, 57, 49, 50, 51, 49, 50, 51, 53, 57, 53, 57, 90])))) ++ putL1 (48, putL1 (49, putL1 (48, (putL1 (6, [85, 4, 3]) ++ putL1 (12, s.data.toList)))))) ++ infoL lN lE)) ++ kindL 11) : List UInt8).toArray⟩ ∧ IsBytes wa88 (.slice (some ⟨wa83.heap.size, 0, none⟩) 1 1) ⟨([0] : List UInt8).toArray⟩ ∧ IsBytes wa88 (.slice ya88 ka88 ca88) ⟨(putL1 (3, [0]) : List UInt8).toArray⟩ ∧ Below W1.heap.size W1 wa88) from ⟨HCa86.out.1.later ba88, HCa86.out.2.1.later ba88, HCa86.out.2.2.1.later ba88, HCa86.out.2.2.2.1.later ba88, ia88, bl2 HCa86.out.2.2.2.2 ba88⟩
  clear HCa86
  clear ba88 ia88
  clear ybt
  have zj : Hid ((((putL1 (48, ((((((putL1 (160, putL1 (2, numL [2])) ++ putL1 (2, numL [1])) ++ kindL 11) ++ putL1 (48, putL1 (49, putL1 (48, (putL1 (6, [85, 4, 3]) ++ putL1 (12, s.data.toList)))))) ++ putL1 (48, (putL1 (23, [48, 48, 48, 49, 48, 49, 48, 48, 48, 48, 48, 48, 90]) ++ putL1 (23, [52, 57, 49, 50, 51, 49, 50, 51, 53, 57, 53, 57, 90])))) ++ putL1 (48, putL1 (49, putL1 (48, (putL1 (6, [85, 4, 3]) ++ putL1 (12, s.data.toList)))))) ++ infoL lN lE)) ++ kindL 11) ++ putL1 (3, [0])) : List UInt8).length ≤ 21547) := by have := zh.out; have := zbt.out; show (((putL1 (48, ((((((putL1 (160, putL1 (2, numL [2])) ++ putL1 (2, numL [1])) ++ kindL 11) ++ putL1 (48, putL1 (49, putL1 (48, (putL1 (6, [85, 4, 3]) ++ putL1 (12, s.data.toList)))))) ++ putL1 (48, (putL1 (23, [48, 48, 48, 49, 48, 49, 48, 48, 48, 48, 48, 48, 90]) ++ putL1 (23, [52, 57, 49, 50, 51, 49, 50, 51, 53, 57, 53, 57, 90])))) ++ putL1 (48, putL1 (49, putL1 (48, (putL1 (6, [85, 4, 3]) ++ putL1 (12, s.data.toList)))))) ++ infoL lN lE)) ++ kindL 11) ++ putL1 (3, [0])) : List UInt8).length ≤ 21547; rw [List.length_append]; omega
  have hca91 := show Calls Try.prog 33 #[.slice ya83 ka83 ca83, .slice ya88 ka88 ca88] wa88 (Gives wa88 ((putL1 (48, ((((((putL1 (160, putL1 (2, numL [2])) ++ putL1 (2, numL [1])) ++ kindL 11) ++ putL1 (48, putL1 (49, putL1 (48, (putL1 (6, [85, 4, 3]) ++ putL1 (12, s.data.toList)))))) ++ putL1 (48, (putL1 (23, [48, 48, 48, 49, 48, 49, 48, 48, 48, 48, 48, 48, 90]) ++ putL1 (23, [52, 57, 49, 50, 51, 49, 50, 51, 53, 57, 53, 57, 90])))) ++ putL1 (48, putL1 (49, putL1 (48, (putL1 (6, [85, 4, 3]) ++ putL1 (12, s.data.toList)))))) ++ infoL lN lE)) ++ kindL 11) ++ putL1 (3, [0]))) from rxCatV (.slice ya83 ka83 ca83) (.slice ya88 ka88 ca88) ((putL1 (48, ((((((putL1 (160, putL1 (2, numL [2])) ++ putL1 (2, numL [1])) ++ kindL 11) ++ putL1 (48, putL1 (49, putL1 (48, (putL1 (6, [85, 4, 3]) ++ putL1 (12, s.data.toList)))))) ++ putL1 (48, (putL1 (23, [48, 48, 48, 49, 48, 49, 48, 48, 48, 48, 48, 48, 90]) ++ putL1 (23, [52, 57, 49, 50, 51, 49, 50, 51, 53, 57, 53, 57, 90])))) ++ putL1 (48, putL1 (49, putL1 (48, (putL1 (6, [85, 4, 3]) ++ putL1 (12, s.data.toList)))))) ++ infoL lN lE)) ++ kindL 11)) (putL1 (3, [0])) wa88 HCa89.out.2.2.1 HCa89.out.2.2.2.2.1 (by rw [← List.length_append]; exact Nat.le_trans zj.out (by decide))
  go_wp2_with fail
  refine hca91.mono ?_
  rintro e wa91 ⟨⟨va91, rfl, ia91⟩, ba91⟩
  clear hca91
  obtain ⟨ya91, ka91, ca91, rfl⟩ := isb_open ia91
  have HCa92 := show Hid (IsBytes wa91 (.slice ya77 ka77 ca77) ⟨(putL1 (48, ((((((putL1 (160, putL1 (2, numL [2])) ++ putL1 (2, numL [1])) ++ kindL 11) ++ putL1 (48, putL1 (49, putL1 (48, (putL1 (6, [85, 4, 3]) ++ putL1 (12, s.data.toList)))))) ++ putL1 (48, (putL1 (23, [48, 48, 48, 49, 48, 49, 48, 48, 48, 48, 48, 48, 90]) ++ putL1 (23, [52, 57, 49, 50, 51, 49, 50, 51, 53, 57, 53, 57, 90])))) ++ putL1 (48, putL1 (49, putL1 (48, (putL1 (6, [85, 4, 3]) ++ putL1 (12, s.data.toList)))))) ++ infoL lN lE)) : List UInt8).toArray⟩ ∧ IsBytes wa91 (.slice ya80 ka80 ca80) ⟨(kindL 11 : List UInt8).toArray⟩ ∧ IsBytes wa91 (.slice ya83 ka83 ca83) ⟨((putL1 (48, ((((((putL1 (160, putL1 (2, numL [2])) ++ putL1 (2, numL [1])) ++ kindL 11) ++ putL1 (48, putL1 (49, putL1 (48, (putL1 (6, [85, 4, 3]) ++ putL1 (12, s.data.toList)))))) ++ putL1 (48, (putL1 (23, [48, 48, 48, 49, 48, 49, 48, 48, 48, 48, 48, 48, 90]) ++ putL1 (23, [52, 57, 49, 50, 51, 49, 50, 51, 53, 57, 53, 57, 90])))) ++ putL1 (48, putL1 (49, putL1 (48, (putL1 (6, [85, 4, 3]) ++ putL1 (12, s.data.toList)))))) ++ infoL lN lE)) ++ kindL 11) : List UInt8).toArray⟩ ∧ IsBytes wa91 (.slice (some ⟨wa83.heap.size, 0, none⟩) 1 1) ⟨([0] : List UInt8).toArray⟩ ∧ IsBytes wa91 (.slice ya88 ka88 ca88) ⟨(putL1 (3, [0]) : List UInt8).toArray⟩ ∧ IsBytes wa91 (.slice ya91 ka91 ca91) ⟨(((putL1 (48, ((((((putL1 (160, putL1 (2, numL [2])) ++ putL1 (2, numL [1])) ++ kindL 11) ++ putL1 (48, putL1 (49, putL1 (48, (putL1 (6, [85, 4, 3]) ++ putL1 (12, s.data.toList)))))) ++ putL1 (48, (putL1 (23, [48, 48, 48, 49, 48, 49, 48, 48, 48, 48, 48, 48, 90]) ++ putL1 (23, [52, 57, 49, 50, 51, 49, 50, 51, 53, 57, 53, 57, 90])))) ++ putL1 (48, putL1 (49, putL1 (48, (putL1 (6, [85, 4, 3]) ++ putL1 (12, s.data.toList)))))) ++ infoL lN lE)) ++ kindL 11) ++ putL1 (3, [0])) : List UInt8).toArray⟩ ∧ Below W1.heap.size W1 wa91) from ⟨HCa89.out.1.later ba91, HCa89.out.2.1.later ba91, HCa89.out.2.2.1.later ba91, HCa89.out.2.2.2.1.later ba91, HCa89.out.2.2.2.2.1.later ba91, ia91, bl2 HCa89.out.2.2.2.2.2 ba91⟩
  clear HCa89
  clear ba91 ia91
  have yr : Hid ((((putL1 (48, ((((((putL1 (160, putL1 (2, numL [2])) ++ putL1 (2, numL [1])) ++ kindL 11) ++ putL1 (48, putL1 (49, putL1 (48, (putL1 (6, [85, 4, 3]) ++ putL1 (12, s.data.toList)))))) ++ putL1 (48, (putL1 (23, [48, 48, 48, 49, 48, 49, 48, 48, 48, 48, 48, 48, 90]) ++ putL1 (23, [52, 57, 49, 50, 51, 49, 50, 51, 53, 57, 53, 57, 90])))) ++ putL1 (48, putL1 (49, putL1 (48, (putL1 (6, [85, 4, 3]) ++ putL1 (12, s.data.toList)))))) ++ infoL lN lE)) ++ kindL 11) ++ putL1 (3, [0])) : List UInt8).length ≤ 21547) := by have := zj.out; show (((putL1 (48, ((((((putL1 (160, putL1 (2, numL [2])) ++ putL1 (2, numL [1])) ++ kindL 11) ++ putL1 (48, putL1 (49, putL1 (48, (putL1 (6, [85, 4, 3]) ++ putL1 (12, s.data.toList)))))) ++ putL1 (48, (putL1 (23, [48, 48, 48, 49, 48, 49, 48, 48, 48, 48, 48, 48, 90]) ++ putL1 (23, [52, 57, 49, 50, 51, 49, 50, 51, 53, 57, 53, 57, 90])))) ++ putL1 (48, putL1 (49, putL1 (48, (putL1 (6, [85, 4, 3]) ++ putL1 (12, s.data.toList)))))) ++ infoL lN lE)) ++ kindL 11) ++ putL1 (3, [0])) : List UInt8).length ≤ 21547; omega
  have zr : Hid ((putL1 (48, ((putL1 (48, ((((((putL1 (160, putL1 (2, numL [2])) ++ putL1 (2, numL [1])) ++ kindL 11) ++ putL1 (48, putL1 (49, putL1 (48, (putL1 (6, [85, 4, 3]) ++ putL1 (12, s.data.toList)))))) ++ putL1 (48, (putL1 (23, [48, 48, 48, 49, 48, 49, 48, 48, 48, 48, 48, 48, 90]) ++ putL1 (23, [52, 57, 49, 50, 51, 49, 50, 51, 53, 57, 53, 57, 90])))) ++ putL1 (48, putL1 (49, putL1 (48, (putL1 (6, [85, 4, 3]) ++ putL1 (12, s.data.toList)))))) ++ infoL lN lE)) ++ kindL 11) ++ putL1 (3, [0])))).length ≤ 21551) := Nat.le_trans (putL1_up (48, ((putL1 (48, ((((((putL1 (160, putL1 (2, numL [2])) ++ putL1 (2, numL [1])) ++ kindL 11) ++ putL1 (48, putL1 (49, putL1 (48, (putL1 (6, [85, 4, 3]) ++ putL1 (12, s.data.toList)))))) ++ putL1 (48, (putL1 (23, [48, 48, 48, 49, 48, 49, 48, 48, 48, 48, 48, 48, 90]) ++ putL1 (23, [52, 57, 49, 50, 51, 49, 50, 51, 53, 57, 53, 57, 90])))) ++ putL1 (48, putL1 (49, putL1 (48, (putL1 (6, [85, 4, 3]) ++ putL1 (12, s.data.toList)))))) ++ infoL lN lE)) ++ kindL 11) ++ putL1 (3, [0]))) (Nat.lt_of_le_of_lt yr.out (by decide))) (Nat.add_le_add_right yr.out 4)
  have hca94 := show Calls Try.prog 7 #[.int .u8 48, .slice ya91 ka91 ca91] wa91 (Gives wa91 (putL1 (48, ((putL1 (48, ((((((putL1 (160, putL1 (2, numL [2])) ++ putL1 (2, numL [1])) ++ kindL 11) ++ putL1 (48, putL1 (49, putL1 (48, (putL1 (6, [85, 4, 3]) ++ putL1 (12, s.data.toList)))))) ++ putL1 (48, (putL1 (23, [48, 48, 48, 49, 48, 49, 48, 48, 48, 48, 48, 48, 90]) ++ putL1 (23, [52, 57, 49, 50, 51, 49, 50, 51, 53, 57, 53, 57, 90])))) ++ putL1 (48, putL1 (49, putL1 (48, (putL1 (6, [85, 4, 3]) ++ putL1 (12, s.data.toList)))))) ++ infoL lN lE)) ++ kindL 11) ++ putL1 (3, [0]))))) from rxPutV 48 (((putL1 (48, ((((((putL1 (160, putL1 (2, numL [2])) ++ putL1 (2, numL [1])) ++ kindL 11) ++ putL1 (48, putL1 (49, putL1 (48, (putL1 (6, [85, 4, 3]) ++ putL1 (12, s.data.toList)))))) ++ putL1 (48, (putL1 (23, [48, 48, 48, 49, 48, 49, 48, 48, 48, 48, 48, 48, 90]) ++ putL1 (23, [52, 57, 49, 50, 51, 49, 50, 51, 53, 57, 53, 57, 90])))) ++ putL1 (48, putL1 (49, putL1 (48, (putL1 (6, [85, 4, 3]) ++ putL1 (12, s.data.toList)))))) ++ infoL lN lE)) ++ kindL 11) ++ putL1 (3, [0]))) (.slice ya91 ka91 ca91) wa91 HCa92.out.2.2.2.2.2.1 (Nat.le_trans yr.out (by decide))
  go_wp2_with fail
  refine hca94.mono ?_
  rintro e wa94 ⟨⟨va94, rfl, ia94⟩, ba94⟩
  clear hca94
  obtain ⟨ya94, ka94, ca94, rfl⟩ := isb_open ia94
  have HCa95 := show Hid (IsBytes wa94 (.slice ya77 ka77 ca77) ⟨(putL1 (48, ((((((putL1 (160, putL1 (2, numL [2])) ++ putL1 (2, numL [1])) ++ kindL 11) ++ putL1 (48, putL1 (49, putL1 (48, (putL1 (6, [85, 4, 3]) ++ putL1 (12, s.data.toList)))))) ++ putL1 (48, (putL1 (23, [48, 48, 48, 49, 48, 49, 48, 48, 48, 48, 48, 48, 90]) ++ putL1 (23, [52, 57, 49, 50, 51, 49, 50, 51, 53, 57, 53, 57, 90])))) ++ putL1 (48, putL1 (49, putL1 (48, (putL1 (6, [85, 4, 3]) ++ putL1 (12, s.data.toList)))))) ++ infoL lN lE)) : List UInt8).toArray⟩ ∧ IsBytes wa94 (.slice ya80 ka80 ca80) ⟨(kindL 11 : List UInt8).toArray⟩ ∧ IsBytes wa94 (.slice ya83 ka83 ca83) ⟨((putL1 (48, ((((((putL1 (160, putL1 (2, numL [2])) ++ putL1 (2, numL [1])) ++ kindL 11) ++ putL1 (48, putL1 (49, putL1 (48, (putL1 (6, [85, 4, 3]) ++ putL1 (12, s.data.toList)))))) ++ putL1 (48, (putL1 (23, [48, 48, 48, 49, 48, 49, 48, 48, 48, 48, 48, 48, 90]) ++ putL1 (23, [52, 57, 49, 50, 51, 49, 50, 51, 53, 57, 53, 57, 90])))) ++ putL1 (48, putL1 (49, putL1 (48, (putL1 (6, [85, 4, 3]) ++ putL1 (12, s.data.toList)))))) ++ infoL lN lE)) ++ kindL 11) : List UInt8).toArray⟩ ∧ IsBytes wa94 (.slice (some ⟨wa83.heap.size, 0, none⟩) 1 1) ⟨([0] : List UInt8).toArray⟩ ∧ IsBytes wa94 (.slice ya88 ka88 ca88) ⟨(putL1 (3, [0]) : List UInt8).toArray⟩ ∧ IsBytes wa94 (.slice ya91 ka91 ca91) ⟨(((putL1 (48, ((((((putL1 (160, putL1 (2, numL [2])) ++ putL1 (2, numL [1])) ++ kindL 11) ++ putL1 (48, putL1 (49, putL1 (48, (putL1 (6, [85, 4, 3]) ++ putL1 (12, s.data.toList)))))) ++ putL1 (48, (putL1 (23, [48, 48, 48, 49, 48, 49, 48, 48, 48, 48, 48, 48, 90]) ++ putL1 (23, [52, 57, 49, 50, 51, 49, 50, 51, 53, 57, 53, 57, 90])))) ++ putL1 (48, putL1 (49, putL1 (48, (putL1 (6, [85, 4, 3]) ++ putL1 (12, s.data.toList)))))) ++ infoL lN lE)) ++ kindL 11) ++ putL1 (3, [0])) : List UInt8).toArray⟩ ∧ IsBytes wa94 (.slice ya94 ka94 ca94) ⟨(putL1 (48, ((putL1 (48, ((((((putL1 (160, putL1 (2, numL [2])) ++ putL1 (2, numL [1])) ++ kindL 11) ++ putL1 (48, putL1 (49, putL1 (48, (putL1 (6, [85, 4, 3]) ++ putL1 (12, s.data.toList)))))) ++ putL1 (48, (putL1 (23, [48, 48, 48, 49, 48, 49, 48, 48, 48, 48, 48, 48, 90]) ++ putL1 (23, [52, 57, 49, 50, 51, 49, 50, 51, 53, 57, 53, 57, 90])))) ++ putL1 (48, putL1 (49, putL1 (48, (putL1 (6, [85, 4, 3]) ++ putL1 (12, s.data.toList)))))) ++ infoL lN lE)) ++ kindL 11) ++ putL1 (3, [0]))) : List UInt8).toArray⟩ ∧ Below W1.heap.size W1 wa94) from ⟨HCa92.out.1.later ba94, HCa92.out.2.1.later ba94, HCa92.out.2.2.1.later ba94, HCa92.out.2.2.2.1.later ba94, HCa92.out.2.2.2.2.1.later ba94, HCa92.out.2.2.2.2.2.1.later ba94, ia94, bl2 HCa92.out.2.2.2.2.2.2 ba94⟩
  clear HCa92
  clear ba94 ia94
  clear yr
  go_wp2_with fail
  go_ret
  exact ⟨⟨_, rfl, HCa95.out.2.2.2.2.2.2.1⟩, bl2 HK.out.1.below HCa95.out.2.2.2.2.2.2.2⟩
end Go.Proofs.Ythdoginhbhdmbaa
