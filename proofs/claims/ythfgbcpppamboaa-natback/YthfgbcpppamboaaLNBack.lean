/-
  NatBack, walked.
-/
import Derived.Test.YthfgbcpppamboaaLNDivs
namespace Go.Proofs.Ythfgbcpppamboaa
open Go.RowKit Ch
set_option maxRecDepth 100000

def semLnB (x z4 : Option Addr) (cx k4 A : Nat) (s S4 : ByteArray) : Nat → Value → World → Prop := fun ix v u => match ix with
  | 0 => v = .int .i64 0
  | 1 => v = .bool true
  | 2 => v = .bool true
  | 3 => v = .slice z4 S4.size k4
  | 4 => v = .string S4
  | 5 => v = .slice x s.size cx
  | 6 => NumAt u v S4 A ∧ ∃ y c, v = .slice y S4.size c
  | 7 => v = .string S4
  | 8 => v = .bool true
  | 9 => v = .bool true
  | 10 => v = .bool true
  | _ => True
set_option maxHeartbeats 8000000 in
theorem lnBack_any (x : Option Addr) (cx : Nat) (s : ByteArray) (y : Option Addr) (cy : Nat) (t : ByteArray) (w : World) (hS : IsBytes w (.slice x s.size cx) s) (hT : IsBytes w (.slice y t.size cy) t) :
    Calls Try.prog 5 #[.slice x s.size cx, .slice y t.size cy] w fun e w' => e = .returned (.bool true) ∧ Below w.heap.size w w' := by
  have HU := show Hid (∀ u, Below w.heap.size w u → IsBytes u (.slice x s.size cx) s ∧ IsBytes u (.slice y t.size cy) t ∧ Below w.heap.size w u) from fun u hu => ⟨hS.later hu, hT.later hu, hu⟩
  clear hS hT
  go_enter Try.func5, Try.ntmps5
  by_cases hg0 : 1024 < s.size
  · have hi0 : (1024 : Int) < (s.size : Int) := by omega
    clear HU
    go_wp2_with fail
    refine (lnAwake_any w).mono ?_
    rintro e w1 ⟨rfl, hb1⟩
    go_wp2_with fail
    refine (lnAwake_any w1).mono ?_
    rintro e w2 ⟨rfl, hb2⟩
    have HF := show Hid (Below w.heap.size w w2) from bl2 hb1 hb2
    clear hb1 hb2
    go_wp2_with fail
    go_ret
    exact ⟨rfl, HF.out⟩
  have hi0 : ¬ (1024 : Int) < (s.size : Int) := by omega
  by_cases hg1 : 1024 < t.size
  · have hi1 : (1024 : Int) < (t.size : Int) := by omega
    clear HU
    go_wp2_with fail
    refine (lnAwake_any w).mono ?_
    rintro e w1 ⟨rfl, hb1⟩
    go_wp2_with fail
    refine (lnAwake_any w1).mono ?_
    rintro e w2 ⟨rfl, hb2⟩
    have HF := show Hid (Below w.heap.size w w2) from bl2 hb1 hb2
    clear hb1 hb2
    go_wp2_with fail
    go_ret
    exact ⟨rfl, HF.out⟩
  have hi1 : ¬ (1024 : Int) < (t.size : Int) := by omega
  have hs1 : s.size ≤ 1024 := by omega
  have ht1 : t.size ≤ 1024 := by omega
  obtain ⟨A, hA⟩ : ∃ A, numB s.data.toList = A := ⟨_, rfl⟩
  obtain ⟨B, hB⟩ : ∃ A, numB t.data.toList = A := ⟨_, rfl⟩
  have HA := show Hid (numB s.data.toList = A) from hA
  have HB := show Hid (numB t.data.toList = B) from hB
  have hAl := numS_lt s
  rw [hA] at hAl
  have HAl := show Hid (A < 256 ^ s.size) from hAl
  clear hA hB hAl
  go_wp2_with fail
  refine (lnAwake_any w).mono ?_
  rintro e w1 ⟨rfl, hb1⟩
  have hO1 := digOf y cy t w1 (HU.out w1 hb1).2.1 (by omega)
  rw [HB.out] at hO1
  go_wp2_with fail
  refine hO1.mono ?_
  rintro e w2 ⟨⟨va, rfl, hva⟩, hb2⟩
  clear hO1
  have hb12 := bl2 hb1 hb2
  obtain ⟨y5, l5, c5, rfl, hl5, _⟩ := id hva.shape
  clear hva hb1 hb2
  by_cases hB0 : B = 0
  · have hl0 : l5 = 0 := hl5.2 hB0
    subst hl0
    clear hl5 hB0
    go_wp2_with fail
    refine (lnAwake_any w2).mono ?_
    rintro e w3 ⟨rfl, hb3⟩
    have HF := show Hid (Below w.heap.size w w3) from bl2 hb12 hb3
    clear hb12 hb3 HU
    go_wp2_with fail
    go_ret
    exact ⟨rfl, HF.out⟩
  · have hl0 : ((l5 : Int) == 0) = false := by
      have : l5 ≠ 0 := fun h => hB0 (hl5.1 h)
      exact beq_eq_false_iff_ne.2 (by omega)
    have hN := nDiv_any x y cx cy s t w2 (HU.out w2 hb12).1 (HU.out w2 hb12).2.1 hs1 ht1 (by rw [HB.out]; exact hB0)
    rw [HA.out, HB.out] at hN
    clear hl5
    go_wp2_with fail
    refine hN.mono ?_
    intro e w3 hd
    obtain ⟨S1, z1, k1, S2, z2, k2, rfl, n1, n2, hb3⟩ := divOk_ex hd
    clear hN hd
    have hb13 := bl2 hb12 hb3
    have hz1 : S1.size ≤ 1024 := Nat.le_trans (numS_len n1.2 (Nat.lt_of_le_of_lt (Nat.div_le_self _ _) HAl.out)) hs1
    have hz2 : S2.size ≤ 1024 := Nat.le_trans (numS_len n2.2 (Nat.lt_of_le_of_lt (Nat.mod_le _ _) HAl.out)) hs1
    have hM := nMulS z1 y k1 cy S1 t w3 n1.1 (HU.out w3 hb13).2.1 hz1 ht1
    rw [n1.2.2, HB.out] at hM
    go_wp2_with fail
    refine hM.mono ?_
    rintro e w4 ⟨S3, z3, k3, rfl, n3, hb4⟩
    clear hM
    have hz3 : S3.size ≤ 1024 := Nat.le_trans (numS_len n3.2 (Nat.lt_of_le_of_lt (Nat.div_mul_le_self _ _) HAl.out)) hs1
    have n24 := n2.later hb4
    have hb14 := bl2 hb13 hb4
    have hC := nCmpS z2 y k2 cy S2 t w4 n24.1 (HU.out w4 hb14).2.1 (by omega) (by omega)
    rw [n24.2.2, HB.out] at hC
    have hcm : cmpN (A % B) B = -1 := by unfold cmpN; rw [if_pos (Nat.mod_lt _ (Nat.pos_of_ne_zero hB0))]
    rw [hcm] at hC
    have hz3I : ¬ (1024 : Int) < (S3.size : Int) := by omega
    have hAd := nAddS z3 z2 k3 k2 S3 S2 w4 n3.1 n24.1 hz3 hz2
    rw [n3.2.2, n24.2.2, show A / B * B + A % B = A by rw [Nat.mul_comm]; exact Nat.div_add_mod A B] at hAd
    clear n1 n2 n3 n24 hb3 hb4 hb12 hb13 hcm hz1 hz2
    go_wp2_with fail
    refine hC.mono ?_
    rintro e w5 ⟨rfl, rfl⟩
    clear hC
    go_wp2_with fail
    refine hAd.mono ?_
    rintro e w6 ⟨S4, z4, k4, rfl, n4, hb6⟩
    clear hAd
    have hb16 := bl2 hb14 hb6
    have HF := show Hid (∀ u, Below w6.drew.heap.size w6.drew u → Below w.heap.size w u) from fun u hu => below_drew hb16 hu
    have HU2 := show Hid (∀ u, Below w6.drew.heap.size w6.drew u → IsBytes u (.slice x s.size cx) s ∧ IsBytes u (.slice z4 S4.size k4) S4 ∧ bareL S4.data.toList = S4.data.toList ∧ numB S4.data.toList = A) from fun u hu => ⟨(HU.out u (below_drew hb16 hu)).1, n4.1.later (below_drew (Below.refl _ _) hu), n4.2⟩
    have tS : (S4.toList == S4.toList) = true := by simp
    clear n4 hb14 hb6 hb16 hz3 hz3I HU
    have HU := HU2
    clear HU2
    go_wp2_with fail
    refine free_walk (Sem := semLnB x z4 cx k4 A s S4) rfl (n := 75) (by kernel_rfl) rfl (by kernel_rfl) ?_ ?_ ?_
    · intro ix v u u' h hb
      match ix, h with
      | 0, h => exact h
      | 1, h => exact h
      | 2, h => exact h
      | 3, h => exact h
      | 4, h => exact h
      | 5, h => exact h
      | 6, h => exact ⟨NumAt.later h.1 hb, h.2⟩
      | 7, h => exact h
      | 8, h => exact h
      | 9, h => exact h
      | 10, h => exact h
      | _ + 11, _ => exact trivial
    · intro ix o a u ho hF hbu
      match ix, ho, hF with
      | 0, ho, hF =>
        obtain rfl := Option.some.inj ho
        have h11 : a.tmps[11]? = some (.int .i64 0) := (hF.out 11 rfl).trans rfl
        refine free_step rfl (by rfl) (fun K' hK => ?_)
        go_simp
        exact hK.out _ _ rfl (Below.refl _ _)
      | 1, ho, hF =>
        obtain rfl := Option.some.inj ho
        obtain ⟨v65, h65, s65⟩ := hF.dep 0 65 rfl rfl
        obtain rfl : v65 = .int .i64 0 := s65
        refine free_step rfl (by rfl) (fun K' hK => ?_)
        go_simp
        exact hK.out _ _ rfl (Below.refl _ _)
      | 2, ho, hF =>
        obtain rfl := Option.some.inj ho
        obtain ⟨v66, h66, s66⟩ := hF.dep 1 66 rfl rfl
        obtain rfl : v66 = .bool true := s66
        refine free_step rfl (by rfl) (fun K' hK => ?_)
        go_simp
        exact hK.out _ _ rfl (Below.refl _ _)
      | 3, ho, hF =>
        obtain rfl := Option.some.inj ho
        have h10 : a.tmps[10]? = some (.slice z4 S4.size k4) := (hF.out 10 rfl).trans rfl
        obtain ⟨v67, h67, s67⟩ := hF.dep 2 67 rfl rfl
        obtain rfl : v67 = .bool true := s67
        refine free_step rfl (by show (yielded _ a.tmps 2 == some true) = true; unfold yielded; simp [h67]) (fun K' hK => ?_)
        go_simp
        exact hK.out _ _ rfl (Below.refl _ _)
      | 4, ho, hF =>
        obtain rfl := Option.some.inj ho
        obtain ⟨v68, h68, s68⟩ := hF.dep 3 68 rfl rfl
        obtain rfl : v68 = .slice z4 S4.size k4 := s68
        obtain ⟨v67, h67, s67⟩ := hF.dep 2 67 rfl rfl
        obtain rfl : v67 = .bool true := s67
        have hcv := IsBytes.convert (HU.out u hbu).2.1
        refine free_step rfl (by show (yielded _ a.tmps 2 == some true) = true; unfold yielded; simp [h67]) (fun K' hK => ?_)
        go_simp
        exact hK.out _ _ rfl (Below.refl _ _)
      | 5, ho, hF =>
        obtain rfl := Option.some.inj ho
        have h0 : a.tmps[0]? = some (.slice x s.size cx) := (hF.out 0 rfl).trans rfl
        obtain ⟨v67, h67, s67⟩ := hF.dep 2 67 rfl rfl
        obtain rfl : v67 = .bool true := s67
        refine free_step rfl (by show (yielded _ a.tmps 2 == some true) = true; unfold yielded; simp [h67]) (fun K' hK => ?_)
        go_simp
        exact hK.out _ _ rfl (Below.refl _ _)
      | 6, ho, hF =>
        obtain rfl := Option.some.inj ho
        obtain ⟨v70, h70, s70⟩ := hF.dep 5 70 rfl rfl
        obtain rfl : v70 = .slice x s.size cx := s70
        obtain ⟨v67, h67, s67⟩ := hF.dep 2 67 rfl rfl
        obtain rfl : v67 = .bool true := s67
        refine free_step rfl (by show (yielded _ a.tmps 2 == some true) = true; unfold yielded; simp [h67]) (fun K' hK => ?_)
        go_wp2_with fail
        refine (nTrimS x cx s u (HU.out u hbu).1 (by omega)).mono ?_
        rintro e u' ⟨S, y9, c9, rfl, hn, hb⟩
        obtain rfl : S = S4 := numS_inj (hn.2.1.trans rfl |> fun h => ⟨h, hn.2.2.trans HA.out⟩) (HU.out u hbu).2.2
        rw [HA.out] at hn
        go_simp
        exact hK.out _ _ ⟨hn, _, _, rfl⟩ hb
      | 7, ho, hF =>
        obtain rfl := Option.some.inj ho
        obtain ⟨v71, h71, s71⟩ := hF.dep 6 71 rfl rfl
        replace s71 : NumAt u v71 S4 A ∧ ∃ y c, v71 = .slice y S4.size c := s71
        obtain ⟨v67, h67, s67⟩ := hF.dep 2 67 rfl rfl
        obtain rfl : v67 = .bool true := s67
        obtain ⟨hn7, y7, c7, rfl⟩ := s71
        have hcv := IsBytes.convert hn7.1
        refine free_step rfl (by show (yielded _ a.tmps 2 == some true) = true; unfold yielded; simp [h67]) (fun K' hK => ?_)
        go_simp
        exact hK.out _ _ rfl (Below.refl _ _)
      | 8, ho, hF =>
        obtain rfl := Option.some.inj ho
        obtain ⟨v69, h69, s69⟩ := hF.dep 4 69 rfl rfl
        obtain rfl : v69 = .string S4 := s69
        obtain ⟨v72, h72, s72⟩ := hF.dep 7 72 rfl rfl
        obtain rfl : v72 = .string S4 := s72
        obtain ⟨v67, h67, s67⟩ := hF.dep 2 67 rfl rfl
        obtain rfl : v67 = .bool true := s67
        refine free_step rfl (by show (yielded _ a.tmps 2 == some true) = true; unfold yielded; simp [h67]) (fun K' hK => ?_)
        go_simp
        exact hK.out _ _ rfl (Below.refl _ _)
      | 9, ho, hF =>
        obtain rfl := Option.some.inj ho
        obtain ⟨v67, h67, s67⟩ := hF.dep 2 67 rfl rfl
        obtain rfl : v67 = .bool true := s67
        obtain ⟨v73, h73, s73⟩ := hF.dep 8 73 rfl rfl
        obtain rfl : v73 = .bool true := s73
        refine free_step rfl (by rfl) (fun K' hK => ?_)
        go_simp
        exact hK.out _ _ rfl (Below.refl _ _)
      | 10, ho, hF =>
        obtain rfl := Option.some.inj ho
        obtain ⟨v74, h74, s74⟩ := hF.dep 9 74 rfl rfl
        obtain rfl : v74 = .bool true := s74
        refine free_step rfl (by rfl) (fun K' hK => ?_)
        go_simp
        exact hK.out _ _ rfl (Below.refl _ _)
      | n + 11, ho, _ => exact absurd (Array.getElem?_eq_some_iff.1 ho).1 (by show ¬ n + 11 < 11; omega)
    · intro vs u hS hbu
      have e10 : vs 10 = .bool true := hS 10 4 rfl
      simp only [putFrom, Act.put, List.setIfInBounds_toArray, List.set_cons_succ, List.set_cons_zero, Nat.reduceAdd]
      rw [e10]
      clear hS e10
      generalize vs 0 = z0
      generalize vs 1 = z1
      generalize vs 2 = z2
      generalize vs 3 = z3
      generalize vs 4 = z4
      generalize vs 5 = z5
      generalize vs 6 = z6
      generalize vs 7 = z7
      generalize vs 8 = z8
      generalize vs 9 = z9
      have HF2 := show Hid (Below w.heap.size w u) from HF.out u hbu
      clear hbu HF
      go_wp2_with fail
      go_ret
      exact ⟨rfl, HF2.out⟩
end Go.Proofs.Ythfgbcpppamboaa
