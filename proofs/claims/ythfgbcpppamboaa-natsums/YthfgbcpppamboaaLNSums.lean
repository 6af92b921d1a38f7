/-
  NatSums, walked.
-/
import Derived.Test.YthfgbcpppamboaaLNFact
namespace Go.Proofs.Ythfgbcpppamboaa
open Go.RowKit Ch
set_option maxRecDepth 100000

set_option maxHeartbeats 8000000 in
theorem lnSums_any (x y : Option Addr) (cx cy : Nat) (s t : ByteArray) (w : World) (hS : IsBytes w (.slice x s.size cx) s) (hT : IsBytes w (.slice y t.size cy) t) :
    Calls Try.prog 3 #[.slice x s.size cx, .slice y t.size cy] w fun e w' => e = .returned (.bool true) ∧ Below w.heap.size w w' := by
  have HU := show Hid (∀ u, Below w.heap.size w u → IsBytes u (.slice x s.size cx) s ∧ IsBytes u (.slice y t.size cy) t) from fun u hu => ⟨hS.later hu, hT.later hu⟩
  clear hS hT
  go_enter Try.func3, Try.ntmps3
  by_cases hg0 : 100 < s.size
  · have hi0 : (100 : Int) < (s.size : Int) := by omega
    clear HU
    go_wp2_with fail
    refine (lnAwake_any w).mono ?_
    rintro e w1 ⟨rfl, hb1⟩
    go_wp2_with fail
    refine (lnAwake_any w1).mono ?_
    rintro e w2 ⟨rfl, hb2⟩
    have HF := show Hid (Below w.heap.size w w2) from bl2 hb1 hb2
    clear hb1 hb2
    go_wp2_with fail
    go_ret
    exact ⟨rfl, HF.out⟩
  have hi0 : ¬ (100 : Int) < (s.size : Int) := by omega
  by_cases hg1 : 100 < t.size
  · have hi1 : (100 : Int) < (t.size : Int) := by omega
    clear HU
    go_wp2_with fail
    refine (lnAwake_any w).mono ?_
    rintro e w1 ⟨rfl, hb1⟩
    go_wp2_with fail
    refine (lnAwake_any w1).mono ?_
    rintro e w2 ⟨rfl, hb2⟩
    have HF := show Hid (Below w.heap.size w w2) from bl2 hb1 hb2
    clear hb1 hb2
    go_wp2_with fail
    go_ret
    exact ⟨rfl, HF.out⟩
  have hi1 : ¬ (100 : Int) < (t.size : Int) := by omega
  have hs1 : s.size ≤ 1024 := by omega
  have ht1 : t.size ≤ 1024 := by omega
  obtain ⟨A, hA⟩ : ∃ A, numB s.data.toList = A := ⟨_, rfl⟩
  obtain ⟨B, hB⟩ : ∃ A, numB t.data.toList = A := ⟨_, rfl⟩
  have HAB := show Hid (numB s.data.toList = A ∧ numB t.data.toList = B ∧ s.size ≤ 100 ∧ t.size ≤ 100) from ⟨hA, hB, by omega, by omega⟩
  clear hA hB
  go_wp2_with fail
  refine (lnAwake_any w).mono ?_
  rintro e w1 ⟨rfl, hb1⟩
  have H1 := HU.out w1 hb1
  go_wp2_with (at_builtin; first | (refine wpList_append_bytes rfl _ _ rfl w1.heap.size _ ByteArray.empty rfl (own_empty w1 _ (Nat.le_refl _)) _ s rfl (H1.1.alloc _) (by simp; omega) (by simp) ?_; intro v2 w2 ho2 hb2; obtain ⟨yp, cp, rfl, hp⟩ := own_copy ho2) | (refine wpList_append_bytes rfl _ _ rfl w2.heap.size _ ByteArray.empty rfl (own_empty w2 _ (Nat.le_refl _)) _ t rfl ((H1.2.later ((al w1 (.cells #[] 5)).trans hb2)).alloc _) (by simp; omega) (by simp) ?_; intro v3 w3 ho3 hb3; obtain ⟨yq, cq, rfl, hq⟩ := own_copy ho3))
  have HP := show Hid (∀ u, Below w3.heap.size w3 u → IsBytes u (.slice yp s.size cp) s ∧ IsBytes u (.slice yq t.size cq) t ∧ IsBytes u (.slice x s.size cx) s ∧ IsBytes u (.slice y t.size cy) t ∧ Below w.heap.size w u) from fun u hu => by
    have h23 : Below w2.heap.size w2 w3 := (al w2 _).trans hb3
    have h13 : Below w.heap.size w w3 := bl2 hb1 (bl2 ((al w1 _).trans hb2) h23)
    have h2 := HU.out u (bl2 h13 hu)
    exact ⟨hp.later (bl2 h23 hu), hq.later hu, h2.1, h2.2, bl2 h13 hu⟩
  clear HU H1 hb1 hb2 hb3 ho2 ho3 hp hq
  have hO1 := digOf x cx s w3 (HP.out w3 (Below.refl _ _)).2.2.1 (by omega)
  go_wp2_with fail
  refine hO1.mono ?_
  rintro e w4 ⟨⟨va, rfl, hva⟩, hb4⟩
  clear hO1
  have hO2 := digOf y cy t w4 (HP.out w4 hb4).2.2.2.1 (by omega)
  go_wp2_with fail
  refine hO2.mono ?_
  rintro e w5 ⟨⟨vb, rfl, hvb⟩, hb5⟩
  clear hO2
  rw [HAB.out.1] at hva
  rw [HAB.out.2.1] at hvb
  obtain ⟨y5, l5, c5, rfl, _, _⟩ := id hva.shape
  obtain ⟨y6, l6, c6, rfl, _, _⟩ := id hvb.shape
  have HD := show Hid (∀ u, Below w5.heap.size w5 u → IsD 100 u (.slice y5 l5 c5) A ∧ IsD 100 u (.slice y6 l6 c6) B ∧ IsBytes u (.slice yp s.size cp) s ∧ IsBytes u (.slice yq t.size cq) t ∧ IsBytes u (.slice x s.size cx) s ∧ IsBytes u (.slice y t.size cy) t ∧ Below w.heap.size w u) from fun u hu => ⟨(hva.later (bl2 hb5 hu)).more HAB.out.2.2.1, (hvb.later hu).more HAB.out.2.2.2, HP.out u (bl2 hb4 (bl2 hb5 hu))⟩
  clear HP hva hvb hb4 hb5
  have hA1 := nAddS yp yq cp cq s t w5 (HD.out w5 (Below.refl _ _)).2.2.1 (HD.out w5 (Below.refl _ _)).2.2.2.1 hs1 ht1
  go_wp2_with fail
  refine hA1.mono ?_
  rintro e w6 ⟨S1, z1, k1, rfl, hn1, hb6⟩
  clear hA1
  have hA2 := nMulS yp yq cp cq s t w6 (HD.out w6 hb6).2.2.1 (HD.out w6 hb6).2.2.2.1 hs1 ht1
  go_wp2_with fail
  refine hA2.mono ?_
  rintro e w7 ⟨S2, z2, k2, rfl, hn2, hb7⟩
  clear hA2
  have hA3 := nSubS yp yq cp cq s t w7 (HD.out w7 (bl2 hb6 hb7)).2.2.1 (HD.out w7 (bl2 hb6 hb7)).2.2.2.1 hs1 ht1
  go_wp2_with fail
  refine hA3.mono ?_
  rintro e w8 ⟨z3, l3, k3, g3, rfl, hn3, hb8⟩
  clear hA3
  rw [HAB.out.1, HAB.out.2.1] at hn1 hn2 hn3
  have HN := show Hid (∀ u, Below w8.heap.size w8 u → NumAt u (.slice z1 S1.size k1) S1 (A + B) ∧ NumAt u (.slice z2 S2.size k2) S2 (A * B) ∧ (¬ A < B → ∃ S, S.size = l3 ∧ NumAt u (.slice z3 l3 k3) S (A - B)) ∧ IsD 100 u (.slice y5 l5 c5) A ∧ IsD 100 u (.slice y6 l6 c6) B ∧ IsBytes u (.slice yp s.size cp) s ∧ IsBytes u (.slice yq t.size cq) t ∧ IsBytes u (.slice x s.size cx) s ∧ IsBytes u (.slice y t.size cy) t ∧ Below w.heap.size w u) from fun u hu => ⟨hn1.later (bl2 hb7 (bl2 hb8 hu)), hn2.later (bl2 hb8 hu), fun hlt => by
    have h1 := hn3.out
    unfold SubIs at h1
    rw [if_neg hlt] at h1
    obtain ⟨_, S, h2, h3⟩ := h1
    exact ⟨S, h2, h3.later hu⟩, HD.out u (bl2 hb6 (bl2 hb7 (bl2 hb8 hu)))⟩
  have hg3 := show Hid (if A < B then l3 = 0 ∧ g3 = 2 else g3 = 0) from by
    have h1 := hn3.out
    unfold SubIs at h1
    unfold Hid
    by_cases hlt : A < B
    · rw [if_pos hlt] at h1 ⊢
      exact h1
    · rw [if_neg hlt] at h1 ⊢
      exact h1.1
  clear hn1 hn2 hn3 hb6 hb7 hb8 HD
  have g1 := (HN.out w8 (Below.refl _ _)).2.2.2.2.2.1.convert
  have g2 := (HN.out w8 (Below.refl _ _)).2.2.2.2.2.2.1.convert
  have g4 := (HN.out w8 (Below.refl _ _)).2.2.2.2.2.2.2.1.convert
  have g5 := (HN.out w8 (Below.refl _ _)).2.2.2.2.2.2.2.2.1.convert
  have n1 : (s.toList != s.toList) = false := by simp
  have n2 : (t.toList != t.toList) = false := by simp
  have hR1 := digAdd 100 100 (.slice y5 l5 c5) (.slice y6 l6 c6) A B w8 (HN.out w8 (Below.refl _ _)).2.2.2.1 (HN.out w8 (Below.refl _ _)).2.2.2.2.1 (by omega) (by omega)
  go_wp2_with fail
  refine hR1.mono ?_
  rintro e w9 ⟨⟨v9, rfl, h9, _⟩, hb9⟩
  clear hR1 g1 g2 g4 g5 n1 n2
  have hQ1 := lnSameS 101 (A + B) z1 k1 v9 S1 w9 (HN.out w9 hb9).1 h9 (by omega)
  go_wp2_with fail
  refine hQ1.mono ?_
  rintro e w10 ⟨rfl, hb10⟩
  clear hQ1 h9
  have hb810 := bl2 hb9 hb10
  clear hb9 hb10
  have hR2 := digMul 100 100 (.slice y5 l5 c5) (.slice y6 l6 c6) A B w10 (HN.out w10 hb810).2.2.2.1 (HN.out w10 hb810).2.2.2.2.1 (by omega) (by omega)
  go_wp2_with fail
  refine hR2.mono ?_
  rintro e w11 ⟨⟨v11, rfl, h11⟩, hb11⟩
  clear hR2
  have hb811 := bl2 hb810 hb11
  have hQ2 := lnSameS 200 (A * B) z2 k2 v11 S2 w11 (HN.out w11 hb811).2.1 h11 (by omega)
  clear hb810 hb11 h11
  go_wp2_with fail
  refine hQ2.mono ?_
  rintro e w12 ⟨rfl, hb12⟩
  clear hQ2
  have hb812 := bl2 hb811 hb12
  clear hb811 hb12
  have hC1 := nCmpS x y cx cy s t w12 (HN.out w12 hb812).2.2.2.2.2.2.2.1 (HN.out w12 hb812).2.2.2.2.2.2.2.2.1 (by omega) (by omega)
  have hC2 := digCmp 100 100 (.slice y5 l5 c5) (.slice y6 l6 c6) A B w12 (HN.out w12 hb812).2.2.2.1 (HN.out w12 hb812).2.2.2.2.1 (by omega)
  rw [HAB.out.1, HAB.out.2.1] at hC1
  obtain ⟨cc, hcc⟩ : ∃ c, cmpN A B = c := ⟨_, rfl⟩
  rw [hcc] at hC1 hC2
  have n3 : (cc != cc) = false := by simp
  go_wp2_with fail
  refine hC1.mono ?_
  rintro e w13 ⟨rfl, rfl⟩
  clear hC1
  go_wp2_with fail
  refine hC2.mono ?_
  rintro e w14 ⟨rfl, hb14⟩
  clear hC2
  have hb814 := bl2 hb812 hb14
  clear hb812 hb14
  have hT1 := nTrimS x cx s w14 (HN.out w14 hb814).2.2.2.2.2.2.2.1 (by omega)
  rw [HAB.out.1] at hT1
  go_wp2_with fail
  refine hT1.mono ?_
  rintro e w15 ⟨S5, z5, k5, rfl, h5, hb15⟩
  clear hT1
  have hb815 := bl2 hb814 hb15
  have hQ3 := lnSameS 100 A z5 k5 (.slice y5 l5 c5) S5 w15 h5 (HN.out w15 hb815).2.2.2.1 (by omega)
  clear hb814 hb15 h5
  go_wp2_with fail
  refine hQ3.mono ?_
  rintro e w16 ⟨rfl, hb16⟩
  clear hQ3
  have hb816 := bl2 hb815 hb16
  clear hb815 hb16
  have hC3 := digCmp 100 100 (.slice y5 l5 c5) (.slice y6 l6 c6) A B w16 (HN.out w16 hb816).2.2.2.1 (HN.out w16 hb816).2.2.2.2.1 (by omega)
  rw [hcc] at hC3
  by_cases hlt : A < B
  · have hc0 : cc < 0 := by
      rw [← hcc]
      unfold cmpN
      rw [if_pos hlt]
      decide
    have h0 := hg3.out
    rw [if_pos hlt] at h0
    obtain ⟨h01, h02⟩ := h0
    subst h01 h02
    clear hcc hlt
    go_wp2_with fail
    refine hC3.mono ?_
    rintro e w17 ⟨rfl, hb17⟩
    clear hC3
    have HF := show Hid (Below w.heap.size w w17) from (HN.out w17 (bl2 hb816 hb17)).2.2.2.2.2.2.2.2.2
    clear HN hb816 hb17
    go_wp2_with fail
    go_ret
    exact ⟨rfl, HF.out⟩
  · have hc0 : ¬ cc < 0 := by
      rw [← hcc]
      unfold cmpN
      rw [if_neg hlt]
      split <;> decide
    have h0 := hg3.out
    rw [if_neg hlt] at h0
    subst h0
    clear hcc
    go_wp2_with fail
    refine hC3.mono ?_
    rintro e w17 ⟨rfl, hb17⟩
    clear hC3
    have hb817 := bl2 hb816 hb17
    clear hb816 hb17
    have hR3 := digSub 100 100 (.slice y5 l5 c5) (.slice y6 l6 c6) A B w17 (HN.out w17 hb817).2.2.2.1 (HN.out w17 hb817).2.2.2.2.1 (by omega) (by omega)
    go_wp2_with fail
    refine hR3.mono ?_
    rintro e w18 ⟨⟨v18, rfl, h18, _⟩, hb18⟩
    clear hR3
    have hb818 := bl2 hb817 hb18
    obtain ⟨S6, rfl, h6⟩ := (HN.out w18 hb818).2.2.1 hlt
    have hQ4 := lnSameS 100 (A - B) z3 k3 v18 S6 w18 h6 h18 (by omega)
    clear hb817 hb18 h18 h6 hlt
    go_wp2_with fail
    refine hQ4.mono ?_
    rintro e w19 ⟨rfl, hb19⟩
    clear hQ4
    have HF := show Hid (Below w.heap.size w w19) from (HN.out w19 (bl2 hb818 hb19)).2.2.2.2.2.2.2.2.2
    clear HN hb818 hb19
    go_wp2_with fail
    go_ret
    exact ⟨rfl, HF.out⟩
end Go.Proofs.Ythfgbcpppamboaa
