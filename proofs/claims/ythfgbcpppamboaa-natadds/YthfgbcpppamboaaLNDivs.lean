/-
  NatDivs, walked.
-/
import Derived.Test.YthfgbcpppamboaaLNFact
namespace Go.Proofs.Ythfgbcpppamboaa
open Go.RowKit Ch
set_option maxRecDepth 100000

theorem divOk_ex {w w' : World} {M N : Nat} {e : Ending} (h : DivOk w w' M N e) : ∃ S y c T z d, e = .returned (.tuple #[.slice y S.size c, .slice z T.size d, .int .i64 0]) ∧ NumAt w' (.slice y S.size c) S (M / N) ∧ NumAt w' (.slice z T.size d) T (M % N) ∧ Below w.heap.size w w' := by
  obtain ⟨v1, v2, rfl, h1, h2, h3⟩ := h
  obtain ⟨S, y, c, rfl, h4⟩ := numAt_ex h1
  obtain ⟨T, z, d, rfl, h5⟩ := numAt_ex h2
  exact ⟨S, y, c, T, z, d, rfl, h4, h5, h3⟩
set_option maxHeartbeats 8000000 in
theorem lnDivs_any (x : Option Addr) (cx : Nat) (s : ByteArray) (y : Option Addr) (cy : Nat) (t : ByteArray) (w : World) (hS : IsBytes w (.slice x s.size cx) s) (hT : IsBytes w (.slice y t.size cy) t) :
    Calls Try.prog 4 #[.slice x s.size cx, .slice y t.size cy] w fun e w' => e = .returned (.bool true) ∧ Below w.heap.size w w' := by
  have HU := show Hid (∀ u, Below w.heap.size w u → IsBytes u (.slice x s.size cx) s ∧ IsBytes u (.slice y t.size cy) t ∧ Below w.heap.size w u) from fun u hu => ⟨hS.later hu, hT.later hu, hu⟩
  clear hS hT
  go_enter Try.func4, Try.ntmps4
  by_cases hg0 : 60 < s.size
  · have hi0 : (60 : Int) < (s.size : Int) := by omega
    clear HU
    go_wp2_with fail
    refine (lnAwake_any w).mono ?_
    rintro e w1 ⟨rfl, hb1⟩
    go_wp2_with fail
    refine (lnAwake_any w1).mono ?_
    rintro e w2 ⟨rfl, hb2⟩
    have HF := show Hid (Below w.heap.size w w2) from bl2 hb1 hb2
    clear hb1 hb2
    go_wp2_with fail
    go_ret
    exact ⟨rfl, HF.out⟩
  have hi0 : ¬ (60 : Int) < (s.size : Int) := by omega
  by_cases hg1 : 60 < t.size
  · have hi1 : (60 : Int) < (t.size : Int) := by omega
    clear HU
    go_wp2_with fail
    refine (lnAwake_any w).mono ?_
    rintro e w1 ⟨rfl, hb1⟩
    go_wp2_with fail
    refine (lnAwake_any w1).mono ?_
    rintro e w2 ⟨rfl, hb2⟩
    have HF := show Hid (Below w.heap.size w w2) from bl2 hb1 hb2
    clear hb1 hb2
    go_wp2_with fail
    go_ret
    exact ⟨rfl, HF.out⟩
  have hi1 : ¬ (60 : Int) < (t.size : Int) := by omega
  have hs1 : s.size ≤ 1024 := by omega
  have ht1 : t.size ≤ 1024 := by omega
  go_wp2_with fail
  refine (lnAwake_any w).mono ?_
  rintro e w1 ⟨rfl, hb1⟩
  have hO1 := digOf x cx s w1 (HU.out w1 hb1).1 (by omega)
  go_wp2_with fail
  refine hO1.mono ?_
  rintro e w4 ⟨⟨va, rfl, hva⟩, hb4⟩
  clear hO1
  have hb14 := bl2 hb1 hb4
  have hO2 := digOf y cy t w4 (HU.out w4 hb14).2.1 (by omega)
  go_wp2_with fail
  refine hO2.mono ?_
  rintro e w5 ⟨⟨vb, rfl, hvb⟩, hb5⟩
  clear hO2
  have hb15 := bl2 hb14 hb5
  obtain ⟨y5, l5, c5, rfl, _, _⟩ := id hva.shape
  obtain ⟨y6, l6, c6, rfl, hl6, _⟩ := id hvb.shape
  obtain ⟨A, hA⟩ : ∃ A, numB s.data.toList = A := ⟨_, rfl⟩
  obtain ⟨B, hB⟩ : ∃ A, numB t.data.toList = A := ⟨_, rfl⟩
  rw [hA] at hva
  rw [hB] at hvb hl6
  have HD := show Hid (∀ u, Below w5.heap.size w5 u → IsD 60 u (.slice y5 l5 c5) A ∧ IsD 60 u (.slice y6 l6 c6) B ∧ Below w.heap.size w u) from fun u hu => ⟨(hva.later (bl2 hb5 hu)).more (by omega), (hvb.later hu).more (by omega), bl2 hb15 hu⟩
  have i1 := (HU.out w5 hb15).1
  have i2 := (HU.out w5 hb15).2.1
  clear HU hb1 hb4 hb5 hb14 hb15 hva hvb
  by_cases hB0 : B = 0
  · have hl0 : l6 = 0 := hl6.2 hB0
    subst hl0
    have hN := nDiv_none x y cx cy s t w5 i1 i2 hs1 ht1 (by rw [hB]; exact hB0)
    clear hl6 hA hB hB0 i1 i2
    go_wp2_with fail
    refine hN.mono ?_
    rintro e w6 ⟨rfl, hb6⟩
    have HF := show Hid (Below w.heap.size w w6) from (HD.out w6 hb6).2.2
    clear hN hb6 HD
    go_wp2_with fail
    go_ret
    exact ⟨rfl, HF.out⟩
  · have hl0 : ((l6 : Int) == 0) = false := by
      have : l6 ≠ 0 := fun h => hB0 (hl6.1 h)
      simp
      omega
    have hN := nDiv_any x y cx cy s t w5 i1 i2 hs1 ht1 (by rw [hB]; exact hB0)
    rw [hA, hB] at hN
    clear hl6 hA hB i1 i2
    go_wp2_with fail
    refine hN.mono ?_
    intro e w6 hd
    obtain ⟨S1, z1, k1, S2, z2, k2, rfl, n1, n2, hb6⟩ := divOk_ex hd
    have hRd := digDiv 60 60 (.slice y5 l5 c5) (.slice y6 l6 c6) A B w6 (HD.out w6 hb6).1 (HD.out w6 hb6).2.1 (by omega) (by omega) hB0
    clear hN hd
    go_wp2_with fail
    refine hRd.mono ?_
    rintro e w7 ⟨v7, v8, rfl, h7, h8, hb7⟩
    clear hRd
    have hb67 := bl2 hb6 hb7
    have hQ1 := lnSameS 60 (A / B) z1 k1 v7 S1 w7 (n1.later hb7) h7 (by omega)
    go_wp2_with fail
    refine hQ1.mono ?_
    rintro e w8 ⟨rfl, hb8⟩
    clear hQ1
    have hQ2 := lnSameS 60 (A % B) z2 k2 v8 S2 w8 (n2.later (bl2 hb7 hb8)) (h8.later hb8) (by omega)
    have hb68 := bl2 hb67 hb8
    clear n1 n2 h7 h8 hb6 hb7 hb8 hb67
    go_wp2_with fail
    refine hQ2.mono ?_
    rintro e w9 ⟨rfl, hb9⟩
    have HF := show Hid (Below w.heap.size w w9) from (HD.out w9 (bl2 hb68 hb9)).2.2
    clear hQ2 hb68 hb9 HD
    go_wp2_with fail
    go_ret
    exact ⟨rfl, HF.out⟩
end Go.Proofs.Ythfgbcpppamboaa
