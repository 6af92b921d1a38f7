/-
  NatPowers, walked.
-/
import Derived.Test.YthfgbcpppamboaaLNFact
namespace Go.Proofs.Ythfgbcpppamboaa
open Go.RowKit Ch
set_option maxRecDepth 100000

set_option maxHeartbeats 8000000 in
theorem lnPowers_any (x : Option Addr) (cx : Nat) (s : ByteArray) (y : Option Addr) (cy : Nat) (t : ByteArray) (z : Option Addr) (cz : Nat) (r : ByteArray) (w : World) (hS : IsBytes w (.slice x s.size cx) s) (hT : IsBytes w (.slice y t.size cy) t) (hR : IsBytes w (.slice z r.size cz) r) :
    Calls Try.prog 6 #[.slice x s.size cx, .slice y t.size cy, .slice z r.size cz] w fun e w' => e = .returned (.bool true) ∧ Below w.heap.size w w' := by
  have HU := show Hid (∀ u, Below w.heap.size w u → IsBytes u (.slice x s.size cx) s ∧ IsBytes u (.slice y t.size cy) t ∧ IsBytes u (.slice z r.size cz) r ∧ Below w.heap.size w u) from fun u hu => ⟨hS.later hu, hT.later hu, hR.later hu, hu⟩
  clear hS hT hR
  go_enter Try.func6, Try.ntmps6
  by_cases hg0 : 12 < s.size
  · have hi0 : (12 : Int) < (s.size : Int) := by omega
    clear HU
    go_wp2_with fail
    refine (lnAwake_any w).mono ?_
    rintro e w1 ⟨rfl, hb1⟩
    go_wp2_with fail
    refine (lnAwake_any w1).mono ?_
    rintro e w2 ⟨rfl, hb2⟩
    have HF := show Hid (Below w.heap.size w w2) from bl2 hb1 hb2
    clear hb1 hb2
    go_wp2_with fail
    go_ret
    exact ⟨rfl, HF.out⟩
  have hi0 : ¬ (12 : Int) < (s.size : Int) := by omega
  by_cases hg1 : 4 < t.size
  · have hi1 : (4 : Int) < (t.size : Int) := by omega
    clear HU
    go_wp2_with fail
    refine (lnAwake_any w).mono ?_
    rintro e w1 ⟨rfl, hb1⟩
    go_wp2_with fail
    refine (lnAwake_any w1).mono ?_
    rintro e w2 ⟨rfl, hb2⟩
    have HF := show Hid (Below w.heap.size w w2) from bl2 hb1 hb2
    clear hb1 hb2
    go_wp2_with fail
    go_ret
    exact ⟨rfl, HF.out⟩
  have hi1 : ¬ (4 : Int) < (t.size : Int) := by omega
  by_cases hg2 : 12 < r.size
  · have hi2 : (12 : Int) < (r.size : Int) := by omega
    clear HU
    go_wp2_with fail
    refine (lnAwake_any w).mono ?_
    rintro e w1 ⟨rfl, hb1⟩
    go_wp2_with fail
    refine (lnAwake_any w1).mono ?_
    rintro e w2 ⟨rfl, hb2⟩
    have HF := show Hid (Below w.heap.size w w2) from bl2 hb1 hb2
    clear hb1 hb2
    go_wp2_with fail
    go_ret
    exact ⟨rfl, HF.out⟩
  have hi2 : ¬ (12 : Int) < (r.size : Int) := by omega
  go_wp2_with fail
  refine (lnAwake_any w).mono ?_
  rintro e w1 ⟨rfl, hb1⟩
  have hO1 := digOf z cz r w1 (HU.out w1 hb1).2.2.1 (by omega)
  go_wp2_with fail
  refine hO1.mono ?_
  rintro e w4 ⟨⟨va, rfl, hva⟩, hb4⟩
  clear hO1
  have hb14 := bl2 hb1 hb4
  obtain ⟨y5, l5, c5, rfl, hl5, _⟩ := id hva.shape
  obtain ⟨A, hA⟩ : ∃ A, numB s.data.toList = A := ⟨_, rfl⟩
  obtain ⟨E, hE⟩ : ∃ A, numB t.data.toList = A := ⟨_, rfl⟩
  obtain ⟨M, hM⟩ : ∃ A, numB r.data.toList = A := ⟨_, rfl⟩
  rw [hM] at hva hl5
  have HN := show Hid (numB s.data.toList = A ∧ numB t.data.toList = E) from ⟨hA, hE⟩
  have HD := show Hid (∀ u, Below w4.heap.size w4 u → IsD 12 u (.slice y5 l5 c5) M ∧ IsBytes u (.slice x s.size cx) s ∧ IsBytes u (.slice y t.size cy) t ∧ IsBytes u (.slice z r.size cz) r ∧ Below w.heap.size w u) from fun u hu => ⟨(hva.later hu).more (by omega), HU.out u (bl2 hb14 hu)⟩
  have i1 := HD.out w4 (Below.refl _ _)
  clear HU hb1 hb4 hb14 hva
  by_cases hM0 : M = 0
  · have hl0 : l5 = 0 := hl5.2 hM0
    subst hl0
    have hN := nExp_none x y z cx cy cz s t r w4 i1.2.1 i1.2.2.1 i1.2.2.2.1 (by omega) (by omega) (by omega) (by rw [hM]; exact hM0)
    clear hl5 hA hE hM hM0 i1
    go_wp2_with fail
    refine hN.mono ?_
    rintro e w6 ⟨rfl, hb6⟩
    have HF := show Hid (Below w.heap.size w w6) from (HD.out w6 hb6).2.2.2.2
    clear hN hb6 HD
    go_wp2_with fail
    go_ret
    exact ⟨rfl, HF.out⟩
  · have hl0 : ((l5 : Int) == 0) = false := by
      have : l5 ≠ 0 := fun h => hM0 (hl5.1 h)
      simp
      omega
    have hN := nExp_any x y z cx cy cz s t r w4 i1.2.1 i1.2.2.1 i1.2.2.2.1 (by omega) (by omega) (by omega) (by rw [hM]; exact hM0)
    rw [hA, hE, hM] at hN
    clear hl5 hA hE hM i1
    go_wp2_with fail
    refine hN.mono ?_
    intro e w6 hd
    obtain ⟨S1, z1, k1, rfl, n1, hb6⟩ := numOk_ex hd
    clear hN hd
    have hO2 := digOf x cx s w6 (HD.out w6 hb6).2.1 (by omega)
    rw [HN.out.1] at hO2
    go_wp2_with fail
    refine hO2.mono ?_
    rintro e w7 ⟨⟨v7, rfl, h7⟩, hb7⟩
    clear hO2
    have hb67 := bl2 hb6 hb7
    have hO3 := digOf y cy t w7 (HD.out w7 hb67).2.2.1 (by omega)
    rw [HN.out.2] at hO3
    go_wp2_with fail
    refine hO3.mono ?_
    rintro e w8 ⟨⟨v8, rfl, h8⟩, hb8⟩
    clear hO3
    have hb68 := bl2 hb67 hb8
    have hX := digExp s.size t.size 12 v7 v8 (.slice y5 l5 c5) A E M w8 (h7.later hb8) h8 (HD.out w8 hb68).1 (by omega) (by omega) (by omega) hM0
    go_wp2_with fail
    refine hX.mono ?_
    rintro e w9 ⟨⟨v9, rfl, h9⟩, hb9⟩
    clear hX
    have hQ1 := lnSameS 12 (A ^ E % M) z1 k1 v9 S1 w9 (n1.later (bl2 hb7 (bl2 hb8 hb9))) h9 (by omega)
    have hb69 := bl2 hb68 hb9
    clear n1 h7 h8 h9 hb6 hb7 hb8 hb9 hb67 hb68
    go_wp2_with fail
    refine hQ1.mono ?_
    rintro e w10 ⟨rfl, hb10⟩
    have HF := show Hid (Below w.heap.size w w10) from (HD.out w10 (bl2 hb69 hb10)).2.2.2.2
    clear hQ1 hb69 hb10 HD
    go_wp2_with fail
    go_ret
    exact ⟨rfl, HF.out⟩
end Go.Proofs.Ythfgbcpppamboaa
