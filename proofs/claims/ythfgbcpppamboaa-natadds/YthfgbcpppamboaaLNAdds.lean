/-
  NatAdds, walked.
-/
import Derived.Test.YthfgbcpppamboaaLNDivs
import Derived.Test.YthfgbcpppamboaaLNRings
namespace Go.Proofs.Ythfgbcpppamboaa
open Go.RowKit Ch
set_option maxRecDepth 100000

theorem pow_both (A M e f : Nat) : (A ^ e % M) * (A ^ f % M) % M = A ^ (e + f) % M := by rw [← Nat.mul_mod, Nat.pow_add]
set_option maxHeartbeats 8000000 in
theorem lnAdds_any (x : Option Addr) (cx : Nat) (s : ByteArray) (y : Option Addr) (cy : Nat) (t : ByteArray) (p q : Option Addr) (cp cq : Nat) (u v : ByteArray) (w : World) (hS : IsBytes w (.slice x s.size cx) s) (hT : IsBytes w (.slice y t.size cy) t) (hP : IsBytes w (.slice p u.size cp) u) (hQ : IsBytes w (.slice q v.size cq) v) :
    Calls Try.prog 7 #[.slice x s.size cx, .slice y t.size cy, .agg #[.slice p u.size cp, .slice q v.size cq]] w fun e w' => e = .returned (.bool true) ∧ Below w.heap.size w w' := by
  have hb0 : Below w.heap.size w (w.alloc (.cells #[.slice p u.size cp, .slice q v.size cq] 42)) := (Below.refl _ w).alloc (Nat.le_refl _) _
  have hNb := heap_push_at w (.cells #[.slice p u.size cp, .slice q v.size cq] 42)
  generalize hW0 : w.alloc (.cells #[.slice p u.size cp, .slice q v.size cq] 42) = W0 at *
  have hlt0 := block_lt hNb
  have HLT := show Hid (w.heap.size < W0.heap.size) from hlt0
  have gb0 := block_cell 0 hNb rfl
  have gb1 := block_cell 1 hNb rfl
  have HU := show Hid (∀ o, Below W0.heap.size W0 o → IsBytes o (.slice x s.size cx) s ∧ IsBytes o (.slice y t.size cy) t ∧ IsBytes o (.slice p u.size cp) u ∧ IsBytes o (.slice q v.size cq) v ∧ o.cell? ⟨w.heap.size, 0, none⟩ = some (.slice p u.size cp) ∧ o.cell? ⟨w.heap.size, 1, none⟩ = some (.slice q v.size cq) ∧ Below w.heap.size w o) from fun o ho => by
    have h1 := hb0.trans (ho.mono hb0.size)
    exact ⟨hS.later h1, hT.later h1, hP.later h1, hQ.later h1, (ho.cell (p := ⟨w.heap.size, 0, none⟩) hlt0).trans gb0, (ho.cell (p := ⟨w.heap.size, 1, none⟩) hlt0).trans gb1, h1⟩
  clear hS hT hP hQ hb0 hNb gb0 gb1 hlt0
  go_enter Try.func7, Try.ntmps7
  by_cases hg0 : 80 < s.size
  · have hi0 : (80 : Int) < (s.size : Int) := by omega
    skip
    go_wp2_with fail
    refine (lnAwake_any W0).mono ?_
    rintro e w1 ⟨rfl, hb1⟩
    have g0 := (HU.out w1 hb1).2.2.2.2.1
    have g1 := (HU.out w1 hb1).2.2.2.2.2.1
    have hlt0 := HLT.out
    go_wp2_with fail
    refine (lnAwake_any w1).mono ?_
    rintro e w2 ⟨rfl, hb2⟩
    have HF := show Hid (Below w.heap.size w w2) from (HU.out w2 (bl2 hb1 hb2)).2.2.2.2.2.2
    clear hb1 hb2 HU
    go_wp2_with fail
    go_ret
    exact ⟨rfl, HF.out⟩
  have hi0 : ¬ (80 : Int) < (s.size : Int) := by omega
  by_cases hg1 : 80 < t.size
  · have hi1 : (80 : Int) < (t.size : Int) := by omega
    skip
    go_wp2_with fail
    refine (lnAwake_any W0).mono ?_
    rintro e w1 ⟨rfl, hb1⟩
    have g0 := (HU.out w1 hb1).2.2.2.2.1
    have g1 := (HU.out w1 hb1).2.2.2.2.2.1
    have hlt0 := HLT.out
    go_wp2_with fail
    refine (lnAwake_any w1).mono ?_
    rintro e w2 ⟨rfl, hb2⟩
    have HF := show Hid (Below w.heap.size w w2) from (HU.out w2 (bl2 hb1 hb2)).2.2.2.2.2.2
    clear hb1 hb2 HU
    go_wp2_with fail
    go_ret
    exact ⟨rfl, HF.out⟩
  have hi1 : ¬ (80 : Int) < (t.size : Int) := by omega
  by_cases hg2 : 20 < u.size
  · have hi2 : (20 : Int) < (u.size : Int) := by omega
    skip
    go_wp2_with fail
    refine (lnAwake_any W0).mono ?_
    rintro e w1 ⟨rfl, hb1⟩
    have g0 := (HU.out w1 hb1).2.2.2.2.1
    have g1 := (HU.out w1 hb1).2.2.2.2.2.1
    have hlt0 := HLT.out
    go_wp2_with fail
    refine (lnAwake_any w1).mono ?_
    rintro e w2 ⟨rfl, hb2⟩
    have HF := show Hid (Below w.heap.size w w2) from (HU.out w2 (bl2 hb1 hb2)).2.2.2.2.2.2
    clear hb1 hb2 HU
    go_wp2_with fail
    go_ret
    exact ⟨rfl, HF.out⟩
  have hi2 : ¬ (20 : Int) < (u.size : Int) := by omega
  by_cases hg3 : 20 < v.size
  · have hi3 : (20 : Int) < (v.size : Int) := by omega
    skip
    go_wp2_with fail
    refine (lnAwake_any W0).mono ?_
    rintro e w1 ⟨rfl, hb1⟩
    have g0 := (HU.out w1 hb1).2.2.2.2.1
    have g1 := (HU.out w1 hb1).2.2.2.2.2.1
    have hlt0 := HLT.out
    go_wp2_with fail
    refine (lnAwake_any w1).mono ?_
    rintro e w2 ⟨rfl, hb2⟩
    have HF := show Hid (Below w.heap.size w w2) from (HU.out w2 (bl2 hb1 hb2)).2.2.2.2.2.2
    clear hb1 hb2 HU
    go_wp2_with fail
    go_ret
    exact ⟨rfl, HF.out⟩
  have hi3 : ¬ (20 : Int) < (v.size : Int) := by omega
  have hs1 : s.size ≤ 1024 := by omega
  have ht1 : t.size ≤ 1024 := by omega
  have hu1 : u.size ≤ 1024 := by omega
  have hv1 : v.size ≤ 1024 := by omega
  obtain ⟨A, hA⟩ : ∃ A, numB s.data.toList = A := ⟨_, rfl⟩
  obtain ⟨M, hM⟩ : ∃ A, numB t.data.toList = A := ⟨_, rfl⟩
  obtain ⟨E, hE⟩ : ∃ A, numB u.data.toList = A := ⟨_, rfl⟩
  obtain ⟨F, hF⟩ : ∃ A, numB v.data.toList = A := ⟨_, rfl⟩
  have HA := show Hid (numB s.data.toList = A ∧ numB t.data.toList = M ∧ numB u.data.toList = E ∧ numB v.data.toList = F) from ⟨hA, hM, hE, hF⟩
  obtain ⟨N3, hN3⟩ : ∃ n, n = 80 := ⟨_, rfl⟩
  have HL := show Hid (M < 256 ^ N3 ∧ E < 256 ^ N3 ∧ F < 256 ^ N3) from ⟨by rw [← hM]; exact pow_up (numS_lt t) (by omega), by rw [← hE]; exact pow_up (numS_lt u) (by omega), by rw [← hF]; exact pow_up (numS_lt v) (by omega)⟩
  clear hA hM hE hF
  go_wp2_with fail
  refine (lnAwake_any W0).mono ?_
  rintro e w1 ⟨rfl, hb1⟩
  have g0 := (HU.out w1 hb1).2.2.2.2.1
  have g1 := (HU.out w1 hb1).2.2.2.2.2.1
  have hO1 := digOf y cy t w1 (HU.out w1 hb1).2.1 (by omega)
  rw [HA.out.2.1] at hO1
  go_wp2_with fail
  refine hO1.mono ?_
  rintro e w2 ⟨⟨va, rfl, hva⟩, hb2⟩
  clear hO1 g0 g1
  have hb12 := bl2 hb1 hb2
  obtain ⟨y5, l5, c5, rfl, hl5, _⟩ := id hva.shape
  clear hva hb1 hb2
  by_cases hM0 : M = 0
  · have hl0 : l5 = 0 := hl5.2 hM0
    subst hl0
    clear hl5 hM0
    go_wp2_with fail
    refine (lnAwake_any w2).mono ?_
    rintro e w3 ⟨rfl, hb3⟩
    have HF := show Hid (Below w.heap.size w w3) from (HU.out w3 (bl2 hb12 hb3)).2.2.2.2.2.2
    clear hb12 hb3 HU
    go_wp2_with fail
    go_ret
    exact ⟨rfl, HF.out⟩
  · have hl0 : ((l5 : Int) == 0) = false := by
      have : l5 ≠ 0 := fun h => hM0 (hl5.1 h)
      exact beq_eq_false_iff_ne.2 (by omega)
    clear hl5
    have g0 := (HU.out w2 hb12).2.2.2.2.1
    have g1 := (HU.out w2 hb12).2.2.2.2.2.1
    have hX1 := nAddS p q cp cq u v w2 (HU.out w2 hb12).2.2.1 (HU.out w2 hb12).2.2.2.1 hu1 hv1
    rw [HA.out.2.2.1, HA.out.2.2.2] at hX1
    go_wp2_with fail
    refine hX1.mono ?_
    rintro e w3 ⟨S1, z1, k1, rfl, n1, hb3⟩
    clear hX1 g0 g1
    have hb13 := bl2 hb12 hb3
    have hz1 : S1.size ≤ 1024 := Nat.le_trans (numS_len n1.2 (sum_lt HL.out.2.1 HL.out.2.2)) (by omega)
    have i3 := HU.out w3 hb13
    have g0 := i3.2.2.2.2.1
    have hX2 := nExp_any x p y cx cp cy s u t w3 i3.1 i3.2.2.1 i3.2.1 hs1 hu1 ht1 (by rw [HA.out.2.1]; exact hM0)
    rw [HA.out.1, HA.out.2.1, HA.out.2.2.1] at hX2
    clear i3
    go_wp2_with fail
    refine hX2.mono ?_
    intro e w4 hd
    obtain ⟨S2, z2, k2, rfl, n2, hb4⟩ := numOk_ex hd
    clear hX2 hd g0
    have hb14 := bl2 hb13 hb4
    have i4 := HU.out w4 hb14
    have g1 := i4.2.2.2.2.2.1
    have hX3 := nExp_any x q y cx cq cy s v t w4 i4.1 i4.2.2.2.1 i4.2.1 hs1 hv1 ht1 (by rw [HA.out.2.1]; exact hM0)
    rw [HA.out.1, HA.out.2.1, HA.out.2.2.2] at hX3
    clear i4
    go_wp2_with fail
    refine hX3.mono ?_
    intro e w5 hd
    obtain ⟨S3, z3, k3, rfl, n3, hb5⟩ := numOk_ex hd
    clear hX3 hd g1
    have hb15 := bl2 hb14 hb5
    have i5 := HU.out w5 hb15
    have n15 := n1.later (bl2 hb4 hb5)
    have hX4 := nExp_any x z1 y cx k1 cy s S1 t w5 i5.1 n15.1 i5.2.1 hs1 hz1 ht1 (by rw [HA.out.2.1]; exact hM0)
    rw [HA.out.1, HA.out.2.1, n15.2.2] at hX4
    clear i5
    go_wp2_with fail
    refine hX4.mono ?_
    intro e w6 hd
    obtain ⟨S4, z4, k4, rfl, n4, hb6⟩ := numOk_ex hd
    clear hX4 hd
    have hb16 := bl2 hb15 hb6
    have hMp := Nat.pos_of_ne_zero hM0
    have hl2 := Nat.lt_trans (Nat.mod_lt (A ^ E) hMp) HL.out.1
    have hl3 := Nat.lt_trans (Nat.mod_lt (A ^ F) hMp) HL.out.1
    have hl4 := Nat.lt_trans (Nat.mod_lt (A ^ (E + F)) hMp) HL.out.1
    have hz2 : S2.size ≤ 1024 := Nat.le_trans (numS_len n2.2 hl2) (by omega)
    have hz3 : S3.size ≤ 1024 := Nat.le_trans (numS_len n3.2 hl3) (by omega)
    have hz4 : S4.size ≤ 1024 := Nat.le_trans (numS_len n4.2 hl4) (by omega)
    have hX5 := nMulS z2 z3 k2 k3 S2 S3 w6 (n2.later (bl2 hb5 hb6)).1 (n3.later hb6).1 hz2 hz3
    rw [n2.2.2, n3.2.2] at hX5
    go_wp2_with fail
    refine hX5.mono ?_
    rintro e w7 ⟨S5, z5, k5, rfl, n5, hb7⟩
    clear hX5
    have hb17 := bl2 hb16 hb7
    have hz5 : S5.size ≤ 1024 := Nat.le_trans (numS_len n5.2 (mul_lt hl2 hl3)) (by omega)
    have hX6 := nDiv_any z5 y k5 cy S5 t w7 n5.1 (HU.out w7 hb17).2.1 hz5 ht1 (by rw [HA.out.2.1]; exact hM0)
    rw [n5.2.2, HA.out.2.1] at hX6
    clear hl2 hl3 hl4
    go_wp2_with fail
    refine hX6.mono ?_
    intro e w8 hd
    obtain ⟨S6, z6, k6, S7, z7, k7, rfl, _, n7, hb8⟩ := divOk_ex hd
    clear hX6 hd
    rw [pow_both] at n7
    obtain rfl : S7 = S4 := numS_inj n7.2 n4.2
    have hb18 := bl2 hb17 hb8
    have n48 := n4.later (bl2 hb7 hb8)
    have c1 := n7.1.convert
    have c2 := n48.1.convert
    have tS : (S7.toList == S7.toList) = true := by simp
    have hC := nCmpS z4 y k4 cy S7 t w8 n48.1 (HU.out w8 hb18).2.1 (by omega) (by omega)
    rw [n48.2.2, HA.out.2.1] at hC
    have hcm : cmpN (A ^ (E + F) % M) M = -1 := by unfold cmpN; rw [if_pos (Nat.mod_lt _ hMp)]
    rw [hcm] at hC
    have HF := show Hid (Below w.heap.size w w8) from (HU.out w8 hb18).2.2.2.2.2.2
    clear n1 n2 n3 n4 n5 n7 n15 n48 hb3 hb4 hb5 hb6 hb7 hb8 hb12 hb13 hb14 hb15 hb16 hb17 hb18 hz1 hz2 hz3 hz5 hMp hM0 hcm HU HL
    go_wp2_with fail
    refine hC.mono ?_
    rintro e w9 ⟨rfl, rfl⟩
    clear hC
    go_wp2_with fail
    go_ret
    exact ⟨rfl, HF.out⟩
end Go.Proofs.Ythfgbcpppamboaa
