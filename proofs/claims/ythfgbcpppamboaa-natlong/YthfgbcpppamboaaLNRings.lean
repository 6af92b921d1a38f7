/-
  NatRings, walked.
-/
import Derived.Test.YthfgbcpppamboaaLNFact
namespace Go.Proofs.Ythfgbcpppamboaa
open Go.RowKit Ch
set_option maxRecDepth 100000

theorem pow_up {A m n : Nat} (h : A < 256 ^ m) (hm : m ≤ n) : A < 256 ^ n := Nat.lt_of_lt_of_le h (Nat.pow_le_pow_right (by decide) hm)
theorem sum_lt {A B n : Nat} (h : A < 256 ^ n) (k : B < 256 ^ n) : A + B < 256 ^ (n + 1) := by
  rw [Nat.pow_succ]
  omega
theorem mul_lt {A B m n : Nat} (h : A < 256 ^ m) (k : B < 256 ^ n) : A * B < 256 ^ (m + n) := by
  rw [Nat.pow_add]
  exact Nat.lt_of_le_of_lt (Nat.mul_le_mul (Nat.le_of_lt h) (Nat.le_refl _)) (Nat.mul_lt_mul_of_pos_left k (Nat.pow_pos (by decide)))
def semLnR (x z1 z2 z3 z4 z5 z6 : Option Addr) (cx k1 k2 k3 k4 k5 k6 A : Nat) (s S1 P D : ByteArray) : Nat → Value → World → Prop := fun ix v u => match ix with
  | 0 => v = .slice z1 S1.size k1
  | 1 => v = .string S1
  | 2 => v = .slice z2 S1.size k2
  | 3 => v = .string S1
  | 4 => v = .bool true
  | 5 => v = .bool true
  | 6 => v = .slice z3 P.size k3
  | 7 => v = .string P
  | 8 => v = .slice z4 P.size k4
  | 9 => v = .string P
  | 10 => v = .bool true
  | 11 => v = .bool true
  | 12 => v = .bool true
  | 13 => v = .int .i64 0
  | 14 => v = .bool true
  | 15 => v = .bool true
  | 16 => v = .bool true
  | 17 => v = .slice z5 D.size k5
  | 18 => v = .string D
  | 19 => v = .slice x s.size cx
  | 20 => NumAt u v D A ∧ ∃ y c, v = .slice y D.size c
  | 21 => v = .string D
  | 22 => v = .bool true
  | 23 => v = .bool true
  | 24 => v = .bool true
  | 25 => v = .int .i64 0
  | 26 => v = .bool true
  | 27 => v = .bool true
  | 28 => v = .bool true
  | 29 => v = .slice z6 0 k6
  | 30 => v = .int .i64 0
  | 31 => v = .bool true
  | 32 => v = .bool true
  | 33 => v = .bool true
  | _ => True
set_option maxHeartbeats 8000000 in
theorem lnRings_any (x : Option Addr) (cx : Nat) (s : ByteArray) (y : Option Addr) (cy : Nat) (t : ByteArray) (z : Option Addr) (cz : Nat) (r : ByteArray) (w : World) (hS : IsBytes w (.slice x s.size cx) s) (hT : IsBytes w (.slice y t.size cy) t) (hR : IsBytes w (.slice z r.size cz) r) :
    Calls Try.prog 10 #[.slice x s.size cx, .slice y t.size cy, .slice z r.size cz] w fun e w' => e = .returned (.bool true) ∧ Below w.heap.size w w' := by
  have HU := show Hid (∀ u, Below w.heap.size w u → IsBytes u (.slice x s.size cx) s ∧ IsBytes u (.slice y t.size cy) t ∧ IsBytes u (.slice z r.size cz) r ∧ Below w.heap.size w u) from fun u hu => ⟨hS.later hu, hT.later hu, hR.later hu, hu⟩
  clear hS hT hR
  go_enter Try.func10, Try.ntmps10
  by_cases hg0 : 300 < s.size
  · have hi0 : (300 : Int) < (s.size : Int) := by omega
    clear HU
    go_wp2_with fail
    refine (lnAwake_any w).mono ?_
    rintro e w1 ⟨rfl, hb1⟩
    go_wp2_with fail
    refine (lnAwake_any w1).mono ?_
    rintro e w2 ⟨rfl, hb2⟩
    have HF := show Hid (Below w.heap.size w w2) from bl2 hb1 hb2
    clear hb1 hb2
    go_wp2_with fail
    go_ret
    exact ⟨rfl, HF.out⟩
  have hi0 : ¬ (300 : Int) < (s.size : Int) := by omega
  by_cases hg1 : 300 < t.size
  · have hi1 : (300 : Int) < (t.size : Int) := by omega
    clear HU
    go_wp2_with fail
    refine (lnAwake_any w).mono ?_
    rintro e w1 ⟨rfl, hb1⟩
    go_wp2_with fail
    refine (lnAwake_any w1).mono ?_
    rintro e w2 ⟨rfl, hb2⟩
    have HF := show Hid (Below w.heap.size w w2) from bl2 hb1 hb2
    clear hb1 hb2
    go_wp2_with fail
    go_ret
    exact ⟨rfl, HF.out⟩
  have hi1 : ¬ (300 : Int) < (t.size : Int) := by omega
  by_cases hg2 : 300 < r.size
  · have hi2 : (300 : Int) < (r.size : Int) := by omega
    clear HU
    go_wp2_with fail
    refine (lnAwake_any w).mono ?_
    rintro e w1 ⟨rfl, hb1⟩
    go_wp2_with fail
    refine (lnAwake_any w1).mono ?_
    rintro e w2 ⟨rfl, hb2⟩
    have HF := show Hid (Below w.heap.size w w2) from bl2 hb1 hb2
    clear hb1 hb2
    go_wp2_with fail
    go_ret
    exact ⟨rfl, HF.out⟩
  have hi2 : ¬ (300 : Int) < (r.size : Int) := by omega
  obtain ⟨A, hA⟩ : ∃ A, numB s.data.toList = A := ⟨_, rfl⟩
  obtain ⟨B, hB⟩ : ∃ A, numB t.data.toList = A := ⟨_, rfl⟩
  obtain ⟨C, hC⟩ : ∃ A, numB r.data.toList = A := ⟨_, rfl⟩
  have HA := show Hid (numB s.data.toList = A) from hA
  have HB := show Hid (numB t.data.toList = B ∧ numB r.data.toList = C) from ⟨hB, hC⟩
  obtain ⟨N3, hN3⟩ : ∃ n, n = 300 := ⟨_, rfl⟩
  have HL := show Hid (A < 256 ^ N3 ∧ B < 256 ^ N3 ∧ C < 256 ^ N3) from ⟨by rw [← hA]; exact pow_up (numS_lt s) (by omega), by rw [← hB]; exact pow_up (numS_lt t) (by omega), by rw [← hC]; exact pow_up (numS_lt r) (by omega)⟩
  have hs1 : s.size ≤ 1024 := by omega
  have ht1 : t.size ≤ 1024 := by omega
  have hr1 : r.size ≤ 1024 := by omega
  clear hA hB hC
  go_wp2_with fail
  refine (lnAwake_any w).mono ?_
  rintro e w1 ⟨rfl, hb1⟩
  have hX1 := nAddS x y cx cy s t w1 (HU.out w1 hb1).1 (HU.out w1 hb1).2.1 hs1 ht1
  rw [HA.out, HB.out.1] at hX1
  go_wp2_with fail
  refine hX1.mono ?_
  rintro e w2 ⟨S1, z1, k1, rfl, n1, hb2⟩
  clear hX1
  have hb12 := bl2 hb1 hb2
  have hX2 := nAddS y x cy cx t s w2 (HU.out w2 hb12).2.1 (HU.out w2 hb12).1 ht1 hs1
  rw [HA.out, HB.out.1, Nat.add_comm] at hX2
  go_wp2_with fail
  refine hX2.mono ?_
  rintro e w3 ⟨S2, z2, k2, rfl, n2, hb3⟩
  clear hX2
  obtain rfl : S2 = S1 := numS_inj n2.2 n1.2
  have hb13 := bl2 hb12 hb3
  have hz1 : S2.size ≤ 1024 := Nat.le_trans (numS_len n2.2 (sum_lt HL.out.1 HL.out.2.1)) (by omega)
  have hX3 := nMulS z1 z k1 cz S2 r w3 (n1.later hb3).1 (HU.out w3 hb13).2.2.1 hz1 hr1
  rw [n2.2.2, HB.out.2] at hX3
  go_wp2_with fail
  refine hX3.mono ?_
  rintro e w4 ⟨P, z3, k3, rfl, n3, hb4⟩
  clear hX3
  have hb14 := bl2 hb13 hb4
  have hX4 := nMulS x z cx cz s r w4 (HU.out w4 hb14).1 (HU.out w4 hb14).2.2.1 hs1 hr1
  rw [HA.out, HB.out.2] at hX4
  go_wp2_with fail
  refine hX4.mono ?_
  rintro e w5 ⟨S4, z7, k7, rfl, n4, hb5⟩
  clear hX4
  have hb15 := bl2 hb14 hb5
  have hX5 := nMulS z y cz cy r t w5 (HU.out w5 hb15).2.2.1 (HU.out w5 hb15).2.1 hr1 ht1
  rw [HB.out.1, HB.out.2] at hX5
  go_wp2_with fail
  refine hX5.mono ?_
  rintro e w6 ⟨S5, z8, k8, rfl, n5, hb6⟩
  clear hX5
  have hb16 := bl2 hb15 hb6
  have hz4 : S4.size ≤ 1024 := Nat.le_trans (numS_len n4.2 (mul_lt HL.out.1 HL.out.2.2)) (by omega)
  have hz5 : S5.size ≤ 1024 := Nat.le_trans (numS_len n5.2 (mul_lt HL.out.2.2 HL.out.2.1)) (by omega)
  have hX6 := nAddS z7 z8 k7 k8 S4 S5 w6 (n4.later hb6).1 n5.1 hz4 hz5
  rw [n4.2.2, n5.2.2, show A * C + C * B = (A + B) * C by rw [Nat.add_mul, Nat.mul_comm C B]] at hX6
  go_wp2_with fail
  refine hX6.mono ?_
  rintro e w7 ⟨Q, z4, k4, rfl, n6, hb7⟩
  clear hX6
  obtain rfl : Q = P := numS_inj n6.2 n3.2
  have hb17 := bl2 hb16 hb7
  have n17 := n1.later (bl2 hb3 (bl2 hb4 (bl2 hb5 (bl2 hb6 hb7))))
  have n27 := n2.later (bl2 hb4 (bl2 hb5 (bl2 hb6 hb7)))
  have n37 := n3.later (bl2 hb5 (bl2 hb6 hb7))
  clear n1 n2 n3 n4 n5 hb2 hb3 hb4 hb5 hb6 hb7 hb12 hb13 hb14 hb15 hb16 hz4 hz5
  have hX7 := nSub_any z1 y k1 cy S2 t w7 n17.1 (HU.out w7 hb17).2.1 hz1 ht1 (by rw [n17.2.2, HB.out.1]; omega)
  rw [n17.2.2, HB.out.1, Nat.add_sub_cancel] at hX7
  go_wp2_with fail
  refine hX7.mono ?_
  intro e w8 hd
  obtain ⟨D, z5, k5, rfl, n8, hb8⟩ := numOk_ex hd
  clear hX7 hd
  have n18 := n17.later hb8
  have hX8 := nSub_any z1 z1 k1 k1 S2 S2 w8 n18.1 n18.1 hz1 hz1 (Nat.le_refl _)
  rw [n18.2.2, Nat.sub_self] at hX8
  go_wp2_with fail
  refine hX8.mono ?_
  intro e w9 hd
  obtain ⟨S9, z6, k6, rfl, n9, hb9⟩ := numOk_ex hd
  clear hX8 hd
  have hz9 : S9.size = 0 := by
    have := numS_len (k := 0) n9.2 (by decide)
    omega
  rw [hz9]
  have hb19 := bl2 hb17 (bl2 hb8 hb9)
  have hb79 := bl2 hb8 hb9
  have HF := show Hid (∀ u, Below w9.drew.heap.size w9.drew u → Below w.heap.size w u) from fun u hu => below_drew hb19 hu
  have HU2 := show Hid (∀ u, Below w9.drew.heap.size w9.drew u → IsBytes u (.slice x s.size cx) s ∧ IsBytes u (.slice z1 S2.size k1) S2 ∧ IsBytes u (.slice z2 S2.size k2) S2 ∧ IsBytes u (.slice z3 Q.size k3) Q ∧ IsBytes u (.slice z4 Q.size k4) Q ∧ IsBytes u (.slice z5 D.size k5) D ∧ bareL D.data.toList = D.data.toList ∧ numB D.data.toList = A) from fun u hu => by
    have h1 := below_drew (Below.refl _ _) hu
    exact ⟨(HU.out u (below_drew hb19 hu)).1, n18.1.later (bl2 hb9 h1), n27.1.later (bl2 hb79 h1), n37.1.later (bl2 hb79 h1), n6.1.later (bl2 hb79 h1), n8.1.later (bl2 hb9 h1), n8.2⟩
  have tS : (S2.toList == S2.toList) = true := by simp
  have tP : (Q.toList == Q.toList) = true := by simp
  have tD : (D.toList == D.toList) = true := by simp
  clear n17 n18 n27 n37 n6 n8 n9 hb8 hb9 hb17 hb19 hb79 hz1 hz9 HU HL
  have HU := HU2
  clear HU2
  go_wp2_with fail
  refine free_walk (Sem := semLnR x z1 z2 z3 z4 z5 z6 cx k1 k2 k3 k4 k5 k6 A s S2 Q D) rfl (n := 122) (by kernel_rfl) rfl (by kernel_rfl) ?_ ?_ ?_
  · intro ix v u u' h hb
    match ix, h with
    | 0, h => exact h
    | 1, h => exact h
    | 2, h => exact h
    | 3, h => exact h
    | 4, h => exact h
    | 5, h => exact h
    | 6, h => exact h
    | 7, h => exact h
    | 8, h => exact h
    | 9, h => exact h
    | 10, h => exact h
    | 11, h => exact h
    | 12, h => exact h
    | 13, h => exact h
    | 14, h => exact h
    | 15, h => exact h
    | 16, h => exact h
    | 17, h => exact h
    | 18, h => exact h
    | 19, h => exact h
    | 20, h => exact ⟨NumAt.later h.1 hb, h.2⟩
    | 21, h => exact h
    | 22, h => exact h
    | 23, h => exact h
    | 24, h => exact h
    | 25, h => exact h
    | 26, h => exact h
    | 27, h => exact h
    | 28, h => exact h
    | 29, h => exact h
    | 30, h => exact h
    | 31, h => exact h
    | 32, h => exact h
    | 33, h => exact h
    | _ + 34, _ => exact trivial
  · intro ix o a u ho hF hbu
    match ix, ho, hF with
    | 0, ho, hF =>
      obtain rfl := Option.some.inj ho
      have h7 : a.tmps[7]? = some (.slice z1 S2.size k1) := (hF.out 7 rfl).trans rfl
      refine free_step rfl (by rfl) (fun K' hK => ?_)
      go_simp
      exact hK.out _ _ rfl (Below.refl _ _)
    | 1, ho, hF =>
      obtain rfl := Option.some.inj ho
      obtain ⟨v89, h89, s89⟩ := hF.dep 0 89 rfl rfl
      obtain rfl : v89 = .slice z1 S2.size k1 := s89
      have hcv := IsBytes.convert (HU.out u hbu).2.1
      refine free_step rfl (by rfl) (fun K' hK => ?_)
      go_simp
      exact hK.out _ _ rfl (Below.refl _ _)
    | 2, ho, hF =>
      obtain rfl := Option.some.inj ho
      have h9 : a.tmps[9]? = some (.slice z2 S2.size k2) := (hF.out 9 rfl).trans rfl
      refine free_step rfl (by rfl) (fun K' hK => ?_)
      go_simp
      exact hK.out _ _ rfl (Below.refl _ _)
    | 3, ho, hF =>
      obtain rfl := Option.some.inj ho
      obtain ⟨v91, h91, s91⟩ := hF.dep 2 91 rfl rfl
      obtain rfl : v91 = .slice z2 S2.size k2 := s91
      have hcv := IsBytes.convert (HU.out u hbu).2.2.1
      refine free_step rfl (by rfl) (fun K' hK => ?_)
      go_simp
      exact hK.out _ _ rfl (Below.refl _ _)
    | 4, ho, hF =>
      obtain rfl := Option.some.inj ho
      obtain ⟨v90, h90, s90⟩ := hF.dep 1 90 rfl rfl
      obtain rfl : v90 = .string S2 := s90
      obtain ⟨v92, h92, s92⟩ := hF.dep 3 92 rfl rfl
      obtain rfl : v92 = .string S2 := s92
      refine free_step rfl (by rfl) (fun K' hK => ?_)
      go_simp
      exact hK.out _ _ rfl (Below.refl _ _)
    | 5, ho, hF =>
      obtain rfl := Option.some.inj ho
      obtain ⟨v93, h93, s93⟩ := hF.dep 4 93 rfl rfl
      obtain rfl : v93 = .bool true := s93
      refine free_step rfl (by rfl) (fun K' hK => ?_)
      go_simp
      exact hK.out _ _ rfl (Below.refl _ _)
    | 6, ho, hF =>
      obtain rfl := Option.some.inj ho
      have h11 : a.tmps[11]? = some (.slice z3 Q.size k3) := (hF.out 11 rfl).trans rfl
      obtain ⟨v94, h94, s94⟩ := hF.dep 5 94 rfl rfl
      obtain rfl : v94 = .bool true := s94
      refine free_step rfl (by show (yielded _ a.tmps 5 == some true) = true; unfold yielded; simp [h94]) (fun K' hK => ?_)
      go_simp
      exact hK.out _ _ rfl (Below.refl _ _)
    | 7, ho, hF =>
      obtain rfl := Option.some.inj ho
      obtain ⟨v95, h95, s95⟩ := hF.dep 6 95 rfl rfl
      obtain rfl : v95 = .slice z3 Q.size k3 := s95
      obtain ⟨v94, h94, s94⟩ := hF.dep 5 94 rfl rfl
      obtain rfl : v94 = .bool true := s94
      have hcv := IsBytes.convert (HU.out u hbu).2.2.2.1
      refine free_step rfl (by show (yielded _ a.tmps 5 == some true) = true; unfold yielded; simp [h94]) (fun K' hK => ?_)
      go_simp
      exact hK.out _ _ rfl (Below.refl _ _)
    | 8, ho, hF =>
      obtain rfl := Option.some.inj ho
      have h17 : a.tmps[17]? = some (.slice z4 Q.size k4) := (hF.out 17 rfl).trans rfl
      obtain ⟨v94, h94, s94⟩ := hF.dep 5 94 rfl rfl
      obtain rfl : v94 = .bool true := s94
      refine free_step rfl (by show (yielded _ a.tmps 5 == some true) = true; unfold yielded; simp [h94]) (fun K' hK => ?_)
      go_simp
      exact hK.out _ _ rfl (Below.refl _ _)
    | 9, ho, hF =>
      obtain rfl := Option.some.inj ho
      obtain ⟨v97, h97, s97⟩ := hF.dep 8 97 rfl rfl
      obtain rfl : v97 = .slice z4 Q.size k4 := s97
      obtain ⟨v94, h94, s94⟩ := hF.dep 5 94 rfl rfl
      obtain rfl : v94 = .bool true := s94
      have hcv := IsBytes.convert (HU.out u hbu).2.2.2.2.1
      refine free_step rfl (by show (yielded _ a.tmps 5 == some true) = true; unfold yielded; simp [h94]) (fun K' hK => ?_)
      go_simp
      exact hK.out _ _ rfl (Below.refl _ _)
    | 10, ho, hF =>
      obtain rfl := Option.some.inj ho
      obtain ⟨v96, h96, s96⟩ := hF.dep 7 96 rfl rfl
      obtain rfl : v96 = .string Q := s96
      obtain ⟨v98, h98, s98⟩ := hF.dep 9 98 rfl rfl
      obtain rfl : v98 = .string Q := s98
      obtain ⟨v94, h94, s94⟩ := hF.dep 5 94 rfl rfl
      obtain rfl : v94 = .bool true := s94
      refine free_step rfl (by show (yielded _ a.tmps 5 == some true) = true; unfold yielded; simp [h94]) (fun K' hK => ?_)
      go_simp
      exact hK.out _ _ rfl (Below.refl _ _)
    | 11, ho, hF =>
      obtain rfl := Option.some.inj ho
      obtain ⟨v94, h94, s94⟩ := hF.dep 5 94 rfl rfl
      obtain rfl : v94 = .bool true := s94
      obtain ⟨v99, h99, s99⟩ := hF.dep 10 99 rfl rfl
      obtain rfl : v99 = .bool true := s99
      refine free_step rfl (by rfl) (fun K' hK => ?_)
      go_simp
      exact hK.out _ _ rfl (Below.refl _ _)
    | 12, ho, hF =>
      obtain rfl := Option.some.inj ho
      obtain ⟨v100, h100, s100⟩ := hF.dep 11 100 rfl rfl
      obtain rfl : v100 = .bool true := s100
      refine free_step rfl (by rfl) (fun K' hK => ?_)
      go_simp
      exact hK.out _ _ rfl (Below.refl _ _)
    | 13, ho, hF =>
      obtain rfl := Option.some.inj ho
      have h20 : a.tmps[20]? = some (.int .i64 0) := (hF.out 20 rfl).trans rfl
      obtain ⟨v101, h101, s101⟩ := hF.dep 12 101 rfl rfl
      obtain rfl : v101 = .bool true := s101
      refine free_step rfl (by show (yielded _ a.tmps 12 == some true) = true; unfold yielded; simp [h101]) (fun K' hK => ?_)
      go_simp
      exact hK.out _ _ rfl (Below.refl _ _)
    | 14, ho, hF =>
      obtain rfl := Option.some.inj ho
      obtain ⟨v102, h102, s102⟩ := hF.dep 13 102 rfl rfl
      obtain rfl : v102 = .int .i64 0 := s102
      obtain ⟨v101, h101, s101⟩ := hF.dep 12 101 rfl rfl
      obtain rfl : v101 = .bool true := s101
      refine free_step rfl (by show (yielded _ a.tmps 12 == some true) = true; unfold yielded; simp [h101]) (fun K' hK => ?_)
      go_simp
      exact hK.out _ _ rfl (Below.refl _ _)
    | 15, ho, hF =>
      obtain rfl := Option.some.inj ho
      obtain ⟨v101, h101, s101⟩ := hF.dep 12 101 rfl rfl
      obtain rfl : v101 = .bool true := s101
      obtain ⟨v103, h103, s103⟩ := hF.dep 14 103 rfl rfl
      obtain rfl : v103 = .bool true := s103
      refine free_step rfl (by rfl) (fun K' hK => ?_)
      go_simp
      exact hK.out _ _ rfl (Below.refl _ _)
    | 16, ho, hF =>
      obtain rfl := Option.some.inj ho
      obtain ⟨v104, h104, s104⟩ := hF.dep 15 104 rfl rfl
      obtain rfl : v104 = .bool true := s104
      refine free_step rfl (by rfl) (fun K' hK => ?_)
      go_simp
      exact hK.out _ _ rfl (Below.refl _ _)
    | 17, ho, hF =>
      obtain rfl := Option.some.inj ho
      have h19 : a.tmps[19]? = some (.slice z5 D.size k5) := (hF.out 19 rfl).trans rfl
      obtain ⟨v105, h105, s105⟩ := hF.dep 16 105 rfl rfl
      obtain rfl : v105 = .bool true := s105
      refine free_step rfl (by show (yielded _ a.tmps 16 == some true) = true; unfold yielded; simp [h105]) (fun K' hK => ?_)
      go_simp
      exact hK.out _ _ rfl (Below.refl _ _)
    | 18, ho, hF =>
      obtain rfl := Option.some.inj ho
      obtain ⟨v106, h106, s106⟩ := hF.dep 17 106 rfl rfl
      obtain rfl : v106 = .slice z5 D.size k5 := s106
      obtain ⟨v105, h105, s105⟩ := hF.dep 16 105 rfl rfl
      obtain rfl : v105 = .bool true := s105
      have hcv := IsBytes.convert (HU.out u hbu).2.2.2.2.2.1
      refine free_step rfl (by show (yielded _ a.tmps 16 == some true) = true; unfold yielded; simp [h105]) (fun K' hK => ?_)
      go_simp
      exact hK.out _ _ rfl (Below.refl _ _)
    | 19, ho, hF =>
      obtain rfl := Option.some.inj ho
      have h0 : a.tmps[0]? = some (.slice x s.size cx) := (hF.out 0 rfl).trans rfl
      obtain ⟨v105, h105, s105⟩ := hF.dep 16 105 rfl rfl
      obtain rfl : v105 = .bool true := s105
      refine free_step rfl (by show (yielded _ a.tmps 16 == some true) = true; unfold yielded; simp [h105]) (fun K' hK => ?_)
      go_simp
      exact hK.out _ _ rfl (Below.refl _ _)
    | 20, ho, hF =>
      obtain rfl := Option.some.inj ho
      obtain ⟨v108, h108, s108⟩ := hF.dep 19 108 rfl rfl
      obtain rfl : v108 = .slice x s.size cx := s108
      obtain ⟨v105, h105, s105⟩ := hF.dep 16 105 rfl rfl
      obtain rfl : v105 = .bool true := s105
      refine free_step rfl (by show (yielded _ a.tmps 16 == some true) = true; unfold yielded; simp [h105]) (fun K' hK => ?_)
      go_wp2_with fail
      refine (nTrimS x cx s u (HU.out u hbu).1 (by omega)).mono ?_
      rintro e u' ⟨S, y9, c9, rfl, hn, hb⟩
      obtain rfl : S = D := numS_inj ⟨hn.2.1, hn.2.2.trans HA.out⟩ (HU.out u hbu).2.2.2.2.2.2
      rw [HA.out] at hn
      go_simp
      exact hK.out _ _ ⟨hn, _, _, rfl⟩ hb
    | 21, ho, hF =>
      obtain rfl := Option.some.inj ho
      obtain ⟨v109, h109, s109⟩ := hF.dep 20 109 rfl rfl
      replace s109 : NumAt u v109 D A ∧ ∃ y c, v109 = .slice y D.size c := s109
      obtain ⟨v105, h105, s105⟩ := hF.dep 16 105 rfl rfl
      obtain rfl : v105 = .bool true := s105
      obtain ⟨hn7, y7, c7, rfl⟩ := s109
      have hcv := IsBytes.convert hn7.1
      refine free_step rfl (by show (yielded _ a.tmps 16 == some true) = true; unfold yielded; simp [h105]) (fun K' hK => ?_)
      go_simp
      exact hK.out _ _ rfl (Below.refl _ _)
    | 22, ho, hF =>
      obtain rfl := Option.some.inj ho
      obtain ⟨v107, h107, s107⟩ := hF.dep 18 107 rfl rfl
      obtain rfl : v107 = .string D := s107
      obtain ⟨v110, h110, s110⟩ := hF.dep 21 110 rfl rfl
      obtain rfl : v110 = .string D := s110
      obtain ⟨v105, h105, s105⟩ := hF.dep 16 105 rfl rfl
      obtain rfl : v105 = .bool true := s105
      refine free_step rfl (by show (yielded _ a.tmps 16 == some true) = true; unfold yielded; simp [h105]) (fun K' hK => ?_)
      go_simp
      exact hK.out _ _ rfl (Below.refl _ _)
    | 23, ho, hF =>
      obtain rfl := Option.some.inj ho
      obtain ⟨v105, h105, s105⟩ := hF.dep 16 105 rfl rfl
      obtain rfl : v105 = .bool true := s105
      obtain ⟨v111, h111, s111⟩ := hF.dep 22 111 rfl rfl
      obtain rfl : v111 = .bool true := s111
      refine free_step rfl (by rfl) (fun K' hK => ?_)
      go_simp
      exact hK.out _ _ rfl (Below.refl _ _)
    | 24, ho, hF =>
      obtain rfl := Option.some.inj ho
      obtain ⟨v112, h112, s112⟩ := hF.dep 23 112 rfl rfl
      obtain rfl : v112 = .bool true := s112
      refine free_step rfl (by rfl) (fun K' hK => ?_)
      go_simp
      exact hK.out _ _ rfl (Below.refl _ _)
    | 25, ho, hF =>
      obtain rfl := Option.some.inj ho
      have h22 : a.tmps[22]? = some (.int .i64 0) := (hF.out 22 rfl).trans rfl
      obtain ⟨v113, h113, s113⟩ := hF.dep 24 113 rfl rfl
      obtain rfl : v113 = .bool true := s113
      refine free_step rfl (by show (yielded _ a.tmps 24 == some true) = true; unfold yielded; simp [h113]) (fun K' hK => ?_)
      go_simp
      exact hK.out _ _ rfl (Below.refl _ _)
    | 26, ho, hF =>
      obtain rfl := Option.some.inj ho
      obtain ⟨v114, h114, s114⟩ := hF.dep 25 114 rfl rfl
      obtain rfl : v114 = .int .i64 0 := s114
      obtain ⟨v113, h113, s113⟩ := hF.dep 24 113 rfl rfl
      obtain rfl : v113 = .bool true := s113
      refine free_step rfl (by show (yielded _ a.tmps 24 == some true) = true; unfold yielded; simp [h113]) (fun K' hK => ?_)
      go_simp
      exact hK.out _ _ rfl (Below.refl _ _)
    | 27, ho, hF =>
      obtain rfl := Option.some.inj ho
      obtain ⟨v113, h113, s113⟩ := hF.dep 24 113 rfl rfl
      obtain rfl : v113 = .bool true := s113
      obtain ⟨v115, h115, s115⟩ := hF.dep 26 115 rfl rfl
      obtain rfl : v115 = .bool true := s115
      refine free_step rfl (by rfl) (fun K' hK => ?_)
      go_simp
      exact hK.out _ _ rfl (Below.refl _ _)
    | 28, ho, hF =>
      obtain rfl := Option.some.inj ho
      obtain ⟨v116, h116, s116⟩ := hF.dep 27 116 rfl rfl
      obtain rfl : v116 = .bool true := s116
      refine free_step rfl (by rfl) (fun K' hK => ?_)
      go_simp
      exact hK.out _ _ rfl (Below.refl _ _)
    | 29, ho, hF =>
      obtain rfl := Option.some.inj ho
      have h21 : a.tmps[21]? = some (.slice z6 0 k6) := (hF.out 21 rfl).trans rfl
      obtain ⟨v117, h117, s117⟩ := hF.dep 28 117 rfl rfl
      obtain rfl : v117 = .bool true := s117
      refine free_step rfl (by show (yielded _ a.tmps 28 == some true) = true; unfold yielded; simp [h117]) (fun K' hK => ?_)
      go_simp
      exact hK.out _ _ rfl (Below.refl _ _)
    | 30, ho, hF =>
      obtain rfl := Option.some.inj ho
      obtain ⟨v118, h118, s118⟩ := hF.dep 29 118 rfl rfl
      obtain rfl : v118 = .slice z6 0 k6 := s118
      obtain ⟨v117, h117, s117⟩ := hF.dep 28 117 rfl rfl
      obtain rfl : v117 = .bool true := s117
      refine free_step rfl (by show (yielded _ a.tmps 28 == some true) = true; unfold yielded; simp [h117]) (fun K' hK => ?_)
      go_simp
      exact hK.out _ _ rfl (Below.refl _ _)
    | 31, ho, hF =>
      obtain rfl := Option.some.inj ho
      obtain ⟨v119, h119, s119⟩ := hF.dep 30 119 rfl rfl
      obtain rfl : v119 = .int .i64 0 := s119
      obtain ⟨v117, h117, s117⟩ := hF.dep 28 117 rfl rfl
      obtain rfl : v117 = .bool true := s117
      refine free_step rfl (by show (yielded _ a.tmps 28 == some true) = true; unfold yielded; simp [h117]) (fun K' hK => ?_)
      go_simp
      exact hK.out _ _ rfl (Below.refl _ _)
    | 32, ho, hF =>
      obtain rfl := Option.some.inj ho
      obtain ⟨v117, h117, s117⟩ := hF.dep 28 117 rfl rfl
      obtain rfl : v117 = .bool true := s117
      obtain ⟨v120, h120, s120⟩ := hF.dep 31 120 rfl rfl
      obtain rfl : v120 = .bool true := s120
      refine free_step rfl (by rfl) (fun K' hK => ?_)
      go_simp
      exact hK.out _ _ rfl (Below.refl _ _)
    | 33, ho, hF =>
      obtain rfl := Option.some.inj ho
      obtain ⟨v121, h121, s121⟩ := hF.dep 32 121 rfl rfl
      obtain rfl : v121 = .bool true := s121
      refine free_step rfl (by rfl) (fun K' hK => ?_)
      go_simp
      exact hK.out _ _ rfl (Below.refl _ _)
    | n + 34, ho, _ => exact absurd (Array.getElem?_eq_some_iff.1 ho).1 (by show ¬ n + 34 < 34; omega)
  · intro vs u hS hbu
    have e33 : vs 33 = .bool true := hS 33 6 rfl
    simp only [putFrom, Act.put, List.setIfInBounds_toArray, List.set_cons_succ, List.set_cons_zero, Nat.reduceAdd]
    rw [e33]
    clear hS e33
    generalize vs 0 = z0
    generalize vs 1 = z1
    generalize vs 2 = z2
    generalize vs 3 = z3
    generalize vs 4 = z4
    generalize vs 5 = z5
    generalize vs 6 = z6
    generalize vs 7 = z7
    generalize vs 8 = z8
    generalize vs 9 = z9
    generalize vs 10 = z10
    generalize vs 11 = z11
    generalize vs 12 = z12
    generalize vs 13 = z13
    generalize vs 14 = z14
    generalize vs 15 = z15
    generalize vs 16 = z16
    generalize vs 17 = z17
    generalize vs 18 = z18
    generalize vs 19 = z19
    generalize vs 20 = z20
    generalize vs 21 = z21
    generalize vs 22 = z22
    generalize vs 23 = z23
    generalize vs 24 = z24
    generalize vs 25 = z25
    generalize vs 26 = z26
    generalize vs 27 = z27
    generalize vs 28 = z28
    generalize vs 29 = z29
    generalize vs 30 = z30
    generalize vs 31 = z31
    generalize vs 32 = z32
    have HF2 := show Hid (Below w.heap.size w u) from HF.out u hbu
    clear hbu HF
    go_wp2_with fail
    go_ret
    exact ⟨rfl, HF2.out⟩
end Go.Proofs.Ythfgbcpppamboaa
