/-
  Layer 7's reference: Right.
  Package rsa: lessOne, leastCommon, rest.
  Package rsa: rest (of at most 512 bytes).
-/
import Derived.Test.YtpcmpeeflnlkpaaDoorQRight
import Derived.Test.YtpcmpeeflnlkpaaDoorNRefEtc
import Derived.Test.YtpcmpeeflnlkpaaDoorNRCmp
import Derived.Test.YtpcmpeeflnlkpaaDoorNTrEtc
namespace Go.Proofs.YtpcmpeeflnlkpaaDoor
open Go.RowKit Ch
set_option maxRecDepth 100000

theorem pow_between {a b n : Nat} (ha : 0 < a) (h1 : 256 ^ (a - 1) ≤ n) (h2 : n < 256 ^ b) : a ≤ b := by
  apply Classical.byContradiction
  intro h
  have h3 : 256 ^ b ≤ 256 ^ (a - 1) := Nat.pow_le_pow_right (by decide) (by omega)
  omega
theorem digits_len {L : List Nat} {l : List UInt8} (hA : AllD L) (hT : Tidy L) (h : numD L = numB l) : L.length = (bareL l).length := by
  have hb := bare_bare l
  have hn := numB_bare l
  generalize bareL l = m at *
  rw [← hn] at h
  have a1 := numD_lt hA
  have a2 := numB_lt m
  by_cases h0 : L = []
  · subst h0
    by_cases h1 : m = []
    · subst h1; rfl
    · have h2 := numB_ge hb h1
      have h3 : numD [] = 0 := rfl
      have h4 : 0 < 256 ^ (m.length - 1) := Nat.pow_pos (by decide)
      omega
  · have b1 := tidy_geD hT h0
    have l1 : 0 < L.length := List.length_pos_iff.2 h0
    by_cases h1 : m = []
    · subst h1
      have h3 : numB [] = 0 := rfl
      have h4 : 0 < 256 ^ (L.length - 1) := Nat.pow_pos (by decide)
      omega
    · have b2 := numB_ge hb h1
      have l2 : 0 < m.length := List.length_pos_iff.2 h1
      have c1 := pow_between l1 b1 (by rw [h]; exact a2)
      have c2 := pow_between l2 b2 (by rw [← h]; exact a1)
      omega
theorem isD_len {n : Nat} {w : World} {y : Option Addr} {l c N : Nat} {B : List UInt8} (h : IsD n w (.slice y l c) N) (hN : N = numB B) : l = (bareL B).length := by
  obtain ⟨y', c', L, hv, _, hA, hT, hn, _⟩ := h
  simp only [Value.slice.injEq] at hv
  rw [hv.2.1]
  exact digits_len hA hT (hn.trans hN)
theorem isD_first {n : Nat} {w : World} {y : Option Addr} {l c N : Nat} (h : IsD n w (.slice y l c) N) (hl : 0 < l) : ∃ b o x : Nat, y = some ⟨b, o, none⟩ ∧ w.cell? ⟨b, o, none⟩ = some (.int .i64 (x : Int)) ∧ N % 2 = x % 2 := by
  obtain ⟨y', c', L, hv, hI, hA, hT, hn, _⟩ := h
  simp only [Value.slice.injEq] at hv
  obtain ⟨rfl, rfl, rfl⟩ := hv
  match L, hl, hn, hI with
  | x :: L', _, hn, hI =>
    obtain ⟨x1, b, o, rfl, _, gc⟩ := IsN.cellAt hI (i := 0) (n := x) rfl
    refine ⟨b, o, x, rfl, by simpa using gc, ?_⟩
    rw [← hn]
    show (x + 256 * numD L') % 2 = x % 2
    omega
theorem own_three (w : World) : (w.alloc (.cells #[.int .i64 3] 3)).ownsRow w.heap.size 3 1 (.slice (some ⟨w.heap.size, 0, none⟩) 1 1) ([3] : List Nat).length (kc .i64 [3]) :=
  ⟨rfl, .inr ⟨w.heap.size, 1, #[.int .i64 3], rfl, Nat.le_refl _, heap_push_at w _, Nat.le_refl _, by unfold maxLen; omega, rfl, rfl⟩⟩
theorem isD_three (w : World) : IsD 1 (w.alloc (.cells #[.int .i64 3] 3)) (.slice (some ⟨w.heap.size, 0, none⟩) 1 1) 3 :=
  ⟨some ⟨w.heap.size, 0, none⟩, 1, [3], rfl, own_n (own_three w), fun x hx => by simp at hx; omega, rfl, rfl, Nat.le_refl _⟩
theorem cmpN_lt (M N : Nat) : cmpN M N < 0 ↔ M < N := by
  unfold cmpN
  split
  · simp [*]
  · split <;> simp [*]
theorem cmpN_ge (M N : Nat) : 0 ≤ cmpN M N ↔ ¬ M < N := by
  rw [← cmpN_lt]
  omega
set_option maxHeartbeats 8000000 in
theorem rrRight_any (x y z : Option Addr) (cx cy cz : Nat) (sN sE sD : ByteArray) (w : World) (hN : IsBytes w (.slice x sN.size cx) sN) (hE : IsBytes w (.slice y sE.size cy) sE) (hD : IsBytes w (.slice z sD.size cz) sD) (lN : sN.size ≤ 1000000) (lE : sE.size ≤ 1000000) (lD : sD.size ≤ 1000000) :
    Calls Tryd.prog 13 #[.agg #[.slice x sN.size cx, .slice y sE.size cy, .slice z sD.size cz]] w fun e w' => e = .returned (.bool (decide (rightP sN.data.toList sE.data.toList sD.data.toList))) ∧ Below w.heap.size w w' := by
  obtain ⟨q, hq⟩ : ∃ q, w.heap.size = q := ⟨_, rfl⟩
  obtain ⟨W0, hW0⟩ : ∃ W, w.alloc (.cells #[.slice x sN.size cx, .slice y sE.size cy, .slice z sD.size cz] 25) = W := ⟨_, rfl⟩
  have b0 : Below w.heap.size w W0 := by rw [← hW0]; exact alB _ _
  have hB := heap_push_at w (.cells #[.slice x sN.size cx, .slice y sE.size cy, .slice z sD.size cz] 25)
  rw [hW0, hq] at hB
  have k0 := block_cell (v := .slice x sN.size cx) 0 hB rfl
  have k1 := block_cell (v := .slice y sE.size cy) 1 hB rfl
  have k2 := block_cell (v := .slice z sD.size cz) 2 hB rfl
  have HU := show Hid (∀ u, Below W0.heap.size W0 u → u.cell? ⟨q, 0, none⟩ = some (.slice x sN.size cx) ∧ u.cell? ⟨q, 1, none⟩ = some (.slice y sE.size cy) ∧ u.cell? ⟨q, 2, none⟩ = some (.slice z sD.size cz) ∧ IsBytes u (.slice x sN.size cx) sN ∧ IsBytes u (.slice y sE.size cy) sE ∧ IsBytes u (.slice z sD.size cz) sD ∧ Below w.heap.size w u) from fun u hu =>
    ⟨(hu.cell (p := ⟨q, 0, none⟩) (block_lt hB)).trans k0, (hu.cell (p := ⟨q, 1, none⟩) (block_lt hB)).trans k1, (hu.cell (p := ⟨q, 2, none⟩) (block_lt hB)).trans k2, hN.later (bl2 b0 hu), hE.later (bl2 b0 hu), hD.later (bl2 b0 hu), bl2 b0 hu⟩
  have HL := show Hid (sN.size ≤ 1000000 ∧ sE.size ≤ 1000000 ∧ sD.size ≤ 1000000) from ⟨lN, lE, lD⟩
  have hO := digOf x cx sN W0 (HU.out W0 (Below.refl _ _)).2.2.2.1 lN
  have g0 := k0
  clear k0 k1 k2 hB b0 hN hE hD lN lE lD
  go_enter Tryd.func13, Tryd.ntmps13
  go_wp2_with fail
  refine hO.mono ?_
  rintro e w1 ⟨⟨v1, rfl, d1⟩, hb1⟩
  clear hO g0
  have g1 := (HU.out w1 hb1).2.1
  have hO := digOf y cy sE w1 (HU.out w1 hb1).2.2.2.2.1 HL.out.2.1
  go_wp2_with fail
  refine hO.mono ?_
  rintro e w2 ⟨⟨v2, rfl, d2⟩, hb2⟩
  clear hO g1
  have hb12 := bl2 hb1 hb2
  have g2 := (HU.out w2 hb12).2.2.1
  have hO := digOf z cz sD w2 (HU.out w2 hb12).2.2.2.2.2.1 HL.out.2.2
  go_wp2_with fail
  refine hO.mono ?_
  rintro e w3 ⟨⟨v3, rfl, d3⟩, hb3⟩
  clear hO g2
  obtain ⟨y1, l1, c1, rfl, _⟩ := id d1.shape
  obtain ⟨y2, l2, c2, rfl, s2, _⟩ := id d2.shape
  obtain ⟨y3, l3, c3, rfl, _⟩ := id d3.shape
  have HW := show Hid (IsD sN.size w3 (.slice y1 l1 c1) (numB sN.data.toList) ∧ IsD sE.size w3 (.slice y2 l2 c2) (numB sE.data.toList) ∧ IsD sD.size w3 (.slice y3 l3 c3) (numB sD.data.toList) ∧ True ∧ Below w.heap.size w w3 ∧ l1 = (bareL sN.data.toList).length ∧ (l2 = 0 → numB sE.data.toList = 0)) from ⟨d1.later (bl2 hb2 hb3), d2.later hb3, d3, trivial, (HU.out w3 (bl2 hb12 hb3)).2.2.2.2.2.2, isD_len d1 rfl, fun h => s2.1 h⟩
  clear d1 d2 d3 hb1 hb2 hb3 hb12 hW0 hq HU s2
  by_cases hp0 : l1 < 62
  · have hi : (l1 : Int) < 62 := by omega
    have HF := show Hid (Below w.heap.size w w3) from HW.out.2.2.2.2.1
    go_wp2_with fail
    go_ret
    exact ⟨by rw [decide_eq_false (fun h : rightP sN.data.toList sE.data.toList sD.data.toList => by have := h.1.1; have := HW.out.2.2.2.2.2.1; omega)] <;> rfl, HF.out⟩
  have hi0 : ¬ (l1 : Int) < 62 := by omega
  by_cases hp1 : 512 < l1
  · have hi : (512 : Int) < (l1 : Int) := by omega
    have HF := show Hid (Below w.heap.size w w3) from HW.out.2.2.2.2.1
    go_wp2_with fail
    go_ret
    exact ⟨by rw [decide_eq_false (fun h : rightP sN.data.toList sE.data.toList sD.data.toList => by have := h.1.2; have := HW.out.2.2.2.2.2.1; omega)] <;> rfl, HF.out⟩
  have hi1 : ¬ (512 : Int) < (l1 : Int) := by omega
  obtain ⟨b1, o1, n0, rfl, g1, hpar1⟩ := isD_first HW.out.1 (by omega)
  obtain ⟨z1, hz1⟩ : ∃ z, n0 % 2 = z := ⟨_, rfl⟩
  have q1 : (n0 : Int).tmod 2 = (z1 : Int) := by rw [Int.tmod_eq_emod_of_nonneg (by omega)]; omega
  have z12 : z1 < 2 := by omega
  have w1' : IntKind.i64.wrap (z1 : Int) = (z1 : Int) := by rw [IntKind.wrap_i64]; omega
  have hl1 : (0 : Int) < (l1 : Int) := by omega
  have HZ1 := show Hid (numB sN.data.toList % 2 = z1) from by unfold Hid; rw [hpar1, hz1]
  clear hz1 hpar1
  by_cases hp2 : z1 = 0
  · have hi : ((z1 : Int) == 0) = true := by simp [hp2]
    have HF := show Hid (Below w.heap.size w w3) from HW.out.2.2.2.2.1
    go_wp2_with fail
    go_ret
    exact ⟨by rw [decide_eq_false (fun h : rightP sN.data.toList sE.data.toList sD.data.toList => by have := h.2.1; have := HZ1.out; omega)] <;> rfl, HF.out⟩
  have hi2 : ((z1 : Int) == 0) = false := beq_eq_false_iff_ne.2 (by omega)
  by_cases hp3 : l2 = 0
  · have hi : ((l2 : Int) == 0) = true := by simp [hp3]
    have HF := show Hid (Below w.heap.size w w3) from HW.out.2.2.2.2.1
    go_wp2_with fail
    go_ret
    exact ⟨by rw [decide_eq_false (fun h : rightP sN.data.toList sE.data.toList sD.data.toList => by have := h.2.2.1; have := HW.out.2.2.2.2.2.2 hp3; omega)] <;> rfl, HF.out⟩
  have hi3 : ((l2 : Int) == 0) = false := beq_eq_false_iff_ne.2 (by omega)
  obtain ⟨b2, o2, e0, rfl, g2, hpar2⟩ := isD_first HW.out.2.1 (by omega)
  obtain ⟨z2, hz2⟩ : ∃ z, e0 % 2 = z := ⟨_, rfl⟩
  have q2 : (e0 : Int).tmod 2 = (z2 : Int) := by rw [Int.tmod_eq_emod_of_nonneg (by omega)]; omega
  have z22 : z2 < 2 := by omega
  have w2' : IntKind.i64.wrap (z2 : Int) = (z2 : Int) := by rw [IntKind.wrap_i64]; omega
  have hl2 : (0 : Int) < (l2 : Int) := by omega
  have HZ2 := show Hid (numB sE.data.toList % 2 = z2) from by unfold Hid; rw [hpar2, hz2]
  clear hz2 hpar2
  by_cases hp4 : z2 = 0
  · have hi : ((z2 : Int) == 0) = true := by simp [hp4]
    have HF := show Hid (Below w.heap.size w w3) from HW.out.2.2.2.2.1
    go_wp2_with fail
    go_ret
    exact ⟨by rw [decide_eq_false (fun h : rightP sN.data.toList sE.data.toList sD.data.toList => by have := h.2.2.1; have := HZ2.out; omega)] <;> rfl, HF.out⟩
  have hi4 : ((z2 : Int) == 0) = false := beq_eq_false_iff_ne.2 (by omega)
  obtain ⟨W4, hW4⟩ : ∃ W, w3.alloc (.cells #[.int .i64 3] 3) = W := ⟨_, rfl⟩
  have b4 : Below w3.heap.size w3 W4 := by rw [← hW4]; exact alB _ _
  have hthree : IsD 1 W4 (.slice (some ⟨w3.heap.size, 0, none⟩) 1 1) 3 := by rw [← hW4]; exact isD_three w3
  have hC := digCmp sE.size 1 _ _ (numB sE.data.toList) 3 W4 (HW.out.2.1.later b4) hthree HL.out.2.1
  have HV := show Hid (∀ u, Below W4.heap.size W4 u → IsD sN.size u (.slice (some ⟨b1, o1, none⟩) l1 c1) (numB sN.data.toList) ∧ IsD sE.size u (.slice (some ⟨b2, o2, none⟩) l2 c2) (numB sE.data.toList) ∧ IsD sD.size u (.slice y3 l3 c3) (numB sD.data.toList) ∧ Below w.heap.size w u) from fun u hu => ⟨HW.out.1.later (bl2 b4 hu), HW.out.2.1.later (bl2 b4 hu), HW.out.2.2.1.later (bl2 b4 hu), bl2 HW.out.2.2.2.2.1 (bl2 b4 hu)⟩
  have HH := show Hid ((62 ≤ (bareL sN.data.toList).length ∧ (bareL sN.data.toList).length ≤ 512) ∧ numB sN.data.toList % 2 = 1 ∧ numB sE.data.toList % 2 = 1) from ⟨by have := HW.out.2.2.2.2.2.1; omega, by have := HZ1.out; omega, by have := HZ2.out; omega⟩
  obtain ⟨ca, hca⟩ : ∃ c, cmpN (numB sE.data.toList) 3 = c := ⟨_, rfl⟩
  rw [hca] at hC
  have ha : 0 ≤ ca ↔ ¬ numB sE.data.toList < 3 := by rw [← hca]; exact cmpN_ge _ _
  clear hca b4 hthree HZ1 HZ2 HW
  go_wp2_with fail
  refine hC.mono ?_
  rintro e w5 ⟨rfl, hb5⟩
  clear hC hW4 g1 g2
  by_cases hp5 : numB sE.data.toList < 3
  · have hi : ¬ 0 ≤ ca := fun h => ha.1 h hp5
    have hd : decide (0 ≤ ca) = false := decide_eq_false hi
    have HF := show Hid (Below w.heap.size w w5) from (HV.out w5 hb5).2.2.2
    clear hb5 ha
    go_wp2_with fail
    go_ret
    exact ⟨by rw [decide_eq_false (fun h : rightP sN.data.toList sE.data.toList sD.data.toList => h.2.2.2.1 hp5)] <;> rfl, HF.out⟩
  have hi5 : 0 ≤ ca := ha.2 hp5
  have HP5 := show Hid (¬ numB sE.data.toList < 3) from hp5
  have hC := digCmp sE.size sN.size _ _ (numB sE.data.toList) (numB sN.data.toList) w5 (HV.out w5 hb5).2.1 (HV.out w5 hb5).1 HL.out.2.1
  obtain ⟨cb, hcb⟩ : ∃ c, cmpN (numB sE.data.toList) (numB sN.data.toList) = c := ⟨_, rfl⟩
  rw [hcb] at hC
  have hb : cb < 0 ↔ numB sE.data.toList < numB sN.data.toList := by rw [← hcb]; exact cmpN_lt _ _
  clear hcb ha hp5
  go_wp2_with fail
  refine hC.mono ?_
  rintro e w6 ⟨rfl, hb6⟩
  clear hC hi5
  have HB6 := show Hid (Below W4.heap.size W4 w6) from bl2 hb5 hb6
  clear hb5 hb6
  by_cases hp6 : ¬ numB sE.data.toList < numB sN.data.toList
  · have hd : decide (cb < 0) = false := decide_eq_false (fun h => hp6 (hb.1 h))
    have HF := show Hid (Below w.heap.size w w6) from (HV.out w6 HB6.out).2.2.2
    clear hb
    go_wp2_with fail
    go_ret
    exact ⟨by rw [decide_eq_false (fun h : rightP sN.data.toList sE.data.toList sD.data.toList => hp6 h.2.2.2.2.1)] <;> rfl, HF.out⟩
  have hp6 := Classical.not_not.1 hp6
  have hi6 : cb < 0 := hb.2 hp6
  have HP6 := show Hid (numB sE.data.toList < numB sN.data.toList) from hp6
  have hC := digCmp sD.size sN.size _ _ (numB sD.data.toList) (numB sN.data.toList) w6 (HV.out w6 HB6.out).2.2.1 (HV.out w6 HB6.out).1 HL.out.2.2
  obtain ⟨cd, hcd⟩ : ∃ c, cmpN (numB sD.data.toList) (numB sN.data.toList) = c := ⟨_, rfl⟩
  rw [hcd] at hC
  have hd : cd < 0 ↔ numB sD.data.toList < numB sN.data.toList := by rw [← hcd]; exact cmpN_lt _ _
  clear hcd hb hp6
  go_wp2_with fail
  refine hC.mono ?_
  rintro e w7 ⟨rfl, hb7⟩
  clear hC hi6
  have HF := show Hid (Below w.heap.size w w7) from (HV.out w7 (bl2 HB6.out hb7)).2.2.2
  clear hb7
  by_cases hp7 : ¬ numB sD.data.toList < numB sN.data.toList
  · have hdd : decide (cd < 0) = false := decide_eq_false (fun h => hp7 (hd.1 h))
    clear hd
    go_wp2_with fail
    go_ret
    exact ⟨by rw [decide_eq_false (fun h : rightP sN.data.toList sE.data.toList sD.data.toList => hp7 h.2.2.2.2.2)] <;> rfl, HF.out⟩
  have hp7 := Classical.not_not.1 hp7
  have hi7 : cd < 0 := hd.2 hp7
  clear hd
  go_wp2_with fail
  go_ret
  exact ⟨by rw [decide_eq_true (show rightP sN.data.toList sE.data.toList sD.data.toList from ⟨HH.out.1, HH.out.2.1, HH.out.2.2, HP5.out, HP6.out, hp7⟩)] <;> rfl, HF.out⟩
end Go.Proofs.YtpcmpeeflnlkpaaDoor

namespace Go.Proofs.YtpcmpeeflnlkpaaDoor
open Go.RowKit Ch
set_option maxRecDepth 100000

theorem one_byte (w : World) : IsNb 1 (w.alloc (.cells #[.int .u8 1] 5)) (.slice (some ⟨w.heap.size, 0, none⟩) 1 1) 1 := by
  refine ⟨[1], ?_, rfl, rfl, Nat.le_refl _⟩
  refine ⟨some ⟨w.heap.size, 0, none⟩, 1, rfl, Nat.le_refl _, by unfold maxLen; decide, .inr ⟨_, rfl, .inr ⟨w.heap.size, 0, rfl, by simp, ?_⟩⟩⟩
  intro i hi
  have hi' : 0 + i < 1 := hi
  obtain rfl : i = 0 := by omega
  exact block_cell 0 (heap_push_at w _) rfl
set_option maxHeartbeats 4000000 in
theorem qLessOne_any {n N : Nat} (v : Value) (w : World) (h : IsNb n w v N) (hn : n ≤ 1024) (h0 : 1 ≤ N) : Calls Tryd.prog 25 #[v] w fun e w' => (∃ x, e = .returned x ∧ IsNb n w' x (N - 1)) ∧ Below w.heap.size w w' := by
  obtain ⟨y, k, c, rfl⟩ := h.open
  obtain ⟨W1, hW1⟩ : ∃ W, w.alloc (.cells #[.int .u8 1] 5) = W := ⟨_, rfl⟩
  have b1 : Below w.heap.size w W1 := by rw [← hW1]; exact alB _ _
  have i1 : IsNb 1 W1 (.slice (some ⟨w.heap.size, 0, none⟩) 1 1) 1 := by rw [← hW1]; exact one_byte w
  have hS := nSubV (.slice y k c) (.slice (some ⟨w.heap.size, 0, none⟩) 1 1) W1 (h.later b1) i1 hn (by decide) h0
  have HB := show Hid (Below w.heap.size w W1) from b1
  clear b1 i1 h h0
  go_enter Tryd.func25, Tryd.ntmps25
  go_wp2_with fail
  refine hS.mono ?_
  rintro e w2 ⟨⟨x, rfl, i2⟩, b2⟩
  have HF := show Hid (IsNb n w2 x (N - 1) ∧ Below w.heap.size w w2) from ⟨i2, bl2 HB.out b2⟩
  clear hS i2 b2 hW1
  go_wp2_with fail
  go_ret
  exact ⟨⟨_, rfl, HF.out.1⟩, HF.out.2⟩
/-- The least number that both divide. -/
def lcmN (A B : Nat) : Nat := A / Nat.gcd A B * B
set_option maxHeartbeats 4000000 in
theorem qLeast_any {n m A B : Nat} (v u : Value) (w : World) (h1 : IsNb n w v A) (h2 : IsNb m w u B) (hn : n ≤ 1024) (hm : m ≤ 1024) (hA : 0 < A) : Calls Tryd.prog 24 #[v, u] w fun e w' => (∃ x, e = .returned x ∧ IsNb (n + m) w' x (lcmN A B)) ∧ Below w.heap.size w w' := by
  obtain ⟨y, k, c, rfl⟩ := h1.open
  obtain ⟨y2, k2, c2, rfl⟩ := h2.open
  have hG := nGcdV _ _ w h1 h2 hn hm hA
  have H := show Hid (IsNb n w (.slice y k c) A ∧ IsNb m w (.slice y2 k2 c2) B ∧ 0 < Nat.gcd A B) from ⟨h1, h2, Nat.gcd_pos_of_pos_left B hA⟩
  clear h1 h2 hA
  go_enter Tryd.func24, Tryd.ntmps24
  go_wp2_with fail
  refine hG.mono ?_
  rintro e w1 ⟨⟨x1, rfl, i1⟩, b1⟩
  obtain ⟨y3, k3, c3, rfl⟩ := i1.open
  have hD := nDivV (.slice y k c) (.slice y3 k3 c3) w1 (H.out.1.later b1) i1 hn hn H.out.2.2
  have H1 := show Hid (IsNb m w1 (.slice y2 k2 c2) B ∧ Below w.heap.size w w1) from ⟨H.out.2.1.later b1, b1⟩
  clear hG i1 b1
  go_wp2_with fail
  refine hD.mono ?_
  rintro e w2 ⟨⟨x2, x3, rfl, i2, i3⟩, b2⟩
  obtain ⟨y4, k4, c4, rfl⟩ := i2.open
  obtain ⟨y5, k5, c5, rfl⟩ := i3.open
  have hM := nMulV (.slice y4 k4 c4) (.slice y2 k2 c2) w2 i2 (H1.out.1.later b2) hn hm
  have H2 := show Hid (Below w.heap.size w w2) from bl2 H1.out.2 b2
  clear hD i2 i3 b2 H1
  go_wp2_with fail
  refine hM.mono ?_
  rintro e w3 ⟨⟨x4, rfl, i4⟩, b4⟩
  have HF := show Hid (IsNb (n + m) w3 x4 (lcmN A B) ∧ Below w.heap.size w w3) from ⟨i4, bl2 H2.out b4⟩
  clear hM i4 b4 H2
  go_wp2_with fail
  go_ret
  exact ⟨⟨_, rfl, HF.out.1⟩, HF.out.2⟩
end Go.Proofs.YtpcmpeeflnlkpaaDoor

namespace Go.Proofs.YtpcmpeeflnlkpaaDoor
open Go.RowKit Ch
set_option maxRecDepth 100000

theorem isb_le {w : World} {x : Option Addr} {n c : Nat} {s : ByteArray} (h : IsBytes w (.slice x n c) s) : n ≤ c := by
  obtain ⟨a, cap, hv, h2, _⟩ := h
  simp only [Value.slice.injEq] at hv
  omega
theorem nb_nil (w : World) : IsNb 0 w (.slice none 0 0) 0 := ⟨[], ⟨none, 0, rfl, Nat.le_refl _, by unfold maxLen; decide, .inl ⟨rfl, rfl, rfl⟩⟩, rfl, rfl, Nat.le_refl _⟩
def sliceLen : Value → Nat
  | .slice _ k _ => k
  | _ => 0
set_option maxHeartbeats 4000000 in
theorem qRest_any {m M : Nat} (E : List UInt8) (v u : Value) (w : World) (h1 : IsBytes w v ⟨E.toArray⟩) (hb : bareL E = E) (hE : E.length ≤ 512) (h2 : IsNb m w u M) (hm : m ≤ 1024) (hM : 0 < M) : Calls Tryd.prog 27 #[v, u] w fun e w' => (∃ x, e = .returned x ∧ IsNb m w' x (numB E % M)) ∧ Below w.heap.size w w' := by
  obtain ⟨y, c, rfl⟩ := isb_shape h1
  obtain ⟨y2, k2, c2, rfl⟩ := h2.open
  obtain ⟨n, hn⟩ : ∃ n, E.length = n := ⟨_, rfl⟩
  have hnc := isb_le h1
  have H := show Hid (IsBytes w (.slice y n c) ⟨E.toArray⟩ ∧ IsNb m w (.slice y2 k2 c2) M ∧ 0 < M ∧ bareL E = E ∧ E.length = n ∧ (n = 0 → numB E % M = 0) ∧ m ≤ 1024) from ⟨hn ▸ h1, h2, hM, hb, hn, fun h0 => by
    rw [List.eq_nil_of_length_eq_zero (hn.trans h0)]
    exact Nat.zero_mod M, hm⟩
  rw [hn] at hE hnc ⊢
  clear h1 h2 hM hb hn hm
  go_enter Tryd.func27, Tryd.ntmps27
  go_wp2_with fail
  go_loopw [0, 5] (fun a r wr => (a = .slice y n c ∧ r = .slice none 0 0 ∧ Hid (wr = w)) ∨ (∃ y c, a = .slice y 0 c) ∧ Hid (IsNb m wr r (numB E % M) ∧ Below w.heap.size w wr)) (fun a _ _ => sliceLen a)
  case atStart => exact .inl ⟨rfl, rfl, rfl⟩
  case round =>
    rcases hrel with ⟨rfl, rfl, hw⟩ | ⟨⟨y9, c9, rfl⟩, hr⟩
    · have hww := hw.out
      clear hw
      subst hww
      by_cases h0 : n = 0
      · subst h0
        have HF := show Hid (IsNb m wr (.slice none 0 0) (numB E % M)) from by
          unfold Hid
          rw [H.out.2.2.2.2.2.1 rfl]
          exact (nb_nil wr).more (Nat.zero_le _)
        go_wp2_with fail
        go_ret
        exact ⟨⟨_, rfl, HF.out⟩, Below.refl _ _⟩
      · have i1 : (0 : Int) < (n : Int) := by omega
        have i2 : (n : Int) ≤ 512 := by omega
        have i3 : (n : Int) ≤ (c : Int) := by omega
        have i4 : (0 : Int) ≤ (n : Int) := by omega
        have hz : (⟨E.toArray⟩ : ByteArray).size = n := by rw [size_of_list, H.out.2.2.2.2.1]
        obtain ⟨b, o, rfl, _, _⟩ := IsBytes.cellAt (s := ⟨E.toArray⟩) (by rw [hz]; exact H.out.1) (i := 0) (by omega)
        have key : ∀ (v4 : Value) (w4 : World), wr.heap.size ≤ w4.heap.size → Below wr.heap.size wr w4 → IsBytes w4 v4 ⟨E.toArray⟩ → Calls Tryd.prog 46 #[v4, .slice y2 k2 c2] w4 fun e w' => (∃ x y, e = .returned (.tuple #[x, y, .int .i64 0]) ∧ IsNb 512 w' x (numB E / M) ∧ IsNb m w' y (numB E % M)) ∧ Below w4.heap.size w4 w' := fun v4 w4 _ hb4 h4 =>
          nDivV v4 (.slice y2 k2 c2) w4 ⟨E, h4, H.out.2.2.2.1, rfl, by have := H.out.2.2.2.2.1; omega⟩ (H.out.2.1.later hb4) (by decide) H.out.2.2.2.2.2.2 H.out.2.2.1
        by_cases hcn : c = n
        · subst hcn
          have hmin : min (c : Int) 512 = (c : Int) := by omega
          clear i2 hz
          go_wp2_with (at_builtin; go_must (refine wpList_append_bytes rfl _ _ rfl wr.heap.size (.slice none 0 0) ByteArray.empty rfl (own_nil wr _ _) (.slice (some ⟨b, o, none⟩) c c) ⟨E.toArray⟩ rfl H.out.1 (by have h9 : (⟨E.toArray⟩ : ByteArray).size = E.length := size_of_list E; have h8 : ByteArray.empty.size = 0 := rfl; have := H.out.2.2.2.2.1; omega) (Nat.le_refl _) ?_; intro v4 w4 ho4 hb4; have i4' := own_bytes ho4; have hD := key v4 w4 hb4.size hb4 (by rw [cat_empty] at i4'; exact i4')))
          refine hD.mono ?_
          rintro e w5 ⟨⟨x5, y5, rfl, _, i5⟩, b5⟩
          have HF := show Hid (IsNb m w5 y5 (numB E % M) ∧ Below wr.heap.size wr w5) from ⟨i5, bl2 hb4 b5⟩
          clear hD ho4 hb4 i4' i5 b5 key
          go_wp2_with fail
          go_roundw
          case rel => exact .inr ⟨⟨_, _, by simp; exact ⟨rfl, rfl⟩⟩, HF.out⟩
          case measure => simp [sliceLen]; omega
        · have hcn' : ¬ (c : Int) = (n : Int) := by omega
          have hmin : min (n : Int) 512 = (n : Int) := by omega
          clear i2 hz
          go_wp2_with (at_builtin; go_must (refine wpList_append_bytes rfl _ _ rfl wr.heap.size (.slice none 0 0) ByteArray.empty rfl (own_nil wr _ _) (.slice (some ⟨b, o, none⟩) n c) ⟨E.toArray⟩ rfl H.out.1 (by have h9 : (⟨E.toArray⟩ : ByteArray).size = E.length := size_of_list E; have h8 : ByteArray.empty.size = 0 := rfl; have := H.out.2.2.2.2.1; omega) (Nat.le_refl _) ?_; intro v4 w4 ho4 hb4; have i4' := own_bytes ho4; have hD := key v4 w4 hb4.size hb4 (by rw [cat_empty] at i4'; exact i4')))
          refine hD.mono ?_
          rintro e w5 ⟨⟨x5, y5, rfl, _, i5⟩, b5⟩
          have HF := show Hid (IsNb m w5 y5 (numB E % M) ∧ Below wr.heap.size wr w5) from ⟨i5, bl2 hb4 b5⟩
          clear hD ho4 hb4 i4' i5 b5 key
          go_wp2_with fail
          go_roundw
          case rel => exact .inr ⟨⟨_, _, by simp; exact ⟨rfl, rfl⟩⟩, HF.out⟩
          case measure => simp [sliceLen]; omega
    · obtain ⟨r, hr6⟩ : ∃ a, a = u5 := ⟨_, rfl⟩
      subst hr6
      go_wp2_with fail
      go_ret
      exact ⟨⟨_, rfl, hr.out.1⟩, hr.out.2⟩
end Go.Proofs.YtpcmpeeflnlkpaaDoor
