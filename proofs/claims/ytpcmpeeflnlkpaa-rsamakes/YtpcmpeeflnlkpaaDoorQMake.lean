/-
  Package rsa: Make (of numbers of at most 512 bytes each).
-/
import Derived.Test.YtpcmpeeflnlkpaaDoorQRRightEtc
import Derived.Test.YtpcmpeeflnlkpaaDoorQRight
namespace Go.Proofs.YtpcmpeeflnlkpaaDoor
open Go.RowKit Ch
set_option maxRecDepth 100000

theorem rBelowV (l : List UInt8) (v : Value) (w : World) (h : IsBytes w v ⟨l.toArray⟩) (hl : l.length ≤ 1000000) : Calls Tryd.prog 20 #[v] w fun e w' => e = .returned (.bool (decide (numB l < 3))) ∧ Below w.heap.size w w' := by
  obtain ⟨y, c, rfl⟩ := isb_shape h
  have hz : (⟨l.toArray⟩ : ByteArray).size = l.length := size_of_list l
  have := rBelow_any y c ⟨l.toArray⟩ w (by rw [hz]; exact h) (by rw [hz]; exact hl)
  rw [hz] at this
  exact this
theorem rightV (v1 v2 v3 : Value) (N E D : List UInt8) (w : World) (hN : IsBytes w v1 ⟨N.toArray⟩) (hE : IsBytes w v2 ⟨E.toArray⟩) (hD : IsBytes w v3 ⟨D.toArray⟩) (lN : N.length ≤ 1000000) (lE : E.length ≤ 1000000) (lD : D.length ≤ 1000000) :
    Calls Tryd.prog 14 #[.agg #[v1, v2, v3]] w fun e w' => e = .returned (.bool (decide (rightP N E D))) ∧ Below w.heap.size w w' := by
  obtain ⟨x, cx, rfl⟩ := isb_shape hN
  obtain ⟨y, cy, rfl⟩ := isb_shape hE
  obtain ⟨z, cz, rfl⟩ := isb_shape hD
  have h1 : (⟨N.toArray⟩ : ByteArray).size = N.length := size_of_list N
  have h2 : (⟨E.toArray⟩ : ByteArray).size = E.length := size_of_list E
  have h3 : (⟨D.toArray⟩ : ByteArray).size = D.length := size_of_list D
  have := rRight_any x y z cx cy cz ⟨N.toArray⟩ ⟨E.toArray⟩ ⟨D.toArray⟩ w (by rw [h1]; exact hN) (by rw [h2]; exact hE) (by rw [h3]; exact hD) (by rw [h1]; exact lN) (by rw [h2]; exact lE) (by rw [h3]; exact lD)
  rw [h1, h2, h3] at this
  exact this
theorem eqV (u v : Value) (A B : List UInt8) (w : World) (h1 : IsBytes w u ⟨A.toArray⟩) (h2 : IsBytes w v ⟨B.toArray⟩) (hA : bareL A = A) (hB : bareL B = B) : Calls Tryd.prog 21 #[u, v] w fun e w' => e = .returned (.bool (decide (numB A = numB B))) ∧ w' = w := by
  have c1 := h1.convert
  have c2 := h2.convert
  have tS : ((⟨A.toArray⟩ : ByteArray).toList == (⟨B.toArray⟩ : ByteArray).toList) = decide (numB A = numB B) := by
    rw [Lib.toList_data, Lib.toList_data]
    show (A.toArray.toList == B.toArray.toList) = _
    rw [List.toList_toArray, List.toList_toArray]
    by_cases h : numB A = numB B
    · rw [decide_eq_true h, numB_inj hA hB h]
      simp
    · rw [decide_eq_false h]
      exact beq_eq_false_iff_ne.2 (fun e => h (by rw [e]))
  obtain ⟨T, hT⟩ : ∃ T, decide (numB A = numB B) = T := ⟨_, rfl⟩
  rw [hT] at tS ⊢
  obtain ⟨SA, hSA⟩ : ∃ S : ByteArray, (⟨A.toArray⟩ : ByteArray) = S := ⟨_, rfl⟩
  obtain ⟨SB, hSB⟩ : ∃ S : ByteArray, (⟨B.toArray⟩ : ByteArray) = S := ⟨_, rfl⟩
  rw [hSA] at c1 tS
  rw [hSB] at c2 tS
  clear h1 h2 hA hB hT hSA hSB
  go_enter Tryd.func21, Tryd.ntmps21
  go_wp2_with fail
  go_ret
  exact ⟨rfl, rfl⟩
theorem lcm_two {A B : Nat} (hA : 0 < A) (hB : 2 ≤ B) : 2 ≤ lcmN A B := by
  unfold lcmN
  have h1 : 1 ≤ A / Nat.gcd A B := (Nat.le_div_iff_mul_le (Nat.gcd_pos_of_pos_left B hA)).2 (by rw [Nat.one_mul]; exact Nat.gcd_le_left B hA)
  have h2 := Nat.mul_le_mul_right B h1
  omega
/-- A key was made. -/
def MakeOk (p z ee : Nat) (E : List UInt8) (w' : World) (v1 v2 v3 : Value) : Prop := (3 ≤ p ∧ 3 ≤ z ∧ p ≠ z) ∧ ∃ (R D : List UInt8) (K : Nat), IsBytes w' v1 ⟨R.toArray⟩ ∧ IsBytes w' v2 ⟨(bareL E).toArray⟩ ∧ IsBytes w' v3 ⟨D.toArray⟩ ∧ bareL R = R ∧ numB R = p * z ∧ (62 ≤ R.length ∧ R.length ≤ 512) ∧ bareL D = D ∧ numB D = K ∧ K < lcmN (p - 1) (z - 1) ∧ K * (ee % lcmN (p - 1) (z - 1)) % lcmN (p - 1) (z - 1) = 1 ∧ rightP R (bareL E) D
/-- What Make answers. -/
def MakeSays (p z ee : Nat) (E : List UInt8) (e : Ending) (w' : World) : Prop :=
  ((p < 3 ∨ z < 3 ∨ p = z) ∧ e = .returned (.tuple #[.agg #[.slice none 0 0, .slice none 0 0, .slice none 0 0], .int .i64 2])) ∨
  ((3 ≤ p ∧ 3 ≤ z ∧ p ≠ z) ∧ (∃ R : List UInt8, bareL R = R ∧ numB R = p * z ∧ ¬ (62 ≤ R.length ∧ R.length ≤ 512)) ∧ e = .returned (.tuple #[.agg #[.slice none 0 0, .slice none 0 0, .slice none 0 0], .int .i64 21])) ∨
  ((3 ≤ p ∧ 3 ≤ z ∧ p ≠ z) ∧ (∃ R : List UInt8, bareL R = R ∧ numB R = p * z ∧ (62 ≤ R.length ∧ R.length ≤ 512)) ∧ Nat.gcd (ee % lcmN (p - 1) (z - 1)) (lcmN (p - 1) (z - 1)) ≠ 1 ∧ e = .returned (.tuple #[.agg #[.slice none 0 0, .slice none 0 0, .slice none 0 0], .int .i64 20])) ∨
  ((3 ≤ p ∧ 3 ≤ z ∧ p ≠ z) ∧ (∃ (R D : List UInt8) (K : Nat), bareL R = R ∧ numB R = p * z ∧ (62 ≤ R.length ∧ R.length ≤ 512) ∧ bareL D = D ∧ numB D = K ∧ K < lcmN (p - 1) (z - 1) ∧ K * (ee % lcmN (p - 1) (z - 1)) % lcmN (p - 1) (z - 1) = 1 ∧ ¬ rightP R (bareL E) D) ∧ e = .returned (.tuple #[.agg #[.slice none 0 0, .slice none 0 0, .slice none 0 0], .int .i64 2])) ∨
  ∃ v1 v2 v3, e = .returned (.tuple #[.agg #[v1, v2, v3], .int .i64 0]) ∧ MakeOk p z ee E w' v1 v2 v3
set_option maxHeartbeats 16000000 in
theorem qMake_any (P Q E : List UInt8) (v1 v2 v3 : Value) (w : World) (h1 : IsBytes w v1 ⟨P.toArray⟩) (h2 : IsBytes w v2 ⟨Q.toArray⟩) (h3 : IsBytes w v3 ⟨E.toArray⟩) (lP : P.length ≤ 512) (lQ : Q.length ≤ 512) (lE : E.length ≤ 512) :
    Calls Tryd.prog 5 #[v1, v2, v3] w fun e w' => MakeSays (numB P) (numB Q) (numB E) E e w' ∧ Below w.heap.size w w' := by
  obtain ⟨yp, kp, cp, rfl⟩ := isb_open h1
  obtain ⟨yq, kq, cq, rfl⟩ := isb_open h2
  obtain ⟨ye, ke, ce, rfl⟩ := isb_open h3
  obtain ⟨p, hp⟩ : ∃ n, numB P = n := ⟨_, rfl⟩
  obtain ⟨z, hz⟩ : ∃ n, numB Q = n := ⟨_, rfl⟩
  obtain ⟨ee, hee⟩ : ∃ n, numB E = n := ⟨_, rfl⟩
  have HP := show Hid (numB P = p ∧ numB Q = z ∧ numB E = ee) from ⟨hp, hz, hee⟩
  have HL := show Hid (P.length ≤ 512 ∧ Q.length ≤ 512 ∧ E.length ≤ 512) from ⟨lP, lQ, lE⟩
  obtain ⟨q, hq⟩ : ∃ q, w.heap.size = q := ⟨_, rfl⟩
  obtain ⟨W0, hW0⟩ : ∃ W, w.alloc (.cells #[.slice none 0 0, .slice none 0 0, .slice none 0 0] 25) = W := ⟨_, rfl⟩
  have kb0 := keyBox w (.slice none 0 0) (.slice none 0 0) (.slice none 0 0)
  rw [hW0, hq] at kb0
  have HB0 := show Hid (W0.heap[q]? = some (.cells #[.slice none 0 0, .slice none 0 0, .slice none 0 0] 25 (0, 0)) ∧ Below w.heap.size w W0 ∧ w.heap.size = q) from ⟨kb0.at0, kb0.below, hq⟩
  have hT1 := nTrimV P _ W0 (h1.later kb0.below) (by omega)
  have H := show Hid (IsBytes W0 (.slice yq kq cq) ⟨Q.toArray⟩ ∧ IsBytes W0 (.slice ye ke ce) ⟨E.toArray⟩) from ⟨h2.later kb0.below, h3.later kb0.below⟩
  rw [hp, hz, hee]
  clear hp hz hee kb0 h1 h2 h3 lP lQ lE
  go_enter Tryd.func5, Tryd.ntmps5
  go_wp2_with fail
  refine hT1.mono ?_
  rintro e w1 ⟨⟨x1, rfl, i1⟩, b1⟩
  obtain ⟨y1, k1, c1, rfl⟩ := isb_open i1
  have hT2 := nTrimV Q _ w1 (H.out.1.later b1) (by have := HL.out; omega)
  have H1 := show Hid (IsBytes w1 (.slice y1 k1 c1) ⟨(bareL P).toArray⟩ ∧ IsBytes w1 (.slice ye ke ce) ⟨E.toArray⟩ ∧ Below W0.heap.size W0 w1) from ⟨i1, H.out.2.later b1, b1⟩
  clear hT1 i1 b1 H hW0
  go_wp2_with fail
  refine hT2.mono ?_
  rintro e w2 ⟨⟨x2, rfl, i2⟩, b2⟩
  obtain ⟨y2, k2, c2, rfl⟩ := isb_open i2
  have hT3 := nTrimV E _ w2 (H1.out.2.1.later b2) (by have := HL.out; omega)
  have H2 := show Hid (IsBytes w2 (.slice y1 k1 c1) ⟨(bareL P).toArray⟩ ∧ IsBytes w2 (.slice y2 k2 c2) ⟨(bareL Q).toArray⟩ ∧ Below W0.heap.size W0 w2) from ⟨H1.out.1.later b2, i2, bl2 H1.out.2.2 b2⟩
  clear hT2 i2 b2 H1
  go_wp2_with fail
  refine hT3.mono ?_
  rintro e w3 ⟨⟨x3, rfl, i3⟩, b3⟩
  obtain ⟨y3, k3, c3, rfl⟩ := isb_open i3
  have H3 := show Hid (IsBytes w3 (.slice y1 k1 c1) ⟨(bareL P).toArray⟩ ∧ IsBytes w3 (.slice y2 k2 c2) ⟨(bareL Q).toArray⟩ ∧ IsBytes w3 (.slice y3 k3 c3) ⟨(bareL E).toArray⟩ ∧ Below W0.heap.size W0 w3) from ⟨H2.out.1.later b3, H2.out.2.1.later b3, i3, bl2 H2.out.2.2 b3⟩
  have hB1 := rBelowV (bareL P) (.slice y1 k1 c1) w3 H3.out.1 (by have := bare_leQ P; have := HL.out; omega)
  rw [numB_bare, HP.out.1] at hB1
  clear hT3 i3 b3 H2
  by_cases cp : p < 3
  · rw [decide_eq_true cp] at hB1
    have HC := show Hid (p < 3 ∨ z < 3 ∨ p = z) from .inl cp
    clear cp
    go_wp2_with fail
    refine hB1.mono ?_
    rintro e w4 ⟨rfl, b4⟩
    have H4 := show Hid (Below W0.heap.size W0 w4) from bl2 H3.out.2.2.2 b4
    clear hB1 b4
    have hqE := (H4.out).block q (block_lt HB0.out.1)
    have hqB := hqE.trans HB0.out.1
    have f0 := block_free 0 hqB
    have f1 := block_free 1 hqB
    have f2 := block_free 2 hqB
    have g0 := block_cell (v := .slice none 0 0) 0 hqB rfl
    have g1 := block_cell (v := .slice none 0 0) 1 hqB rfl
    have g2 := block_cell (v := .slice none 0 0) 2 hqB rfl
    have HE := show Hid (_ ∧ _) from key_stored (.slice none 0 0) (.slice none 0 0) (.slice none 0 0) hqB
    have HBW := show Hid (Below w.heap.size w w4) from bl2 HB0.out.2.1 (H4.out)
    clear hqE hqB
    go_wp2_with fail
    generalize (((w4.setCell ⟨q, 0, none⟩ (.slice none 0 0)).setCell ⟨q, 1, none⟩ (.slice none 0 0)).setCell ⟨q, 2, none⟩ (.slice none 0 0)) = W5 at *
    obtain ⟨hb5, hk5⟩ := HE.out
    have q0 := block_cell (v := .slice none 0 0) 0 hb5 rfl
    have q1 := block_cell (v := .slice none 0 0) 1 hb5 rfl
    have q2 := block_cell (v := .slice none 0 0) 2 hb5 rfl
    have HF := show Hid (Below w.heap.size w W5) from HBW.out.trans (hk5.below HBW.out.size (fun p hp => by simp at hp; have := HB0.out.2.2; omega))
    (try simp only [Exit.inBlock, Exit.then])
    refine bodyPost_ret (v := .tuple #[.agg #[.slice none 0 0, .slice none 0 0, .slice none 0 0], .int .i64 2]) (by simp [results, Tryd.results5, go_sem, q0, q1, q2]) rfl ⟨.inl ⟨HC.out, rfl⟩, HF.out⟩
  · rw [decide_eq_false cp] at hB1
    go_wp2_with fail
    refine hB1.mono ?_
    rintro e w4 ⟨rfl, b4⟩
    have H4 := show Hid (IsBytes w4 (.slice y1 k1 c1) ⟨(bareL P).toArray⟩ ∧ IsBytes w4 (.slice y2 k2 c2) ⟨(bareL Q).toArray⟩ ∧ IsBytes w4 (.slice y3 k3 c3) ⟨(bareL E).toArray⟩ ∧ Below W0.heap.size W0 w4) from ⟨H3.out.1.later b4, H3.out.2.1.later b4, H3.out.2.2.1.later b4, bl2 H3.out.2.2.2 b4⟩
    have hB2 := rBelowV (bareL Q) (.slice y2 k2 c2) w4 H4.out.2.1 (by have := bare_leQ Q; have := HL.out; omega)
    rw [numB_bare, HP.out.2.1] at hB2
    clear hB1 b4 H3
    by_cases cq : z < 3
    · rw [decide_eq_true cq] at hB2
      have HC := show Hid (p < 3 ∨ z < 3 ∨ p = z) from .inr (.inl cq)
      clear cp cq
      go_wp2_with fail
      refine hB2.mono ?_
      rintro e w5 ⟨rfl, b5⟩
      have H5 := show Hid (Below W0.heap.size W0 w5) from bl2 H4.out.2.2.2 b5
      clear hB2 b5
      have hqE := (H5.out).block q (block_lt HB0.out.1)
      have hqB := hqE.trans HB0.out.1
      have f0 := block_free 0 hqB
      have f1 := block_free 1 hqB
      have f2 := block_free 2 hqB
      have g0 := block_cell (v := .slice none 0 0) 0 hqB rfl
      have g1 := block_cell (v := .slice none 0 0) 1 hqB rfl
      have g2 := block_cell (v := .slice none 0 0) 2 hqB rfl
      have HE := show Hid (_ ∧ _) from key_stored (.slice none 0 0) (.slice none 0 0) (.slice none 0 0) hqB
      have HBW := show Hid (Below w.heap.size w w5) from bl2 HB0.out.2.1 (H5.out)
      clear hqE hqB
      go_wp2_with fail
      generalize (((w5.setCell ⟨q, 0, none⟩ (.slice none 0 0)).setCell ⟨q, 1, none⟩ (.slice none 0 0)).setCell ⟨q, 2, none⟩ (.slice none 0 0)) = W5 at *
      obtain ⟨hb5, hk5⟩ := HE.out
      have q0 := block_cell (v := .slice none 0 0) 0 hb5 rfl
      have q1 := block_cell (v := .slice none 0 0) 1 hb5 rfl
      have q2 := block_cell (v := .slice none 0 0) 2 hb5 rfl
      have HF := show Hid (Below w.heap.size w W5) from HBW.out.trans (hk5.below HBW.out.size (fun p hp => by simp at hp; have := HB0.out.2.2; omega))
      (try simp only [Exit.inBlock, Exit.then])
      refine bodyPost_ret (v := .tuple #[.agg #[.slice none 0 0, .slice none 0 0, .slice none 0 0], .int .i64 2]) (by simp [results, Tryd.results5, go_sem, q0, q1, q2]) rfl ⟨.inl ⟨HC.out, rfl⟩, HF.out⟩
    · rw [decide_eq_false cq] at hB2
      go_wp2_with fail
      refine hB2.mono ?_
      rintro e w5 ⟨rfl, b5⟩
      have H5 := show Hid (IsBytes w5 (.slice y1 k1 c1) ⟨(bareL P).toArray⟩ ∧ IsBytes w5 (.slice y2 k2 c2) ⟨(bareL Q).toArray⟩ ∧ IsBytes w5 (.slice y3 k3 c3) ⟨(bareL E).toArray⟩ ∧ Below W0.heap.size W0 w5) from ⟨H4.out.1.later b5, H4.out.2.1.later b5, H4.out.2.2.1.later b5, bl2 H4.out.2.2.2 b5⟩
      have hEq := eqV (.slice y1 k1 c1) (.slice y2 k2 c2) (bareL P) (bareL Q) w5 H5.out.1 H5.out.2.1 (bare_bare _) (bare_bare _)
      rw [numB_bare, numB_bare, HP.out.1, HP.out.2.1] at hEq
      clear hB2 b5 H4
      by_cases ce : p = z
      · rw [decide_eq_true ce] at hEq
        have HC := show Hid (p < 3 ∨ z < 3 ∨ p = z) from .inr (.inr ce)
        clear cp cq ce
        go_wp2_with fail
        refine hEq.mono ?_
        rintro e w6 ⟨rfl, rfl⟩
        have H6 := show Hid (Below W0.heap.size W0 w6) from H5.out.2.2.2
        clear hEq
        have hqE := (H6.out).block q (block_lt HB0.out.1)
        have hqB := hqE.trans HB0.out.1
        have f0 := block_free 0 hqB
        have f1 := block_free 1 hqB
        have f2 := block_free 2 hqB
        have g0 := block_cell (v := .slice none 0 0) 0 hqB rfl
        have g1 := block_cell (v := .slice none 0 0) 1 hqB rfl
        have g2 := block_cell (v := .slice none 0 0) 2 hqB rfl
        have HE := show Hid (_ ∧ _) from key_stored (.slice none 0 0) (.slice none 0 0) (.slice none 0 0) hqB
        have HBW := show Hid (Below w.heap.size w w6) from bl2 HB0.out.2.1 (H6.out)
        clear hqE hqB
        go_wp2_with fail
        generalize (((w6.setCell ⟨q, 0, none⟩ (.slice none 0 0)).setCell ⟨q, 1, none⟩ (.slice none 0 0)).setCell ⟨q, 2, none⟩ (.slice none 0 0)) = W5 at *
        obtain ⟨hb5, hk5⟩ := HE.out
        have q0 := block_cell (v := .slice none 0 0) 0 hb5 rfl
        have q1 := block_cell (v := .slice none 0 0) 1 hb5 rfl
        have q2 := block_cell (v := .slice none 0 0) 2 hb5 rfl
        have HF := show Hid (Below w.heap.size w W5) from HBW.out.trans (hk5.below HBW.out.size (fun p hp => by simp at hp; have := HB0.out.2.2; omega))
        (try simp only [Exit.inBlock, Exit.then])
        refine bodyPost_ret (v := .tuple #[.agg #[.slice none 0 0, .slice none 0 0, .slice none 0 0], .int .i64 2]) (by simp [results, Tryd.results5, go_sem, q0, q1, q2]) rfl ⟨.inl ⟨HC.out, rfl⟩, HF.out⟩
      · rw [decide_eq_false ce] at hEq
        have HC := show Hid (3 ≤ p ∧ 3 ≤ z ∧ p ≠ z) from ⟨by omega, by omega, ce⟩
        clear cp cq ce
        go_wp2_with fail
        refine hEq.mono ?_
        rintro e w6 ⟨rfl, rfl⟩
        clear hEq
        have nP : IsNb 512 w6 (.slice y1 k1 c1) p := ⟨bareL P, H5.out.1, bare_bare _, by rw [numB_bare]; exact HP.out.1, by have := bare_leQ P; have := HL.out; omega⟩
        have nQ : IsNb 512 w6 (.slice y2 k2 c2) z := ⟨bareL Q, H5.out.2.1, bare_bare _, by rw [numB_bare]; exact HP.out.2.1, by have := bare_leQ Q; have := HL.out; omega⟩
        have hM := nMulV (.slice y1 k1 c1) (.slice y2 k2 c2) w6 nP nQ (by decide) (by decide)
        have H6 := show Hid (IsNb 512 w6 (.slice y1 k1 c1) p ∧ IsNb 512 w6 (.slice y2 k2 c2) z ∧ IsBytes w6 (.slice y3 k3 c3) ⟨(bareL E).toArray⟩ ∧ Below W0.heap.size W0 w6) from ⟨nP, nQ, H5.out.2.2⟩
        clear nP nQ H5
        go_wp2_with fail
        refine hM.mono ?_
        rintro e w7 ⟨⟨x7, rfl, R, i7, rb7, rn7, rl7⟩, b7⟩
        obtain ⟨y7, c7, rfl⟩ := isb_shape i7
        obtain ⟨k7, hk7⟩ : ∃ k, R.length = k := ⟨_, rfl⟩
        rw [hk7] at i7 rl7 ⊢
        have H7 := show Hid (IsNb 512 w7 (.slice y1 k1 c1) p ∧ IsNb 512 w7 (.slice y2 k2 c2) z ∧ IsBytes w7 (.slice y3 k3 c3) ⟨(bareL E).toArray⟩ ∧ IsBytes w7 (.slice y7 k7 c7) ⟨R.toArray⟩ ∧ Below W0.heap.size W0 w7) from ⟨H6.out.1.later b7, H6.out.2.1.later b7, H6.out.2.2.1.later b7, i7, bl2 H6.out.2.2.2 b7⟩
        have HR := show Hid (bareL R = R ∧ numB R = p * z ∧ R.length = k7) from ⟨rb7, rn7, hk7⟩
        have hFt := rFits_any k7 w7 (by omega)
        clear hM i7 b7 H6 rb7 rn7 hk7 rl7
        by_cases cf : 62 ≤ k7 ∧ k7 ≤ 512
        · rw [decide_eq_true cf] at hFt
          have HFt := show Hid (62 ≤ k7 ∧ k7 ≤ 512) from cf
          clear cf
          go_wp2_with fail
          refine hFt.mono ?_
          rintro e w8 ⟨rfl, rfl⟩
          clear hFt
          have hL1 := qLessOne_any (.slice y1 k1 c1) w8 H7.out.1 (by decide) (by have := HC.out; omega)
          go_wp2_with fail
          refine hL1.mono ?_
          rintro e w9 ⟨⟨x9, rfl, i9⟩, b9⟩
          obtain ⟨y9, k9, c9, rfl⟩ := i9.open
          have hL2 := qLessOne_any (.slice y2 k2 c2) w9 (H7.out.2.1.later b9) (by decide) (by have := HC.out; omega)
          have H9 := show Hid (IsNb 512 w9 (.slice y9 k9 c9) (p - 1) ∧ IsBytes w9 (.slice y3 k3 c3) ⟨(bareL E).toArray⟩ ∧ IsBytes w9 (.slice y7 k7 c7) ⟨R.toArray⟩ ∧ Below W0.heap.size W0 w9) from ⟨i9, H7.out.2.2.1.later b9, H7.out.2.2.2.1.later b9, bl2 H7.out.2.2.2.2 b9⟩
          clear hL1 i9 b9 H7
          go_wp2_with fail
          refine hL2.mono ?_
          rintro e w10 ⟨⟨x10, rfl, i10⟩, b10⟩
          obtain ⟨y10, k10, c10, rfl⟩ := i10.open
          have hLc := qLeast_any (.slice y9 k9 c9) (.slice y10 k10 c10) w10 (H9.out.1.later b10) i10 (by decide) (by decide) (by have := HC.out; omega)
          have H10 := show Hid (IsBytes w10 (.slice y3 k3 c3) ⟨(bareL E).toArray⟩ ∧ IsBytes w10 (.slice y7 k7 c7) ⟨R.toArray⟩ ∧ Below W0.heap.size W0 w10) from ⟨H9.out.2.1.later b10, H9.out.2.2.1.later b10, bl2 H9.out.2.2.2 b10⟩
          clear hL2 i10 b10 H9
          go_wp2_with fail
          refine hLc.mono ?_
          rintro e w11 ⟨⟨x11, rfl, i11⟩, b11⟩
          obtain ⟨y11, k11, c11, rfl⟩ := i11.open
          have HL2 := show Hid (2 ≤ lcmN (p - 1) (z - 1)) from lcm_two (by have := HC.out; omega) (by have := HC.out; omega)
          have hRs := qRest_any (bareL E) (.slice y3 k3 c3) (.slice y11 k11 c11) w11 (H10.out.1.later b11) (bare_bare _) (by have := bare_leQ E; have := HL.out; omega) i11 (by decide) (by have := HL2.out; omega)
          rw [numB_bare, HP.out.2.2] at hRs
          have H11 := show Hid (IsNb (512 + 512) w11 (.slice y11 k11 c11) (lcmN (p - 1) (z - 1)) ∧ IsBytes w11 (.slice y3 k3 c3) ⟨(bareL E).toArray⟩ ∧ IsBytes w11 (.slice y7 k7 c7) ⟨R.toArray⟩ ∧ Below W0.heap.size W0 w11) from ⟨i11, H10.out.1.later b11, H10.out.2.1.later b11, bl2 H10.out.2.2 b11⟩
          clear hLc i11 b11 H10
          go_wp2_with fail
          refine hRs.mono ?_
          rintro e w12 ⟨⟨x12, rfl, i12⟩, b12⟩
          obtain ⟨y12, k12, c12, rfl⟩ := i12.open
          have hIv := nInvV (.slice y12 k12 c12) (.slice y11 k11 c11) w12 i12 (H11.out.1.later b12) (by decide) (by decide) HL2.out
          have H12 := show Hid (IsBytes w12 (.slice y3 k3 c3) ⟨(bareL E).toArray⟩ ∧ IsBytes w12 (.slice y7 k7 c7) ⟨R.toArray⟩ ∧ Below W0.heap.size W0 w12) from ⟨H11.out.2.1.later b12, H11.out.2.2.1.later b12, bl2 H11.out.2.2.2 b12⟩
          clear hRs i12 b12 H11
          go_wp2_with fail
          refine hIv.mono ?_
          rintro e w13 ⟨⟨hg, x13, K, rfl, i13, hK1, hK2⟩ | ⟨hg, rfl⟩, b13⟩
          · obtain ⟨D, j13, db, dn, dl⟩ := i13
            obtain ⟨y13, k13, c13, rfl⟩ := isb_open j13
            have HK := show Hid (Nat.gcd (ee % lcmN (p - 1) (z - 1)) (lcmN (p - 1) (z - 1)) = 1 ∧ K < lcmN (p - 1) (z - 1) ∧ K * (ee % lcmN (p - 1) (z - 1)) % lcmN (p - 1) (z - 1) = 1 ∧ bareL D = D ∧ numB D = K ∧ D.length ≤ 1024) from ⟨hg, hK1, hK2, db, dn, dl⟩
            have H13 := show Hid (IsBytes w13 (.slice y3 k3 c3) ⟨(bareL E).toArray⟩ ∧ IsBytes w13 (.slice y7 k7 c7) ⟨R.toArray⟩ ∧ IsBytes w13 (.slice y13 k13 c13) ⟨D.toArray⟩ ∧ Below W0.heap.size W0 w13) from ⟨H12.out.1.later b13, H12.out.2.1.later b13, j13, bl2 H12.out.2.2 b13⟩
            obtain ⟨q2, hq2⟩ : ∃ q, w13.heap.size = q := ⟨_, rfl⟩
            obtain ⟨W14, hW14⟩ : ∃ W, w13.alloc (.cells #[.slice y7 k7 c7, .slice y3 k3 c3, .slice y13 k13 c13] 25) = W := ⟨_, rfl⟩
            have kb := keyBox w13 (.slice y7 k7 c7) (.slice y3 k3 c3) (.slice y13 k13 c13)
            rw [hW14, hq2] at kb
            have HKB := show Hid (KeyBox w13 W14 q2 (.slice y7 k7 c7) (.slice y3 k3 c3) (.slice y13 k13 c13)) from kb
            obtain ⟨⟨r0, r1, r2⟩, _⟩ := And.intro (kb.cells (Below.refl _ W14)) trivial
            have hRt := rightV (.slice y7 k7 c7) (.slice y3 k3 c3) (.slice y13 k13 c13) R (bareL E) D W14 (H13.out.2.1.later kb.below) (H13.out.1.later kb.below) (H13.out.2.2.1.later kb.below) (by have := HR.out.2.2; have := HFt.out; omega) (by have := bare_leQ E; have := HL.out; omega) (by have := HK.out.2.2.2.2.2; omega)
            clear hIv hg hK1 hK2 db dn dl j13 b13 H12 kb
            by_cases cr : rightP R (bareL E) D
            · rw [decide_eq_true cr] at hRt
              have HCr := show Hid (rightP R (bareL E) D) from cr
              clear cr
              go_wp2_with fail
              refine hRt.mono ?_
              rintro e w15 ⟨rfl, b15⟩
              clear hRt hW14 r0 r1 r2
              obtain ⟨⟨r0, r1, r2⟩, _⟩ := And.intro (HKB.out.cells b15) trivial
              have hb013 := bl2 HKB.out.below b15
              have hb015 := bl2 H13.out.2.2.2 hb013
              have hqB := (hb015.block q (block_lt HB0.out.1)).trans HB0.out.1
              have f0 := block_free 0 hqB
              have f1 := block_free 1 hqB
              have f2 := block_free 2 hqB
              have g0 := block_cell (v := .slice none 0 0) 0 hqB rfl
              have g1 := block_cell (v := .slice none 0 0) 1 hqB rfl
              have g2 := block_cell (v := .slice none 0 0) 2 hqB rfl
              have HE := show Hid (_ ∧ _) from key_stored (.slice y7 k7 c7) (.slice y3 k3 c3) (.slice y13 k13 c13) hqB
              have HBW := show Hid (Below w.heap.size w w15 ∧ IsBytes w15 (.slice y3 k3 c3) ⟨(bareL E).toArray⟩ ∧ IsBytes w15 (.slice y7 k7 c7) ⟨R.toArray⟩ ∧ IsBytes w15 (.slice y13 k13 c13) ⟨D.toArray⟩ ∧ BoxN w15 q) from ⟨bl2 HB0.out.2.1 hb015, H13.out.1.later hb013, H13.out.2.1.later hb013, H13.out.2.2.1.later hb013, boxN_nil hqB⟩
              clear hqB hb013 hb015 b15 H13
              go_wp2_with fail
              generalize (((w15.setCell ⟨q, 0, none⟩ (.slice y7 k7 c7)).setCell ⟨q, 1, none⟩ (.slice y3 k3 c3)).setCell ⟨q, 2, none⟩ (.slice y13 k13 c13)) = W5 at *
              obtain ⟨hb5, hk5⟩ := HE.out
              have q0 := block_cell (v := .slice y7 k7 c7) 0 hb5 rfl
              have q1 := block_cell (v := .slice y3 k3 c3) 1 hb5 rfl
              have q2' := block_cell (v := .slice y13 k13 c13) 2 hb5 rfl
              have HF := show Hid (Below w.heap.size w W5) from HBW.out.1.trans (hk5.below HBW.out.1.size (fun p hp => by simp at hp; have := HB0.out.2.2; omega))
              have HF2 := show Hid (MakeOk p z ee E W5 (.slice y7 k7 c7) (.slice y3 k3 c3) (.slice y13 k13 c13)) from ⟨HC.out, R, D, K, HBW.out.2.2.1.keptN hk5 (allc HBW.out.2.2.2.2 alln), HBW.out.2.1.keptN hk5 (allc HBW.out.2.2.2.2 alln), HBW.out.2.2.2.1.keptN hk5 (allc HBW.out.2.2.2.2 alln), HR.out.1, HR.out.2.1, by rw [HR.out.2.2]; exact HFt.out, HK.out.2.2.2.1, HK.out.2.2.2.2.1, HK.out.2.1, HK.out.2.2.1, HCr.out⟩
              (try simp only [Exit.inBlock, Exit.then])
              refine bodyPost_ret (v := .tuple #[.agg #[.slice y7 k7 c7, .slice y3 k3 c3, .slice y13 k13 c13], .int .i64 0]) (by simp [results, Tryd.results5, go_sem, q0, q1, q2']) rfl ⟨.inr (.inr (.inr (.inr ⟨_, _, _, rfl, HF2.out⟩))), HF.out⟩
            · rw [decide_eq_false cr] at hRt
              have HCr := show Hid (¬ rightP R (bareL E) D) from cr
              clear cr
              go_wp2_with fail
              refine hRt.mono ?_
              rintro e w15 ⟨rfl, b15⟩
              clear hRt hW14 r0 r1 r2
              have H15 := show Hid (Below W0.heap.size W0 w15) from bl2 H13.out.2.2.2 (bl2 HKB.out.below b15)
              clear b15
              have hqE := (H15.out).block q (block_lt HB0.out.1)
              have hqB := hqE.trans HB0.out.1
              have f0 := block_free 0 hqB
              have f1 := block_free 1 hqB
              have f2 := block_free 2 hqB
              have g0 := block_cell (v := .slice none 0 0) 0 hqB rfl
              have g1 := block_cell (v := .slice none 0 0) 1 hqB rfl
              have g2 := block_cell (v := .slice none 0 0) 2 hqB rfl
              have HE := show Hid (_ ∧ _) from key_stored (.slice none 0 0) (.slice none 0 0) (.slice none 0 0) hqB
              have HBW := show Hid (Below w.heap.size w w15) from bl2 HB0.out.2.1 (H15.out)
              clear hqE hqB
              go_wp2_with fail
              generalize (((w15.setCell ⟨q, 0, none⟩ (.slice none 0 0)).setCell ⟨q, 1, none⟩ (.slice none 0 0)).setCell ⟨q, 2, none⟩ (.slice none 0 0)) = W5 at *
              obtain ⟨hb5, hk5⟩ := HE.out
              have q0 := block_cell (v := .slice none 0 0) 0 hb5 rfl
              have q1 := block_cell (v := .slice none 0 0) 1 hb5 rfl
              have q2 := block_cell (v := .slice none 0 0) 2 hb5 rfl
              have HF := show Hid (Below w.heap.size w W5) from HBW.out.trans (hk5.below HBW.out.size (fun p hp => by simp at hp; have := HB0.out.2.2; omega))
              (try simp only [Exit.inBlock, Exit.then])
              refine bodyPost_ret (v := .tuple #[.agg #[.slice none 0 0, .slice none 0 0, .slice none 0 0], .int .i64 2]) (by simp [results, Tryd.results5, go_sem, q0, q1, q2]) rfl ⟨.inr (.inr (.inr (.inl ⟨HC.out, ⟨R, D, K, HR.out.1, HR.out.2.1, by rw [HR.out.2.2]; exact HFt.out, HK.out.2.2.2.1, HK.out.2.2.2.2.1, HK.out.2.1, HK.out.2.2.1, HCr.out⟩, rfl⟩))), HF.out⟩
          · have HG := show Hid (Nat.gcd (ee % lcmN (p - 1) (z - 1)) (lcmN (p - 1) (z - 1)) ≠ 1) from hg
            have H13 := show Hid (Below W0.heap.size W0 w13) from bl2 H12.out.2.2 b13
            clear hIv b13 hg
            have hqE := (H13.out).block q (block_lt HB0.out.1)
            have hqB := hqE.trans HB0.out.1
            have f0 := block_free 0 hqB
            have f1 := block_free 1 hqB
            have f2 := block_free 2 hqB
            have g0 := block_cell (v := .slice none 0 0) 0 hqB rfl
            have g1 := block_cell (v := .slice none 0 0) 1 hqB rfl
            have g2 := block_cell (v := .slice none 0 0) 2 hqB rfl
            have HE := show Hid (_ ∧ _) from key_stored (.slice none 0 0) (.slice none 0 0) (.slice none 0 0) hqB
            have HBW := show Hid (Below w.heap.size w w13) from bl2 HB0.out.2.1 (H13.out)
            clear hqE hqB
            go_wp2_with fail
            generalize (((w13.setCell ⟨q, 0, none⟩ (.slice none 0 0)).setCell ⟨q, 1, none⟩ (.slice none 0 0)).setCell ⟨q, 2, none⟩ (.slice none 0 0)) = W5 at *
            obtain ⟨hb5, hk5⟩ := HE.out
            have q0 := block_cell (v := .slice none 0 0) 0 hb5 rfl
            have q1 := block_cell (v := .slice none 0 0) 1 hb5 rfl
            have q2 := block_cell (v := .slice none 0 0) 2 hb5 rfl
            have HF := show Hid (Below w.heap.size w W5) from HBW.out.trans (hk5.below HBW.out.size (fun p hp => by simp at hp; have := HB0.out.2.2; omega))
            (try simp only [Exit.inBlock, Exit.then])
            refine bodyPost_ret (v := .tuple #[.agg #[.slice none 0 0, .slice none 0 0, .slice none 0 0], .int .i64 20]) (by simp [results, Tryd.results5, go_sem, q0, q1, q2]) rfl ⟨.inr (.inr (.inl ⟨HC.out, ⟨R, HR.out.1, HR.out.2.1, by rw [HR.out.2.2]; exact HFt.out⟩, HG.out, rfl⟩)), HF.out⟩
        · rw [decide_eq_false cf] at hFt
          have HFt := show Hid (¬ (62 ≤ k7 ∧ k7 ≤ 512)) from cf
          clear cf
          go_wp2_with fail
          refine hFt.mono ?_
          rintro e w8 ⟨rfl, rfl⟩
          have H8 := show Hid (Below W0.heap.size W0 w8) from H7.out.2.2.2.2
          clear hFt
          have hqE := (H8.out).block q (block_lt HB0.out.1)
          have hqB := hqE.trans HB0.out.1
          have f0 := block_free 0 hqB
          have f1 := block_free 1 hqB
          have f2 := block_free 2 hqB
          have g0 := block_cell (v := .slice none 0 0) 0 hqB rfl
          have g1 := block_cell (v := .slice none 0 0) 1 hqB rfl
          have g2 := block_cell (v := .slice none 0 0) 2 hqB rfl
          have HE := show Hid (_ ∧ _) from key_stored (.slice none 0 0) (.slice none 0 0) (.slice none 0 0) hqB
          have HBW := show Hid (Below w.heap.size w w8) from bl2 HB0.out.2.1 (H8.out)
          clear hqE hqB
          go_wp2_with fail
          generalize (((w8.setCell ⟨q, 0, none⟩ (.slice none 0 0)).setCell ⟨q, 1, none⟩ (.slice none 0 0)).setCell ⟨q, 2, none⟩ (.slice none 0 0)) = W5 at *
          obtain ⟨hb5, hk5⟩ := HE.out
          have q0 := block_cell (v := .slice none 0 0) 0 hb5 rfl
          have q1 := block_cell (v := .slice none 0 0) 1 hb5 rfl
          have q2 := block_cell (v := .slice none 0 0) 2 hb5 rfl
          have HF := show Hid (Below w.heap.size w W5) from HBW.out.trans (hk5.below HBW.out.size (fun p hp => by simp at hp; have := HB0.out.2.2; omega))
          (try simp only [Exit.inBlock, Exit.then])
          refine bodyPost_ret (v := .tuple #[.agg #[.slice none 0 0, .slice none 0 0, .slice none 0 0], .int .i64 21]) (by simp [results, Tryd.results5, go_sem, q0, q1, q2]) rfl ⟨.inr (.inl ⟨HC.out, ⟨R, HR.out.1, HR.out.2.1, by rw [HR.out.2.2]; exact HFt.out⟩, rfl⟩), HF.out⟩
end Go.Proofs.YtpcmpeeflnlkpaaDoor
