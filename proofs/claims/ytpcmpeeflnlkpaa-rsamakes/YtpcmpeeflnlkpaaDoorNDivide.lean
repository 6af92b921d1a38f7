/-
  Package nat: a quotient and a rest of words.
-/
import Derived.Test.YtpcmpeeflnlkpaaDoorNGuess
import Derived.Test.YtpcmpeeflnlkpaaDoorNFromEtc
namespace Go.Proofs.YtpcmpeeflnlkpaaDoor
open Go.RowKit Ch
set_option maxRecDepth 100000

theorem short_less {A V : List Nat} (hA : AllW A) (hV : Tidy V) (h : A.length < V.length) : numW A < numW V := by
  have h1 := numW_lt hA
  have h2 := tidy_ge hV (by intro e; subst e; simp at h)
  have h3 : 18446744073709551616 ^ A.length ≤ 18446744073709551616 ^ (V.length - 1) := Nat.pow_le_pow_right (by decide) (by omega)
  omega
theorem div_of {a b q r : Nat} (h : r + b * q = a) (hr : r < b) : q = a / b ∧ r = a % b := by
  have hb : 0 < b := by omega
  rw [← h, Nat.add_mul_div_left _ _ hb, Nat.div_eq_of_lt hr, Nat.zero_add, Nat.add_mul_mod_self_left, Nat.mod_eq_of_lt hr]
  exact ⟨rfl, rfl⟩
/-- What a division leaves. -/
def Divided (n m : Nat) (w w' : World) (A B : Nat) (e : Ending) : Prop := ∃ v1 v2, e = .returned (.tuple #[v1, v2]) ∧ IsW n w' v1 (A / B) ∧ IsW m w' v2 (A % B) ∧ Below w.heap.size w w'
theorem divided_mk {n m : Nat} {w w' : World} {A B : Nat} {v1 v2 : Value} (h1 : IsW n w' v1 (A / B)) (h2 : IsW m w' v2 (A % B)) (hb : Below w.heap.size w w') : Divided n m w w' A B (.returned (.tuple #[v1, v2])) := ⟨v1, v2, rfl, h1, h2, hb⟩
theorem norm_len {V L : List Nat} {n top s : Nat} (hA : AllW V) (hl : V.length = n + 1) (ht : V[n]? = some top) (ht0 : top ≠ 0) (hs : top * 2 ^ s < 18446744073709551616) (hs63 : s ≤ 63) (hL : numW L = numW V * 2 ^ s) (hAL : AllW L) : (trimL L).length = n + 1 := by
  have h1 : numW V = top * 18446744073709551616 ^ n + pv V 0 n := by rw [← pv_full hl]; exact top_one ht
  have h2 := pv_lt hA 0 n
  have hS : 2 ^ s * 2 ^ (64 - s) = 18446744073709551616 := pow_halves (by omega)
  have h3 : (top + 1) * 2 ^ s ≤ 18446744073709551616 := by
    have h4 : top < 2 ^ (64 - s) := by
      apply Nat.lt_of_mul_lt_mul_right (a := 2 ^ s)
      rw [Nat.mul_comm (2 ^ (64 - s)), hS]
      exact hs
    have h5 := Nat.mul_le_mul_right (2 ^ s) (show top + 1 ≤ 2 ^ (64 - s) from h4)
    rw [Nat.mul_comm (2 ^ (64 - s)), hS] at h5
    exact h5
  have h6 : numW V < (top + 1) * 18446744073709551616 ^ n := by rw [h1, Nat.add_mul, Nat.one_mul]; omega
  have h7 : numW V * 2 ^ s < 18446744073709551616 ^ (n + 1) := by
    have h8 := Nat.mul_lt_mul_of_pos_right h6 (show 0 < 2 ^ s from Nat.pow_pos (by decide))
    have h9 : (top + 1) * 18446744073709551616 ^ n * 2 ^ s = 18446744073709551616 ^ n * ((top + 1) * 2 ^ s) := by
      rw [Nat.mul_comm (top + 1), Nat.mul_assoc]
    have h10 : 18446744073709551616 ^ n * ((top + 1) * 2 ^ s) ≤ 18446744073709551616 ^ n * 18446744073709551616 := Nat.mul_le_mul_left _ h3
    rw [Nat.pow_succ]
    omega
  have h11 : 18446744073709551616 ^ n ≤ numW V * 2 ^ s := by
    have h12 : 1 * 18446744073709551616 ^ n ≤ top * 18446744073709551616 ^ n := Nat.mul_le_mul_right _ (by omega)
    have h13 : numW V * 1 ≤ numW V * 2 ^ s := Nat.mul_le_mul_left _ (Nat.pow_pos (by decide))
    omega
  have hT : numW (trimL L) = numW V * 2 ^ s := by rw [numW_trim _ L rfl, hL]
  have hlt := numW_lt hAL.trim
  rw [hT] at hlt
  apply Nat.le_antisymm
  · apply Classical.byContradiction
    intro hn
    have h14 := tidy_ge (tidy_trim L) (by intro e; rw [e] at hn; simp at hn)
    rw [hT] at h14
    have h15 : 18446744073709551616 ^ (n + 1) ≤ 18446744073709551616 ^ ((trimL L).length - 1) := Nat.pow_le_pow_right (by decide) (by omega)
    omega
  · apply Classical.byContradiction
    intro hn
    have h15 : 18446744073709551616 ^ (trimL L).length ≤ 18446744073709551616 ^ n := Nat.pow_le_pow_right (by decide) (by omega)
    omega
set_option maxHeartbeats 1000000 in
theorem nDivide_short (ya yb : Option Addr) (ca cb : Nat) (A V : List Nat) (w : World) (hIA : IsN .u64 w (.slice ya A.length ca) A) (hA : AllW A) (hTA : Tidy A) (hTV : Tidy V) (h : A.length < V.length) :
    Calls Tryd.prog 48 #[.slice ya A.length ca, .slice yb V.length cb] w fun e w' => Divided A.length A.length w w' (numW A) (numW V) e := by
  have hlt := short_less hA hTV h
  have HR := show Hid (IsW A.length w (.slice none 0 0) (numW A / numW V) ∧ IsW A.length w (.slice ya A.length ca) (numW A % numW V)) from by
    rw [Nat.div_eq_of_lt hlt, Nat.mod_eq_of_lt hlt]
    exact ⟨⟨none, 0, [], rfl, ⟨none, 0, rfl, Nat.le_refl _, by unfold maxLen; omega, .inl ⟨rfl, rfl, rfl⟩⟩, (fun _ h => by cases h), rfl, rfl, Nat.zero_le _⟩, ⟨ya, ca, A, rfl, hIA, hA, hTA, rfl, Nat.le_refl _⟩⟩
  obtain ⟨na, hna⟩ : ∃ a, A.length = a := ⟨_, rfl⟩
  obtain ⟨nb, hnb⟩ : ∃ a, V.length = a := ⟨_, rfl⟩
  rw [hna, hnb] at h
  rw [hna] at HR
  rw [hna, hnb]
  have h2 : (na : Int) < (nb : Int) := by omega
  clear hna hnb hIA
  go_enter Tryd.func48, Tryd.ntmps48
  go_wp2_with fail
  go_ret2
  exact divided_mk HR.out.1 HR.out.2 (Below.refl _ _)
/-- What is known in the midst of a division. -/
structure DivIn (w wr : World) (g1 g2 g3 cD na m nb : Nat) (R Q Dv : List Nat) : Prop where
  r : RowN .u64 wr g1 R
  aR : AllW R
  lR : R.length = na + 1
  q : RowN .u64 wr g3 Q
  aQ : AllW Q
  lQ : Q.length = m
  d : IsN .u64 wr (.slice (some ⟨g2, 0, none⟩) nb cD) Dv
  b : Below w.heap.size w wr
set_option maxHeartbeats 4000000 in
theorem nDivide_long (ya yb : Option Addr) (ca cb : Nat) (A V : List Nat) (w : World) (hIA : IsN .u64 w (.slice ya A.length ca) A) (hIV : IsN .u64 w (.slice yb V.length cb) V) (hA : AllW A) (hAV : AllW V) (hTV : Tidy V) (hV0 : V ≠ []) (hle : V.length ≤ A.length) (hla : A.length ≤ 20000) :
    Calls Tryd.prog 48 #[.slice ya A.length ca, .slice yb V.length cb] w fun e w' => Divided A.length V.length w w' (numW A) (numW V) e := by
  obtain ⟨n1, hn1⟩ : ∃ a, V.length = a + 1 := ⟨V.length - 1, by have := List.length_pos_iff.2 hV0; omega⟩
  obtain ⟨top, htp⟩ : ∃ x, V[n1]? = some x := ⟨_, List.getElem?_eq_getElem (by omega)⟩
  have ht0 : top ≠ 0 := by
    have hc : V = V.take n1 ++ [top] := by
      have h1 := List.take_add_one (l := V) (i := n1)
      rw [htp, List.take_of_length_le (by omega)] at h1
      exact h1
    exact tidy_last hTV hc
  have htB := hAV.at htp
  obtain ⟨s, hs63, hsI, hnz1, hnz2⟩ := norm_bounds ht0 htB
  have hLz := fun u => Tryd.bits_LeadingZeros64 (top : Int) u (by omega) (by omega)
  rw [Int.toNat_natCast, hsI] at hLz
  obtain ⟨hvv, bv, ov, rfl, _, gt⟩ := IsN.cellAt hIV htp
  clear hvv
  have hUp1 := nShiftUp_any ya ca s A w hIA hA (by omega) (by omega)
  have hUp2 := fun u (hb : Below w.heap.size w u) => nShiftUp_any (some ⟨bv, ov, none⟩) cb s V u (hIV.later hb) hAV (by omega) (by omega)
  obtain ⟨na, hna⟩ : ∃ a, A.length = a := ⟨_, rfl⟩
  obtain ⟨nb, hnb⟩ : ∃ a, V.length = a := ⟨_, rfl⟩
  have HLEN := show Hid (A.length = na ∧ V.length = nb ∧ nb = n1 + 1) from ⟨hna, hnb, by omega⟩
  obtain ⟨cc, hcc⟩ : ∃ a, na + 1 = a := ⟨_, rfl⟩
  obtain ⟨nn, hnn⟩ : ∃ a, nb + 1 = a := ⟨_, rfl⟩
  obtain ⟨m, hm⟩ : ∃ a, cc - nb = a := ⟨_, rfl⟩
  have HCC := show Hid (na + 1 = cc ∧ nb + 1 = nn ∧ cc - nb = m) from ⟨hcc, hnn, hm⟩
  simp only [hna, hcc] at hUp1
  simp only [hnb, hnn] at hUp2
  have hab : nb ≤ na := by omega
  have hnal : na ≤ 20000 := by omega
  have hnb1 : 1 ≤ nb := by omega
  rw [hna, hnb]
  have n0 : ¬ (na : Int) < (nb : Int) := by omega
  have hn1I : (nb : Int) - 1 = (n1 : Int) := by omega
  have hn1l : (n1 : Int) < (nb : Int) := by omega
  have hmI : (cc : Int) - (nb : Int) = (m : Int) := by omega
  have hm1 : 1 ≤ m := by omega
  have hml : m ≤ cc := by omega
  have hccl : cc ≤ 20001 := by omega
  have HTOP := show Hid (V[n1]? = some top ∧ V.length = n1 + 1 ∧ top ≠ 0 ∧ top * 2 ^ s < 18446744073709551616) from ⟨htp, hn1, ht0, hnz2⟩
  clear hcc hnn hm hna hnb htp hsI hnz1 hnz2 hIA hn1 ht0 hle hla
  go_enter Tryd.func48, Tryd.ntmps48
  go_wp2_with fail
  refine (hLz w).mono ?_
  rintro e w1 ⟨rfl, rfl⟩
  clear hLz
  go_wp2_with fail
  refine hUp1.mono ?_
  rintro e w2 ⟨⟨rfl, R0, hR0, hAR0, hlR0, hNR0⟩, hb2⟩
  clear hUp1
  have hD2 := hUp2 w2 hb2
  clear hUp2
  go_wp2_with fail
  refine hD2.mono ?_
  rintro e w3 ⟨⟨rfl, L0, hL0, hAL0, hlL0, hNL0⟩, hb3⟩
  clear hD2
  have hDl : (trimL L0).length = nb := by rw [norm_len hAV HTOP.out.2.1 HTOP.out.1 HTOP.out.2.2.1 HTOP.out.2.2.2 hs63 hNL0 hAL0, HLEN.out.2.2]
  have hTr := nTrimmed_any (some ⟨w2.heap.size, 0, none⟩) nn L0 w3 (by
    have := hL0.isN (o := 0) (n := L0.length) (c := nn) (by omega) (by rw [hlL0]; exact Nat.le_refl _) (by have := HCC.out; omega)
    rw [List.drop_zero, List.take_length] at this
    exact this) (by rw [hlL0]; have := HCC.out; omega)
  rw [hlL0, hDl] at hTr
  have HG12 := show Hid (w1.heap.size < w2.heap.size ∧ RowN .u64 w3 w1.heap.size R0 ∧ Below w1.heap.size w1 w3) from ⟨hR0.lt, hR0.later hb3, hb2.trans (hb3.mono hb2.size)⟩
  go_wp2_with fail
  refine hTr.mono ?_
  rintro e w4 ⟨rfl, hDI, rfl⟩
  clear hTr
  obtain ⟨Dv, hDv⟩ : ∃ a, trimL L0 = a := ⟨_, rfl⟩
  have HDV := show Hid (AllW Dv ∧ Tidy Dv ∧ numW Dv = numW V * 2 ^ s ∧ Dv.length = nb) from by
    rw [← hDv]
    exact ⟨hAL0.trim, tidy_trim L0, by rw [numW_trim _ L0 rfl, hNL0], hDl⟩
  rw [hDv] at hDI
  obtain ⟨g1, hg1⟩ : ∃ a, w1.heap.size = a := ⟨_, rfl⟩
  obtain ⟨g2, hg2⟩ : ∃ a, w2.heap.size = a := ⟨_, rfl⟩
  have HG := show Hid (w1.heap.size = g1 ∧ g1 < g2 ∧ RowN .u64 w4 g1 R0 ∧ Below w1.heap.size w1 w4 ∧ IsN .u64 w4 (.slice (some ⟨g2, 0, none⟩) nb nn) Dv) from ⟨hg1, by rw [← hg1, ← hg2]; exact HG12.out.1, by rw [← hg1]; exact HG12.out.2.1, HG12.out.2.2, by rw [← hg2]; exact hDI⟩
  have HR0 := show Hid (AllW R0 ∧ R0.length = cc ∧ numW R0 = numW A * 2 ^ s) from ⟨hAR0, hlR0, hNR0⟩
  rw [hg1, hg2]
  clear hR0 hL0 hDI hg1 hg2 hDv hDl hAL0 hlL0 hNL0 hAR0 hlR0 hNR0 hb2 hb3 HG12 gt
  go_wp2_with (at_make; go_must (refine wpList_make_n RW w4 rfl _ _ rfl .i64 .i64 _ _ m rfl rfl rfl rfl (by omega) ?_; intro w5 ho5 hb5))
  obtain ⟨hR5, _⟩ := RowN.own ho5
  obtain ⟨g3, hg3⟩ : ∃ a, w4.heap.size = a := ⟨_, rfl⟩
  rw [hg3] at hR5
  have hd0 : ∃ d, Dv[0]? = some d := ⟨_, List.getElem?_eq_getElem (by rw [HDV.out.2.2.2]; omega)⟩
  obtain ⟨d0, hd0⟩ := hd0
  obtain ⟨hxx, bb, oo, hbo, hbl, _⟩ := IsN.cellAt HG.out.2.2.2.2 hd0
  clear hxx
  have hg23 : g2 < g3 := by
    simp only [Option.some.injEq, Addr.mk.injEq, and_true] at hbo
    rw [hbo.1, ← hg3]
    exact hbl
  have hg13 : g1 < g3 := by rw [← hg3]; exact HG.out.2.2.1.lt
  have HGG := show Hid (g1 < g3 ∧ g2 < g3 ∧ g1 < g2 ∧ w1.heap.size = g1) from ⟨hg13, hg23, HG.out.2.1, HG.out.1⟩
  have HI0 := show Hid (DivIn w1 w5 g1 g2 g3 nn na m nb R0 (List.replicate m 0) Dv) from ⟨HG.out.2.2.1.later hb5, HR0.out.1, by rw [HR0.out.2.1]; exact HCC.out.1.symm, hR5, allW_zero _, by simp, HG.out.2.2.2.2.later hb5, HG.out.2.2.2.1.trans (hb5.mono HG.out.2.2.2.1.size)⟩
  obtain ⟨D, hD⟩ : ∃ a, numW Dv = a := ⟨_, rfl⟩
  have hS0 : 0 < 2 ^ s := Nat.pow_pos (by decide)
  have hVp : 0 < numW V := by
    apply Nat.pos_of_ne_zero
    intro h
    exact hV0 ((tidy_nil hTV).1 h)
  have HD := show Hid (numW Dv = D ∧ D = numW V * 2 ^ s ∧ 0 < D ∧ D < 18446744073709551616 ^ nb) from by
    have h1 : D = numW V * 2 ^ s := by rw [← hD, HDV.out.2.2.1]
    refine ⟨hD, h1, by rw [h1]; exact Nat.mul_pos hVp hS0, ?_⟩
    have h2 := numW_lt HDV.out.1
    rw [HDV.out.2.2.2, hD] at h2
    exact h2
  have HE0 := show Hid (numW (R0.drop m) < D ∧ numW R0 + D * (18446744073709551616 ^ m * numW ((List.replicate m 0).drop m)) = numW A * 2 ^ s) from by
    refine ⟨?_, ?_⟩
    · rw [HD.out.2.1]
      have h1 := div_first (R := R0) (la := na) (n := nb) (A := numW A) (Bn := numW V) (S := 2 ^ s) (by rw [HR0.out.2.1]; exact HCC.out.1.symm) HR0.out.2.2 (by rw [← HLEN.out.1]; exact numW_lt hA) (by rw [← HLEN.out.2.1]; exact tidy_ge hTV hV0) hS0 hnb1 hab
      rw [show m = na + 1 - nb by have := HCC.out; omega]
      exact h1
    · rw [List.drop_of_length_le (by simp), HR0.out.2.2]
      simp [numW]
  rw [hg3]
  clear hR5 ho5 hb5 hg3 hd0 hbo hbl hg23 hg13 hD HG HR0
  go_wp2_with fail
  go_loopw [10] (fun p wr => ∃ (j : Nat) (R Q : List Nat), j ≤ m ∧ p = .int .i64 ((j : Int) - 1) ∧ Hid (DivIn w1 wr g1 g2 g3 nn na m nb R Q Dv) ∧ Hid (numW (R.drop j) < D ∧ numW R + D * (18446744073709551616 ^ j * numW (Q.drop j)) = numW A * 2 ^ s)) (fun p _ => (intOf p + 1).toNat)
  case atStart => exact ⟨m, R0, List.replicate m 0, Nat.le_refl _, by first | rfl | (congr 1; omega), HI0.out, HE0.out⟩
  case round =>
    obtain ⟨j, R, Q, hj, rfl, hI, hE⟩ := hrel
    by_cases hj0 : j = 0
    · have hjn : ¬ (0 : Int) ≤ (j : Int) - 1 := by omega
      have hQR : numW Q = numW A / numW V ∧ numW R = (numW A % numW V) * 2 ^ s := by
        have h1 := hE.out
        rw [hj0, List.drop_zero, List.drop_zero, Nat.pow_zero, Nat.one_mul] at h1
        obtain ⟨h2, h3⟩ := div_of h1.2 h1.1
        rw [HD.out.2.1, Nat.mul_div_mul_right _ _ hS0] at h2
        rw [HD.out.2.1, Nat.mul_mod_mul_right] at h3
        exact ⟨h2, h3⟩
      have HQR := show Hid (numW Q = numW A / numW V ∧ numW R = (numW A % numW V) * 2 ^ s) from hQR
      have hTq := nTrimmed_any (some ⟨g3, 0, none⟩) m Q wr (by
        have := hI.out.q.isN (o := 0) (n := Q.length) (c := m) (by omega) (by rw [hI.out.lQ]; exact Nat.le_refl _) (by omega)
        rw [List.drop_zero, List.take_length] at this
        exact this) (by rw [hI.out.lQ]; omega)
      rw [hI.out.lQ] at hTq
      have hlR : R.length = cc := by rw [hI.out.lR]; exact HCC.out.1
      have hDn := nShiftDown_any (some ⟨g1, 0, none⟩) cc s R wr (by
        have := hI.out.r.isN (o := 0) (n := R.length) (c := cc) (by omega) (by rw [hlR]; exact Nat.le_refl _) (by omega)
        rw [List.drop_zero, List.take_length] at this
        exact this) hI.out.aR (by rw [hlR]; omega) (by omega)
      rw [hlR] at hDn
      clear hE hQR hj0
      go_wp2_with fail
      refine hTq.mono ?_
      rintro e w6 ⟨rfl, hI6, rfl⟩
      clear hTq
      go_wp2_with fail
      refine hDn.mono ?_
      rintro e w7 ⟨⟨rfl, L7, hL7, hA7, hl7, hN7⟩, hb7⟩
      clear hDn
      have hT7 := nTrimmed_any (some ⟨w6.heap.size, 0, none⟩) cc L7 w7 (by
        have := hL7.isN (o := 0) (n := L7.length) (c := cc) (by omega) (by rw [hl7]; exact Nat.le_refl _) (by omega)
        rw [List.drop_zero, List.take_length] at this
        exact this) (by rw [hl7]; omega)
      rw [hl7] at hT7
      go_wp2_with fail
      refine hT7.mono ?_
      rintro e w8 ⟨rfl, hI8, rfl⟩
      clear hT7
      have HW1 := show Hid (IsW na w8 (.slice (some ⟨g3, 0, none⟩) (trimL Q).length m) (numW A / numW V)) from (isW_trim hI6 hI.out.aQ HQR.out.1 (by rw [hI.out.lQ]; have := HCC.out; omega)).later hb7
      have HW2 := show Hid (IsW nb w8 (.slice (some ⟨w6.heap.size, 0, none⟩) (trimL L7).length cc) (numW A % numW V)) from by
        have hN8 : numW L7 = numW A % numW V := by rw [hN7, HQR.out.2, Nat.mul_div_cancel _ hS0]
        obtain ⟨y, c, L, h1, h2, h3, h4, h5, h6⟩ := isW_trim (n := cc) hI8 hA7 hN8 (by rw [hl7]; exact Nat.le_refl _)
        refine ⟨y, c, L, h1, h2, h3, h4, h5, ?_⟩
        rw [← HLEN.out.2.1]
        exact tidy_len h4 hAV (by rw [h5]; exact Nat.le_of_lt (Nat.mod_lt _ hVp))
      have HB8 := show Hid (Below w1.heap.size w1 w8) from hI.out.b.trans (hb7.mono hI.out.b.size)
      clear hI6 hI8 hL7 hb7
      go_wp2_with fail
      go_ret2
      exact divided_mk HW1.out HW2.out HB8.out
    · obtain ⟨i, hji⟩ : ∃ i, j = i + 1 := ⟨j - 1, by omega⟩
      have hjI : (j : Int) - 1 = (i : Int) := by omega
      have hi0 : (0 : Int) ≤ (i : Int) := by omega
      have him : (i : Int) < (m : Int) := by omega
      obtain ⟨e1, he1⟩ : ∃ a, i + nb = a := ⟨_, rfl⟩
      obtain ⟨e2, he2⟩ : ∃ a, e1 + 1 = a := ⟨_, rfl⟩
      have he1I : (i : Int) + (nb : Int) = (e1 : Int) := by omega
      have he2I : (e1 : Int) + 1 = (e2 : Int) := by omega
      have q2 : e2 ≤ cc := by have := HCC.out; omega
      have q1i : (i : Int) ≤ (e2 : Int) := by omega
      have q2i : (e2 : Int) ≤ (cc : Int) := by omega
      have q4 : ¬ cc = i := by omega
      have q5 : i ≤ cc := by omega
      have q6 : e2 - i = nn := by have := HCC.out; omega
      have q7 : ((e2 : Int) - (i : Int)).toNat = nn := by have := HCC.out; omega
      have q8 : (e2 : Int) - (i : Int) = (nn : Int) := by have := HCC.out; omega
      obtain ⟨x, hx⟩ : ∃ x, R[i]? = some x := ⟨_, List.getElem?_eq_getElem (by rw [hI.out.lR]; have := HCC.out; omega)⟩
      obtain ⟨yq, hyq⟩ : ∃ x, Q[i]? = some x := ⟨_, List.getElem?_eq_getElem (by rw [hI.out.lQ]; omega)⟩
      have hinR : i + (nb + 1) ≤ R.length := by rw [hI.out.lR]; have := HCC.out; omega
      obtain ⟨U, hU⟩ : ∃ a, numW (R.drop i) = a := ⟨_, rfl⟩
      have hUD : U < 18446744073709551616 * D := by
        have h1 := hE.out.1
        have h2 := numW_drop hx
        have h3 := hI.out.aR.at hx
        rw [hji] at h1
        rw [hU] at h2
        omega
      have hUX : U < 18446744073709551616 ^ (nb + 1) := by
        have h1 : 18446744073709551616 * D < 18446744073709551616 * 18446744073709551616 ^ nb := Nat.mul_lt_mul_of_pos_left HD.out.2.2.2 (by decide)
        rw [Nat.pow_succ, Nat.mul_comm (18446744073709551616 ^ nb)]
        omega
      have hpv : pv R i (nb + 1) = U := by rw [(piece_all hinR (by rw [hU]; exact hUX)).2, hU]
      have hGs := nGuess_any g1 i (cc - i) nb nn (some ⟨g2, 0, none⟩) ((R.drop i).take (nb + 1)) Dv wr (hI.out.r.isN hinR (by omega) (by omega)) hI.out.d ((hI.out.aR.drop i).take _) HDV.out.1 (by rw [List.length_take, List.length_drop]; omega) HDV.out.2.2.2 hnb1 (by omega) (fun z hz => by
          have hc : Dv = Dv.take (nb - 1) ++ [z] := by
            have h1 := List.take_add_one (l := Dv) (i := nb - 1)
            rw [hz, List.take_of_length_le (by rw [HDV.out.2.2.2]; omega)] at h1
            exact h1
          exact tidy_last HDV.out.2.1 hc) (by
          show pv R i (nb + 1) < _
          rw [hpv, HD.out.1]
          exact hUD)
      have hpP : numW ((R.drop i).take (nb + 1)) = U := hpv
      rw [hpP, HD.out.1, HCC.out.2.1] at hGs
      have HP := show Hid (pv R i nn = U ∧ U < 18446744073709551616 ^ nn ∧ numW (R.drop i) = U ∧ i + nn ≤ R.length ∧ j = i + 1 ∧ Q[i]? = some yq) from ⟨by rw [← HCC.out.2.1]; exact hpv, by rw [← HCC.out.2.1]; exact hUX, hU, by rw [← HCC.out.2.1]; exact hinR, hji, hyq⟩
      clear hx hU hUX hpv hpP hinR he1 he2 hji hj0 hyq
      go_wp2_with fail
      refine hGs.mono ?_
      rintro e w6 ⟨T, rfl, hT1, hT2, hTB, hb6⟩
      clear hGs
      have hq6 := hI.out.q.later hb6
      have gq6 := hq6.cell HP.out.2.2.2.2.2
      have gf6 := hq6.free i
      obtain ⟨w7, hw7⟩ : ∃ a, w6.setCell ⟨g3, i, none⟩ (.int .u64 (T : Int)) = a := ⟨_, rfl⟩
      have hgr7 : w6.grownBy w7 (some g3) := by rw [← hw7]; exact grown_cell w6 ⟨g3, i, none⟩ _
      have hR7 : RowN .u64 w7 g1 R := (hI.out.r.later hb6).grown hgr7 (by intro h; have := Option.some.inj h; have := HGG.out; omega)
      have hQ7 : RowN .u64 w7 g3 (Q.set i T) := by rw [← hw7]; exact hq6.set HP.out.2.2.2.2.2 T
      have hD7 : IsN .u64 w7 (.slice (some ⟨g2, 0, none⟩) nb nn) Dv := (hI.out.d.later hb6).grown hgr7 (by have := HGG.out; omega)
      have hb7 : Below w1.heap.size w1 w7 := (hI.out.b.trans (hb6.mono hI.out.b.size)).grown hgr7 (Nat.le_trans hI.out.b.size hb6.size) (fun b hb => by obtain rfl : g3 = b := Option.some.inj hb; have := HGG.out; omega)
      have hQi : (Q.set i T)[i]? = some T := by rw [List.getElem?_set_self (List.getElem?_eq_some_iff.1 HP.out.2.2.2.2.2).1]
      have gq7 := hQ7.cell hQi
      have hTk := nTakeFrom_any g1 i nn (cc - i) nn T (some ⟨g2, 0, none⟩) Dv R w7 hR7 hI.out.aR HP.out.2.2.2.1 (by rw [HDV.out.2.2.2]; have := HCC.out; omega) (by omega) (by have := HCC.out; omega) HDV.out.1 hTB (fun u hu => by
        rw [HDV.out.2.2.2]
        exact hD7.grown hu (by have := HGG.out; omega))
      rw [HDV.out.2.2.2] at hTk
      have HJ7 := show Hid (RowN .u64 w7 g1 R ∧ RowN .u64 w7 g3 (Q.set i T) ∧ IsN .u64 w7 (.slice (some ⟨g2, 0, none⟩) nb nn) Dv ∧ Below w1.heap.size w1 w7 ∧ (Q.set i T)[i]? = some T) from ⟨hR7, hQ7, hD7, hb7, hQi⟩
      have HT := show Hid (U / D ≤ T ∧ T ≤ U / D + 1) from ⟨hT1, hT2⟩
      clear hgr7 hR7 hQ7 hD7 hb7 hQi hq6 hb6 hT1 hT2
      go_wp2_with fail
      refine hTk.mono ?_
      rintro e w8 ⟨Rb, L', k, rfl, hRk, hW, hE8⟩
      clear hTk
      rw [HP.out.1, HD.out.1] at hE8
      have hDX : D ≤ 18446744073709551616 ^ nn := by
        have h1 : 18446744073709551616 ^ nb ≤ 18446744073709551616 ^ nn := Nat.pow_le_pow_right (by decide) (by have := HCC.out; omega)
        have := HD.out.2.2.2
        omega
      obtain ⟨tg1, tg2⟩ := take_guess HD.out.2.2.1 hDX HP.out.2.1 HT.out.1 HT.out.2 (pv_lt hW.2.1 i nn) hE8
      have hQ8 : RowN .u64 w8 g3 (Q.set i T) := HJ7.out.2.1.grown hW.2.2.2.2 (by intro h; have := Option.some.inj h; have := HGG.out; omega)
      have hD8 : IsN .u64 w8 (.slice (some ⟨g2, 0, none⟩) nb nn) Dv := HJ7.out.2.2.1.grown hW.2.2.2.2 (by have := HGG.out; omega)
      have hb8 : Below w1.heap.size w1 w8 := HJ7.out.2.2.2.1.grown hW.2.2.2.2 HJ7.out.2.2.2.1.size (fun b hb => by obtain rfl : g1 = b := Option.some.inj hb; have := HGG.out; omega)
      have hE1 := hE.out.2
      rw [HP.out.2.2.2.2.1] at hE1
      cases Rb
      · have hk0 : k = 0 := by
          apply Classical.byContradiction
          intro h
          have := hRk.2 h
          cases this
        obtain ⟨hTe, hPe⟩ := tg1 hk0
        have hdp := div_place (n := nb) (R := R) (R' := L') (Q := Q) (D := D) (N0 := numW A * 2 ^ s) (j := i) (U := U) (q := T) hW.2.2.1 (by rw [HCC.out.2.1]; exact HP.out.2.2.2.1) (by rw [HCC.out.2.1]; exact hW.2.2.2.1) HP.out.2.2.1.symm (by rw [HCC.out.2.1]; exact HP.out.2.1) (by rw [HCC.out.2.1]; exact hPe) hTe HD.out.2.2.1 HP.out.2.2.2.2.2 hE1
        have HN := show Hid (DivIn w1 w8 g1 g2 g3 nn na m nb L' (Q.set i T) Dv ∧ (numW (L'.drop i) < D ∧ numW L' + D * (18446744073709551616 ^ i * numW ((Q.set i T).drop i)) = numW A * 2 ^ s)) from ⟨⟨hW.1, hW.2.1, by rw [hW.2.2.1]; exact hI.out.lR, hQ8, hI.out.aQ.set _ hTB, by rw [List.length_set]; exact hI.out.lQ, hD8, hb8⟩, hdp⟩
        have hjj : i < j := by have := HP.out.2.2.2.2.1; omega
        clear hW hE8 tg1 tg2 hQ8 hD8 hb8 hE1 hdp hPe hTe hRk hI hE HJ7
        go_wp2_with fail
        go_roundw
        case rel => exact ⟨i, L', Q.set i T, by omega, by first | rfl | go_num, HN.out.1, HN.out.2⟩
        case measure => simp [intOf]; omega
      · have hk0 : k ≠ 0 := hRk.1 rfl
        obtain ⟨hTe, hPe⟩ := tg2 hk0
        have gq8 := hQ8.cell HJ7.out.2.2.2.2
        have gf8 := hQ8.free i
        obtain ⟨T', hT'⟩ : ∃ a, T - 1 = a := ⟨_, rfl⟩
        have hTge : 1 ≤ T := by rw [hTe]; exact Nat.le_add_left _ _
        have hT'I : (T : Int) - 1 = (T' : Int) := by omega
        have wT' : IntKind.u64.wrap (T' : Int) = (T' : Int) := by rw [IntKind.wrap_u64]; omega
        have hT'e := show Hid (T' = U / D) from by unfold Hid; rw [← hT', hTe]; exact Nat.add_sub_cancel _ _
        have hT'B : T' < 18446744073709551616 := by omega
        obtain ⟨w9, hw9⟩ : ∃ a, w8.setCell ⟨g3, i, none⟩ (.int .u64 (T' : Int)) = a := ⟨_, rfl⟩
        have hgr9 : w8.grownBy w9 (some g3) := by rw [← hw9]; exact grown_cell w8 ⟨g3, i, none⟩ _
        have hR9 : RowN .u64 w9 g1 L' := hW.1.grown hgr9 (by intro h; have := Option.some.inj h; have := HGG.out; omega)
        have hQ9 : RowN .u64 w9 g3 (Q.set i T') := by
          have := hQ8.set HJ7.out.2.2.2.2 T'
          rw [hw9, List.set_set] at this
          exact this
        have hD9 : IsN .u64 w9 (.slice (some ⟨g2, 0, none⟩) nb nn) Dv := hD8.grown hgr9 (by have := HGG.out; omega)
        have hb9 : Below w1.heap.size w1 w9 := hb8.grown hgr9 hb8.size (fun b hb => by obtain rfl : g3 = b := Option.some.inj hb; have := HGG.out; omega)
        have hAd := nAddTo_any g1 i nn (cc - i) nn (some ⟨g2, 0, none⟩) Dv L' w9 hR9 hW.2.1 (by rw [hW.2.2.1]; exact HP.out.2.2.2.1) (by rw [HDV.out.2.2.2]; have := HCC.out; omega) (by have := HCC.out; omega) HDV.out.1 (fun u hu => by
          rw [HDV.out.2.2.2]
          exact hD9.grown hu (by have := HGG.out; omega))
        rw [HDV.out.2.2.2] at hAd
        have HJ9 := show Hid (RowN .u64 w9 g3 (Q.set i T') ∧ IsN .u64 w9 (.slice (some ⟨g2, 0, none⟩) nb nn) Dv ∧ Below w1.heap.size w1 w9) from ⟨hQ9, hD9, hb9⟩
        have HW8 := show Hid (Wrote w7 w8 g1 R L' i nn) from hW
        have HPE := show Hid (∀ P' c', P' < 18446744073709551616 ^ nn → P' + c' * 18446744073709551616 ^ nn = pv L' i nn + D → P' = U % D) from hPe
        have HE1 := show Hid (numW R + D * (18446744073709551616 ^ (i + 1) * numW (Q.drop (i + 1))) = numW A * 2 ^ s) from hE1
        clear hW hE8 tg1 tg2 hQ8 hD8 hb8 hE1 hPe hTe hRk hE hgr9 hR9 hQ9 hD9 hb9 hT'
        go_wp2_with fail
        refine hAd.mono ?_
        rintro e w10 ⟨rfl, L2, hW2, k2, hk2, hE2⟩
        clear hAd
        rw [HD.out.1] at hE2
        have hPe2 := HPE.out _ _ (pv_lt hW2.2.1 i nn) hE2
        have hdp := div_place (n := nb) (R := R) (R' := L2) (Q := Q) (D := D) (N0 := numW A * 2 ^ s) (j := i) (U := U) (q := T') (by rw [hW2.2.2.1, HW8.out.2.2.1]) (by rw [HCC.out.2.1]; exact HP.out.2.2.2.1) (by rw [HCC.out.2.1]; exact fun z hz => (hW2.2.2.2.1 z hz).trans (HW8.out.2.2.2.1 z hz)) HP.out.2.2.1.symm (by rw [HCC.out.2.1]; exact HP.out.2.1) (by rw [HCC.out.2.1]; exact hPe2) hT'e.out HD.out.2.2.1 HP.out.2.2.2.2.2 HE1.out
        have HN := show Hid (DivIn w1 w10 g1 g2 g3 nn na m nb L2 (Q.set i T') Dv ∧ (numW (L2.drop i) < D ∧ numW L2 + D * (18446744073709551616 ^ i * numW ((Q.set i T').drop i)) = numW A * 2 ^ s)) from ⟨⟨hW2.1, hW2.2.1, by rw [hW2.2.2.1, HW8.out.2.2.1]; exact hI.out.lR, HJ9.out.1.grown hW2.2.2.2.2 (by intro h; have := Option.some.inj h; have := HGG.out; omega), hI.out.aQ.set _ hT'B, by rw [List.length_set]; exact hI.out.lQ, HJ9.out.2.1.grown hW2.2.2.2.2 (by have := HGG.out; omega), HJ9.out.2.2.grown hW2.2.2.2.2 HJ9.out.2.2.size (fun b hb => by obtain rfl : g1 = b := Option.some.inj hb; have := HGG.out; omega)⟩, hdp⟩
        have hjj : i < j := by have := HP.out.2.2.2.2.1; omega
        clear hW2 hE2 hdp hPe2 hI HJ7 HW8 HPE HE1 HJ9 hT'e
        go_wp2_with fail
        go_roundw
        case rel => exact ⟨i, L2, Q.set i T', by omega, by first | rfl | go_num, HN.out.1, HN.out.2⟩
        case measure => simp [intOf]; omega
end Go.Proofs.YtpcmpeeflnlkpaaDoor
