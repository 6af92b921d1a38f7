/-
  The document's Exp and Gcd.
  Layer 7's reference: Right.
-/
import Derived.Test.YtpcmpeeflnlkpaaGreatDoorNRDiv
import Derived.Test.YtpcmpeeflnlkpaaGreatDoorNExpEtc
import Derived.Test.YtpcmpeeflnlkpaaGreatDoorKSumEtc
import Derived.Test.YtpcmpeeflnlkpaaGreatDoorNRCmp
namespace Go.Proofs.YtpcmpeeflnlkpaaGreatDoor
open Go.RowKit Ch
set_option maxRecDepth 100000

theorem isD_one (w : World) : IsD 1 (w.alloc (.cells #[.int .i64 1] 3)) (.slice (some ⟨w.heap.size, 0, none⟩) 1 1) 1 :=
  ⟨some ⟨w.heap.size, 0, none⟩, 1, [1], rfl, own_n (own_oneN RI w 1), by intro z hz; simp at hz; omega, rfl, rfl, by simp⟩
theorem half_digit {d k : Nat} : d / 2 ^ k = 2 * (d / 2 ^ (k + 1)) + d / 2 ^ k % 2 := by
  rw [Nat.pow_succ, ← Nat.div_div_eq_div_mul]
  omega
set_option maxHeartbeats 8000000 in
theorem digExp (na ne nm : Nat) (va ve vm : Value) (A E M : Nat) (w : World) (ha : IsD na w va A) (he : IsD ne w ve E) (hm : IsD nm w vm M) (hna : na ≤ 1000) (hne : ne ≤ 1000) (hnm : nm ≤ 1000) (hM : M ≠ 0) :
    Calls Tryz.prog 30 #[va, ve, vm] w fun e w' => (∃ x, e = .returned x ∧ IsD nm w' x (A ^ E % M)) ∧ Below w.heap.size w w' := by
  obtain ⟨ye, ce, L, rfl, h2, h3, _, rfl, h6⟩ := he
  obtain ⟨n, hn⟩ : ∃ n, L.length = n := ⟨_, rfl⟩
  have HL := show Hid (IsN .i64 w (.slice ye n ce) L ∧ AllD L ∧ L.length = n) from ⟨by rw [← hn]; exact h2, h3, hn⟩
  rw [hn] at h6 ⊢
  have HA := show Hid (IsD na w va A ∧ IsD nm w vm M) from ⟨ha, hm⟩
  obtain ⟨ya, la, ca, rfl, _, _⟩ := id ha.shape
  obtain ⟨ym, lm, cm, rfl, _, _⟩ := id hm.shape
  have hn1 : n ≤ 1000 := by omega
  have wn1 : IntKind.i64.wrap ((n : Int) - 1) = (n : Int) - 1 := by rw [IntKind.wrap_i64]; omega
  have hD1 := digDiv na nm (.slice ya la ca) (.slice ym lm cm) A M w ha hm (by omega) (by omega) hM
  clear h2 h3 hn ha hm h6
  go_enter Tryz.func30, Tryz.ntmps30
  go_wp2_with fail
  refine hD1.mono ?_
  rintro e w1 ⟨v1, v2, rfl, _, hx, hb1⟩
  clear hD1
  have hal : Below w1.heap.size w1 (w1.alloc (.cells #[.int .i64 1] 3)) := (Below.refl _ w1).alloc (Nat.le_refl _) _
  have hb1a := hb1.trans (hal.mono hb1.size)
  have hD2 := digDiv 1 nm (.slice (some ⟨w1.heap.size, 0, none⟩) 1 1) (.slice ym lm cm) 1 M _ (isD_one w1) (HA.out.2.later hb1a) (by omega) (by omega) hM
  go_wp2_with fail
  refine hD2.mono ?_
  rintro e w2 ⟨v3, v4, rfl, _, ho, hb2⟩
  clear hD2
  have HX := show Hid (IsD nm w2 v2 (A % M) ∧ IsD nm w2 v4 (1 % M) ∧ Below w.heap.size w w2) from ⟨(hx.later hal).later hb2, ho, hb1a.trans (hb2.mono hb1a.size)⟩
  clear hx ho hb1 hal hb1a hb2
  go_wp2_with fail
  go_loopw [10, 11] (fun o t wr => ∃ j : Nat, j ≤ n ∧ t = .int .i64 ((j : Int) - 1) ∧ Hid (IsD nm wr o (A ^ numD (L.drop j) % M)) ∧ Hid (Below w2.heap.size w2 wr)) (fun _ t _ => (intOf t + 1).toNat)
  case atStart => exact ⟨n, Nat.le_refl _, rfl, by unfold Hid; rw [List.drop_of_length_le (by rw [HL.out.2.2]; exact Nat.le_refl _)]; exact HX.out.2.1, Below.refl _ _⟩
  case round =>
    obtain ⟨j, hj, rfl, ho, hb⟩ := hrel
    rcases j with _ | k
    · have hge : ¬ (0 : Int) ≤ ((0 : Nat) : Int) - 1 := by omega
      have HF := show Hid (IsD nm wr u10 (A ^ numD L % M) ∧ Below w.heap.size w wr) from ⟨by have := ho.out; rwa [List.drop_zero] at this, HX.out.2.2.trans (hb.out.mono HX.out.2.2.size)⟩
      clear ho hb
      go_wp2_with fail
      go_ret
      exact ⟨⟨_, rfl, HF.out.1⟩, HF.out.2⟩
    · have e1 : ((k + 1 : Nat) : Int) - 1 = (k : Int) := by omega
      rw [e1]
      have hge : (0 : Int) ≤ (k : Int) := by omega
      have hkn : (k : Int) < (n : Int) := by omega
      have wk : IntKind.i64.wrap ((k : Int) - 1) = (k : Int) - 1 := by rw [IntKind.wrap_i64]; omega
      have hdL : L[k]? = some (atN L k) := atN_some (by have := HL.out.2.2; omega)
      obtain ⟨d, hd⟩ : ∃ x, atN L k = x := ⟨_, rfl⟩
      rw [hd] at hdL
      have hd8 : d < 256 := HL.out.2.1.at hdL
      obtain ⟨x1, b, o, rfl, hbl, gc⟩ := IsN.cellAt HL.out.1 hdL
      have HGC := show Hid (b < w.heap.size ∧ w.cell? ⟨b, o + k, none⟩ = some (.int .i64 (d : Int))) from ⟨hbl, gc⟩
      obtain ⟨X, hX⟩ : ∃ X, numD (L.drop (k + 1)) = X := ⟨_, rfl⟩
      have HTL := show Hid (numD (L.drop k) = X * 256 + d) from by
        unfold Hid
        rw [drop_numD hdL, hX]
        omega
      rw [hX] at ho
      obtain ⟨wo, hwo⟩ : ∃ a, a = wr := ⟨_, rfl⟩
      subst hwo
      clear x1 hd hdL hbl gc hX e1
      go_wp2_with fail
      go_loopw [10, 12] (fun o p wi => ∃ k2 pp : Nat, k2 ≤ 8 ∧ p = .int .i64 (pp : Int) ∧ pp ≤ 128 ∧ Hid (pp = 2 ^ k2 / 2) ∧ Hid (IsD nm wi o (A ^ (X * 2 ^ (8 - k2) + d / 2 ^ k2) % M)) ∧ Hid (Below w2.heap.size w2 wi)) (fun _ p _ => (intOf p).toNat)
      case atStart => exact ⟨8, 128, by omega, rfl, by omega, rfl, by unfold Hid; rw [Nat.sub_self, Nat.pow_zero, Nat.mul_one, Nat.div_eq_of_lt (show d < 2 ^ 8 from hd8), Nat.add_zero]; exact ho.out, hb.out⟩
      case round =>
        obtain ⟨k2, pp, hk2, rfl, hpp8, hpp, hoi, hbi⟩ := hrel
        rcases k2 with _ | k3
        · obtain rfl : pp = 0 := by rw [hpp.out]
          have hlt : ¬ (1 : Int) ≤ ((0 : Nat) : Int) := by omega
          have HF := show Hid (IsD nm wr u10 (A ^ numD (L.drop k) % M) ∧ Below w2.heap.size w2 wr) from ⟨by
            rw [HTL.out]
            have h1 := hoi.out
            rw [Nat.sub_zero, Nat.pow_zero, Nat.div_one] at h1
            exact h1, hbi.out⟩
          clear hoi hbi hpp
          go_wp2_with fail
          go_roundw
          case rel => exact ⟨k, by omega, rfl, HF.out.1, HF.out.2⟩
          case measure => simp [intOf]
        · have hpp1 : pp = 2 ^ k3 := by rw [hpp.out, Nat.pow_succ]; omega
          have hpos : 0 < 2 ^ k3 := Nat.pow_pos (by decide)
          have hge1 : (1 : Int) ≤ (pp : Int) := by omega
          obtain ⟨p2, hp2⟩ : ∃ a, pp / 2 = a := ⟨_, rfl⟩
          have hp2I : (pp : Int).tdiv 2 = (p2 : Int) := by rw [Int.tdiv_eq_ediv_of_nonneg (by omega)]; omega
          have wp2 : IntKind.i64.wrap (p2 : Int) = (p2 : Int) := by rw [IntKind.wrap_i64]; omega
          have HP2 := show Hid (p2 = 2 ^ k3 / 2) from by unfold Hid; rw [← hp2, hpp1]
          have hp2lt : p2 < pp := by omega
          have hppz : ((pp : Int) == 0) = false := by simp; omega
          obtain ⟨q, hq⟩ : ∃ q, d / pp = q := ⟨_, rfl⟩
          have hql : q < 256 := by rw [← hq]; exact Nat.lt_of_le_of_lt (Nat.div_le_self _ _) hd8
          have hqI : (d : Int).tdiv (pp : Int) = (q : Int) := by
            rw [← hq, Int.tdiv_eq_ediv_of_nonneg (by omega)]
            simp
          have wq : IntKind.i64.wrap (q : Int) = (q : Int) := by rw [IntKind.wrap_i64]; omega
          obtain ⟨bt, hbt⟩ : ∃ q2, q % 2 = q2 := ⟨_, rfl⟩
          have hbtI : (q : Int).tmod 2 = (bt : Int) := by rw [Int.tmod_eq_emod_of_nonneg (by omega)]; omega
          have wbt : IntKind.i64.wrap (bt : Int) = (bt : Int) := by rw [IntKind.wrap_i64]; omega
          have HEX := show Hid (X * 2 ^ (8 - k3) + d / 2 ^ k3 = 2 * (X * 2 ^ (8 - (k3 + 1)) + d / 2 ^ (k3 + 1)) + bt) from by
            unfold Hid
            have h1 := half_digit (d := d) (k := k3)
            rw [← hpp1, hq, hbt] at h1
            rw [← hpp1, hq, show 8 - k3 = 8 - (k3 + 1) + 1 by omega, Nat.pow_succ, ← Nat.mul_assoc]
            omega
          clear hpp1 hpos hp2 hq hpp
          obtain ⟨y9, l9, c9, rfl, _, _⟩ := id hoi.out.shape
          have hMu := digMul nm nm (.slice y9 l9 c9) (.slice y9 l9 c9) _ _ wr hoi.out hoi.out (by omega) (by omega)
          go_wp2_with fail
          refine hMu.mono ?_
          rintro e w3 ⟨⟨v5, rfl, h5⟩, hb3⟩
          clear hMu
          have hbw3 : Below w.heap.size w w3 := HX.out.2.2.trans ((hbi.out.trans (hb3.mono hbi.out.size)).mono HX.out.2.2.size)
          have hDv := digDiv (nm + nm) nm v5 (.slice ym lm cm) _ M w3 h5 (HA.out.2.later hbw3) (by omega) (by omega) hM
          go_wp2_with fail
          refine hDv.mono ?_
          rintro e w4 ⟨v6, v7, rfl, _, h7, hb4⟩
          clear hDv
          rw [pow_sq] at h7
          have hb24 : Below w2.heap.size w2 w4 := hbi.out.trans ((hb3.trans (hb4.mono hb3.size)).mono hbi.out.size)
          have gD := ((hbw3.trans (hb4.mono hbw3.size)).cell (p := ⟨b, o + k, none⟩) HGC.out.1).trans HGC.out.2
          have hbt2 : bt = 1 ∨ bt = 0 := by omega
          rcases hbt2 with h1 | h1
          · subst h1
            have hMu2 := digMul nm nm v7 v2 _ _ w4 h7 (HX.out.1.later hb24) (by omega) (by omega)
            clear hbt hoi h5 hb3 hb4 hbw3 hbi
            go_wp2_with fail
            refine hMu2.mono ?_
            rintro e w5 ⟨⟨v8, rfl, h8⟩, hb5⟩
            clear hMu2 gD
            have hb25 := hb24.trans (hb5.mono hb24.size)
            have hDv := digDiv (nm + nm) nm v8 (.slice ym lm cm) _ M w5 h8 (HA.out.2.later (HX.out.2.2.trans (hb25.mono HX.out.2.2.size))) (by omega) (by omega) hM
            go_wp2_with fail
            refine hDv.mono ?_
            rintro e w6 ⟨v9, v10, rfl, _, h10, hb6⟩
            clear hDv
            rw [pow_more, ← HEX.out] at h10
            have HF := show Hid (IsD nm w6 v10 (A ^ (X * 2 ^ (8 - k3) + d / 2 ^ k3) % M) ∧ Below w2.heap.size w2 w6) from ⟨h10, hb25.trans (hb6.mono hb25.size)⟩
            clear h7 h8 h10 hb24 hb5 hb25 hb6
            go_wp2_with fail
            go_roundw
            case rel => exact ⟨k3, p2, by omega, rfl, by omega, HP2.out, HF.out.1, HF.out.2⟩
            case measure => simp [intOf]; omega
          · subst h1
            have HF := show Hid (IsD nm w4 v7 (A ^ (X * 2 ^ (8 - k3) + d / 2 ^ k3) % M) ∧ Below w2.heap.size w2 w4) from ⟨by rw [HEX.out, Nat.add_zero]; exact h7, hb24⟩
            clear hbt hoi h5 hb3 hb4 hbw3 hbi h7 hb24
            go_wp2_with fail
            go_roundw
            case rel => exact ⟨k3, p2, by omega, rfl, by omega, HP2.out, HF.out.1, HF.out.2⟩
            case measure => simp [intOf]; omega
end Go.Proofs.YtpcmpeeflnlkpaaGreatDoor

namespace Go.Proofs.YtpcmpeeflnlkpaaGreatDoor
open Go.RowKit Ch
set_option maxRecDepth 100000

theorem pow_between {a b n : Nat} (ha : 0 < a) (h1 : 256 ^ (a - 1) ≤ n) (h2 : n < 256 ^ b) : a ≤ b := by
  apply Classical.byContradiction
  intro h
  have h3 : 256 ^ b ≤ 256 ^ (a - 1) := Nat.pow_le_pow_right (by decide) (by omega)
  omega
theorem digits_len {L : List Nat} {l : List UInt8} (hA : AllD L) (hT : Tidy L) (h : numD L = numB l) : L.length = (bareL l).length := by
  have hb := bare_bare l
  have hn := numB_bare l
  generalize bareL l = m at *
  rw [← hn] at h
  have a1 := numD_lt hA
  have a2 := numB_lt m
  by_cases h0 : L = []
  · subst h0
    by_cases h1 : m = []
    · subst h1; rfl
    · have h2 := numB_ge hb h1
      have h3 : numD [] = 0 := rfl
      have h4 : 0 < 256 ^ (m.length - 1) := Nat.pow_pos (by decide)
      omega
  · have b1 := tidy_geD hT h0
    have l1 : 0 < L.length := List.length_pos_iff.2 h0
    by_cases h1 : m = []
    · subst h1
      have h3 : numB [] = 0 := rfl
      have h4 : 0 < 256 ^ (L.length - 1) := Nat.pow_pos (by decide)
      omega
    · have b2 := numB_ge hb h1
      have l2 : 0 < m.length := List.length_pos_iff.2 h1
      have c1 := pow_between l1 b1 (by rw [h]; exact a2)
      have c2 := pow_between l2 b2 (by rw [← h]; exact a1)
      omega
theorem isD_len {n : Nat} {w : World} {y : Option Addr} {l c N : Nat} {B : List UInt8} (h : IsD n w (.slice y l c) N) (hN : N = numB B) : l = (bareL B).length := by
  obtain ⟨y', c', L, hv, _, hA, hT, hn, _⟩ := h
  simp only [Value.slice.injEq] at hv
  rw [hv.2.1]
  exact digits_len hA hT (hn.trans hN)
theorem isD_first {n : Nat} {w : World} {y : Option Addr} {l c N : Nat} (h : IsD n w (.slice y l c) N) (hl : 0 < l) : ∃ b o x : Nat, y = some ⟨b, o, none⟩ ∧ w.cell? ⟨b, o, none⟩ = some (.int .i64 (x : Int)) ∧ N % 2 = x % 2 := by
  obtain ⟨y', c', L, hv, hI, hA, hT, hn, _⟩ := h
  simp only [Value.slice.injEq] at hv
  obtain ⟨rfl, rfl, rfl⟩ := hv
  match L, hl, hn, hI with
  | x :: L', _, hn, hI =>
    obtain ⟨x1, b, o, rfl, _, gc⟩ := IsN.cellAt hI (i := 0) (n := x) rfl
    refine ⟨b, o, x, rfl, by simpa using gc, ?_⟩
    rw [← hn]
    show (x + 256 * numD L') % 2 = x % 2
    omega
theorem own_three (w : World) : (w.alloc (.cells #[.int .i64 3] 3)).ownsRow w.heap.size 3 1 (.slice (some ⟨w.heap.size, 0, none⟩) 1 1) ([3] : List Nat).length (kc .i64 [3]) :=
  ⟨rfl, .inr ⟨w.heap.size, 1, #[.int .i64 3], rfl, Nat.le_refl _, heap_push_at w _, Nat.le_refl _, by unfold maxLen; omega, rfl, rfl⟩⟩
theorem isD_three (w : World) : IsD 1 (w.alloc (.cells #[.int .i64 3] 3)) (.slice (some ⟨w.heap.size, 0, none⟩) 1 1) 3 :=
  ⟨some ⟨w.heap.size, 0, none⟩, 1, [3], rfl, own_n (own_three w), fun x hx => by simp at hx; omega, rfl, rfl, Nat.le_refl _⟩
theorem cmpN_lt (M N : Nat) : cmpN M N < 0 ↔ M < N := by
  unfold cmpN
  split
  · simp [*]
  · split <;> simp [*]
theorem cmpN_ge (M N : Nat) : 0 ≤ cmpN M N ↔ ¬ M < N := by
  rw [← cmpN_lt]
  omega
set_option maxHeartbeats 8000000 in
theorem rrRight_any (x y z : Option Addr) (cx cy cz : Nat) (sN sE sD : ByteArray) (w : World) (hN : IsBytes w (.slice x sN.size cx) sN) (hE : IsBytes w (.slice y sE.size cy) sE) (hD : IsBytes w (.slice z sD.size cz) sD) (lN : sN.size ≤ 1000000) (lE : sE.size ≤ 1000000) (lD : sD.size ≤ 1000000) :
    Calls Tryz.prog 15 #[.agg #[.slice x sN.size cx, .slice y sE.size cy, .slice z sD.size cz]] w fun e w' => e = .returned (.bool (decide (rightP sN.data.toList sE.data.toList sD.data.toList))) ∧ Below w.heap.size w w' := by
  obtain ⟨q, hq⟩ : ∃ q, w.heap.size = q := ⟨_, rfl⟩
  obtain ⟨W0, hW0⟩ : ∃ W, w.alloc (.cells #[.slice x sN.size cx, .slice y sE.size cy, .slice z sD.size cz] 25) = W := ⟨_, rfl⟩
  have b0 : Below w.heap.size w W0 := by rw [← hW0]; exact alB _ _
  have hB := heap_push_at w (.cells #[.slice x sN.size cx, .slice y sE.size cy, .slice z sD.size cz] 25)
  rw [hW0, hq] at hB
  have k0 := block_cell (v := .slice x sN.size cx) 0 hB rfl
  have k1 := block_cell (v := .slice y sE.size cy) 1 hB rfl
  have k2 := block_cell (v := .slice z sD.size cz) 2 hB rfl
  have HU := show Hid (∀ u, Below W0.heap.size W0 u → u.cell? ⟨q, 0, none⟩ = some (.slice x sN.size cx) ∧ u.cell? ⟨q, 1, none⟩ = some (.slice y sE.size cy) ∧ u.cell? ⟨q, 2, none⟩ = some (.slice z sD.size cz) ∧ IsBytes u (.slice x sN.size cx) sN ∧ IsBytes u (.slice y sE.size cy) sE ∧ IsBytes u (.slice z sD.size cz) sD ∧ Below w.heap.size w u) from fun u hu =>
    ⟨(hu.cell (p := ⟨q, 0, none⟩) (block_lt hB)).trans k0, (hu.cell (p := ⟨q, 1, none⟩) (block_lt hB)).trans k1, (hu.cell (p := ⟨q, 2, none⟩) (block_lt hB)).trans k2, hN.later (bl2 b0 hu), hE.later (bl2 b0 hu), hD.later (bl2 b0 hu), bl2 b0 hu⟩
  have HL := show Hid (sN.size ≤ 1000000 ∧ sE.size ≤ 1000000 ∧ sD.size ≤ 1000000) from ⟨lN, lE, lD⟩
  have hO := digOf x cx sN W0 (HU.out W0 (Below.refl _ _)).2.2.2.1 lN
  have g0 := k0
  clear k0 k1 k2 hB b0 hN hE hD lN lE lD
  go_enter Tryz.func15, Tryz.ntmps15
  go_wp2_with fail
  refine hO.mono ?_
  rintro e w1 ⟨⟨v1, rfl, d1⟩, hb1⟩
  clear hO g0
  have g1 := (HU.out w1 hb1).2.1
  have hO := digOf y cy sE w1 (HU.out w1 hb1).2.2.2.2.1 HL.out.2.1
  go_wp2_with fail
  refine hO.mono ?_
  rintro e w2 ⟨⟨v2, rfl, d2⟩, hb2⟩
  clear hO g1
  have hb12 := bl2 hb1 hb2
  have g2 := (HU.out w2 hb12).2.2.1
  have hO := digOf z cz sD w2 (HU.out w2 hb12).2.2.2.2.2.1 HL.out.2.2
  go_wp2_with fail
  refine hO.mono ?_
  rintro e w3 ⟨⟨v3, rfl, d3⟩, hb3⟩
  clear hO g2
  obtain ⟨y1, l1, c1, rfl, _⟩ := id d1.shape
  obtain ⟨y2, l2, c2, rfl, s2, _⟩ := id d2.shape
  obtain ⟨y3, l3, c3, rfl, _⟩ := id d3.shape
  have HW := show Hid (IsD sN.size w3 (.slice y1 l1 c1) (numB sN.data.toList) ∧ IsD sE.size w3 (.slice y2 l2 c2) (numB sE.data.toList) ∧ IsD sD.size w3 (.slice y3 l3 c3) (numB sD.data.toList) ∧ True ∧ Below w.heap.size w w3 ∧ l1 = (bareL sN.data.toList).length ∧ (l2 = 0 → numB sE.data.toList = 0)) from ⟨d1.later (bl2 hb2 hb3), d2.later hb3, d3, trivial, (HU.out w3 (bl2 hb12 hb3)).2.2.2.2.2.2, isD_len d1 rfl, fun h => s2.1 h⟩
  clear d1 d2 d3 hb1 hb2 hb3 hb12 hW0 hq HU s2
  by_cases hp0 : l1 < 62
  · have hi : (l1 : Int) < 62 := by omega
    have HF := show Hid (Below w.heap.size w w3) from HW.out.2.2.2.2.1
    go_wp2_with fail
    go_ret
    exact ⟨by rw [decide_eq_false (fun h : rightP sN.data.toList sE.data.toList sD.data.toList => by have := h.1.1; have := HW.out.2.2.2.2.2.1; omega)] <;> rfl, HF.out⟩
  have hi0 : ¬ (l1 : Int) < 62 := by omega
  by_cases hp1 : 512 < l1
  · have hi : (512 : Int) < (l1 : Int) := by omega
    have HF := show Hid (Below w.heap.size w w3) from HW.out.2.2.2.2.1
    go_wp2_with fail
    go_ret
    exact ⟨by rw [decide_eq_false (fun h : rightP sN.data.toList sE.data.toList sD.data.toList => by have := h.1.2; have := HW.out.2.2.2.2.2.1; omega)] <;> rfl, HF.out⟩
  have hi1 : ¬ (512 : Int) < (l1 : Int) := by omega
  obtain ⟨b1, o1, n0, rfl, g1, hpar1⟩ := isD_first HW.out.1 (by omega)
  obtain ⟨z1, hz1⟩ : ∃ z, n0 % 2 = z := ⟨_, rfl⟩
  have q1 : (n0 : Int).tmod 2 = (z1 : Int) := by rw [Int.tmod_eq_emod_of_nonneg (by omega)]; omega
  have z12 : z1 < 2 := by omega
  have w1' : IntKind.i64.wrap (z1 : Int) = (z1 : Int) := by rw [IntKind.wrap_i64]; omega
  have hl1 : (0 : Int) < (l1 : Int) := by omega
  have HZ1 := show Hid (numB sN.data.toList % 2 = z1) from by unfold Hid; rw [hpar1, hz1]
  clear hz1 hpar1
  by_cases hp2 : z1 = 0
  · have hi : ((z1 : Int) == 0) = true := by simp [hp2]
    have HF := show Hid (Below w.heap.size w w3) from HW.out.2.2.2.2.1
    go_wp2_with fail
    go_ret
    exact ⟨by rw [decide_eq_false (fun h : rightP sN.data.toList sE.data.toList sD.data.toList => by have := h.2.1; have := HZ1.out; omega)] <;> rfl, HF.out⟩
  have hi2 : ((z1 : Int) == 0) = false := beq_eq_false_iff_ne.2 (by omega)
  by_cases hp3 : l2 = 0
  · have hi : ((l2 : Int) == 0) = true := by simp [hp3]
    have HF := show Hid (Below w.heap.size w w3) from HW.out.2.2.2.2.1
    go_wp2_with fail
    go_ret
    exact ⟨by rw [decide_eq_false (fun h : rightP sN.data.toList sE.data.toList sD.data.toList => by have := h.2.2.1; have := HW.out.2.2.2.2.2.2 hp3; omega)] <;> rfl, HF.out⟩
  have hi3 : ((l2 : Int) == 0) = false := beq_eq_false_iff_ne.2 (by omega)
  obtain ⟨b2, o2, e0, rfl, g2, hpar2⟩ := isD_first HW.out.2.1 (by omega)
  obtain ⟨z2, hz2⟩ : ∃ z, e0 % 2 = z := ⟨_, rfl⟩
  have q2 : (e0 : Int).tmod 2 = (z2 : Int) := by rw [Int.tmod_eq_emod_of_nonneg (by omega)]; omega
  have z22 : z2 < 2 := by omega
  have w2' : IntKind.i64.wrap (z2 : Int) = (z2 : Int) := by rw [IntKind.wrap_i64]; omega
  have hl2 : (0 : Int) < (l2 : Int) := by omega
  have HZ2 := show Hid (numB sE.data.toList % 2 = z2) from by unfold Hid; rw [hpar2, hz2]
  clear hz2 hpar2
  by_cases hp4 : z2 = 0
  · have hi : ((z2 : Int) == 0) = true := by simp [hp4]
    have HF := show Hid (Below w.heap.size w w3) from HW.out.2.2.2.2.1
    go_wp2_with fail
    go_ret
    exact ⟨by rw [decide_eq_false (fun h : rightP sN.data.toList sE.data.toList sD.data.toList => by have := h.2.2.1; have := HZ2.out; omega)] <;> rfl, HF.out⟩
  have hi4 : ((z2 : Int) == 0) = false := beq_eq_false_iff_ne.2 (by omega)
  obtain ⟨W4, hW4⟩ : ∃ W, w3.alloc (.cells #[.int .i64 3] 3) = W := ⟨_, rfl⟩
  have b4 : Below w3.heap.size w3 W4 := by rw [← hW4]; exact alB _ _
  have hthree : IsD 1 W4 (.slice (some ⟨w3.heap.size, 0, none⟩) 1 1) 3 := by rw [← hW4]; exact isD_three w3
  have hC := digCmp sE.size 1 _ _ (numB sE.data.toList) 3 W4 (HW.out.2.1.later b4) hthree HL.out.2.1
  have HV := show Hid (∀ u, Below W4.heap.size W4 u → IsD sN.size u (.slice (some ⟨b1, o1, none⟩) l1 c1) (numB sN.data.toList) ∧ IsD sE.size u (.slice (some ⟨b2, o2, none⟩) l2 c2) (numB sE.data.toList) ∧ IsD sD.size u (.slice y3 l3 c3) (numB sD.data.toList) ∧ Below w.heap.size w u) from fun u hu => ⟨HW.out.1.later (bl2 b4 hu), HW.out.2.1.later (bl2 b4 hu), HW.out.2.2.1.later (bl2 b4 hu), bl2 HW.out.2.2.2.2.1 (bl2 b4 hu)⟩
  have HH := show Hid ((62 ≤ (bareL sN.data.toList).length ∧ (bareL sN.data.toList).length ≤ 512) ∧ numB sN.data.toList % 2 = 1 ∧ numB sE.data.toList % 2 = 1) from ⟨by have := HW.out.2.2.2.2.2.1; omega, by have := HZ1.out; omega, by have := HZ2.out; omega⟩
  obtain ⟨ca, hca⟩ : ∃ c, cmpN (numB sE.data.toList) 3 = c := ⟨_, rfl⟩
  rw [hca] at hC
  have ha : 0 ≤ ca ↔ ¬ numB sE.data.toList < 3 := by rw [← hca]; exact cmpN_ge _ _
  clear hca b4 hthree HZ1 HZ2 HW
  go_wp2_with fail
  refine hC.mono ?_
  rintro e w5 ⟨rfl, hb5⟩
  clear hC hW4 g1 g2
  by_cases hp5 : numB sE.data.toList < 3
  · have hi : ¬ 0 ≤ ca := fun h => ha.1 h hp5
    have hd : decide (0 ≤ ca) = false := decide_eq_false hi
    have HF := show Hid (Below w.heap.size w w5) from (HV.out w5 hb5).2.2.2
    clear hb5 ha
    go_wp2_with fail
    go_ret
    exact ⟨by rw [decide_eq_false (fun h : rightP sN.data.toList sE.data.toList sD.data.toList => h.2.2.2.1 hp5)] <;> rfl, HF.out⟩
  have hi5 : 0 ≤ ca := ha.2 hp5
  have HP5 := show Hid (¬ numB sE.data.toList < 3) from hp5
  have hC := digCmp sE.size sN.size _ _ (numB sE.data.toList) (numB sN.data.toList) w5 (HV.out w5 hb5).2.1 (HV.out w5 hb5).1 HL.out.2.1
  obtain ⟨cb, hcb⟩ : ∃ c, cmpN (numB sE.data.toList) (numB sN.data.toList) = c := ⟨_, rfl⟩
  rw [hcb] at hC
  have hb : cb < 0 ↔ numB sE.data.toList < numB sN.data.toList := by rw [← hcb]; exact cmpN_lt _ _
  clear hcb ha hp5
  go_wp2_with fail
  refine hC.mono ?_
  rintro e w6 ⟨rfl, hb6⟩
  clear hC hi5
  have HB6 := show Hid (Below W4.heap.size W4 w6) from bl2 hb5 hb6
  clear hb5 hb6
  by_cases hp6 : ¬ numB sE.data.toList < numB sN.data.toList
  · have hd : decide (cb < 0) = false := decide_eq_false (fun h => hp6 (hb.1 h))
    have HF := show Hid (Below w.heap.size w w6) from (HV.out w6 HB6.out).2.2.2
    clear hb
    go_wp2_with fail
    go_ret
    exact ⟨by rw [decide_eq_false (fun h : rightP sN.data.toList sE.data.toList sD.data.toList => hp6 h.2.2.2.2.1)] <;> rfl, HF.out⟩
  have hp6 := Classical.not_not.1 hp6
  have hi6 : cb < 0 := hb.2 hp6
  have HP6 := show Hid (numB sE.data.toList < numB sN.data.toList) from hp6
  have hC := digCmp sD.size sN.size _ _ (numB sD.data.toList) (numB sN.data.toList) w6 (HV.out w6 HB6.out).2.2.1 (HV.out w6 HB6.out).1 HL.out.2.2
  obtain ⟨cd, hcd⟩ : ∃ c, cmpN (numB sD.data.toList) (numB sN.data.toList) = c := ⟨_, rfl⟩
  rw [hcd] at hC
  have hd : cd < 0 ↔ numB sD.data.toList < numB sN.data.toList := by rw [← hcd]; exact cmpN_lt _ _
  clear hcd hb hp6
  go_wp2_with fail
  refine hC.mono ?_
  rintro e w7 ⟨rfl, hb7⟩
  clear hC hi6
  have HF := show Hid (Below w.heap.size w w7) from (HV.out w7 (bl2 HB6.out hb7)).2.2.2
  clear hb7
  by_cases hp7 : ¬ numB sD.data.toList < numB sN.data.toList
  · have hdd : decide (cd < 0) = false := decide_eq_false (fun h => hp7 (hd.1 h))
    clear hd
    go_wp2_with fail
    go_ret
    exact ⟨by rw [decide_eq_false (fun h : rightP sN.data.toList sE.data.toList sD.data.toList => hp7 h.2.2.2.2.2)] <;> rfl, HF.out⟩
  have hp7 := Classical.not_not.1 hp7
  have hi7 : cd < 0 := hd.2 hp7
  clear hd
  go_wp2_with fail
  go_ret
  exact ⟨by rw [decide_eq_true (show rightP sN.data.toList sE.data.toList sD.data.toList from ⟨HH.out.1, HH.out.2.1, HH.out.2.2, HP5.out, HP6.out, hp7⟩)] <;> rfl, HF.out⟩
end Go.Proofs.YtpcmpeeflnlkpaaGreatDoor
