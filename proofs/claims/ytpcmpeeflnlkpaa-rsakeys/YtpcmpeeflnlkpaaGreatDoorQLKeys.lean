
/-
  The law RsaKeys.
-/
import Derived.Test.YtpcmpeeflnlkpaaGreatDoorQSoundEtc
import Derived.Test.YtpcmpeeflnlkpaaGreatDoorQRSizeEtc
import Derived.Test.YtpcmpeeflnlkpaaGreatDoorQRSeal
import Derived.Test.YtpcmpeeflnlkpaaGreatDoorNCmpIEtc
namespace Go.Proofs.YtpcmpeeflnlkpaaGreatDoor
open Go.RowKit Ch
set_option maxRecDepth 100000

theorem make_b (w : World) (n : Nat) (hn : n ≤ 900000) : ∃ w', (Instr.makeSlice 22 (.int .i64 (n : Int)) (.int .i64 (n : Int))).run Tryz.prog w = .ok (.slice (some ⟨w.heap.size, 0, none⟩) n n) w' ∧ IsBytes w' (.slice (some ⟨w.heap.size, 0, none⟩) n n) ⟨(List.replicate n 0).toArray⟩ ∧ Below w.heap.size w w' := by
  obtain ⟨i0, hi, hz0, hz1, hz2⟩ := info5
  obtain ⟨w2, hrun, hown, hgr⟩ := run_makeSlice_full (P := Tryz.prog) (w := w) w.heap.size 22 5 i0 (.int .u8 0) 1 Tryz.underlying22 hi hz0 hz1 .i64 .i64 n (by omega) (by rw [hz2]; omega) (by unfold maxLen; omega) (Nat.le_refl _)
  rw [made_kc] at hown
  exact ⟨w2, hrun, (own_zeros (by rw [List.length_replicate]; exact hown)).is, (Below.refl _ w).grown hgr (Nat.le_refl _) (fun k e => by cases e)⟩
theorem rFitsI_no (n : Int) (w : World) (hn : ¬ (62 ≤ n ∧ n ≤ 512)) : Calls Tryz.prog 34 #[.int .i64 n] w fun e w' => e = .returned (.bool false) ∧ w' = w := by
  by_cases h1 : 62 ≤ n
  · have h2 : ¬ n ≤ 512 := fun h => hn ⟨h1, h⟩
    go_enter Tryz.func34, Tryz.ntmps34
    go_wp2_with fail
    go_ret
    exact ⟨rfl, rfl⟩
  · go_enter Tryz.func34, Tryz.ntmps34
    go_wp2_with fail
    go_ret
    exact ⟨rfl, rfl⟩
theorem qSealI_none (v : Value) (n : Int) (w : World) (h : ¬ (62 ≤ n ∧ n ≤ 512)) :
    Calls Tryz.prog 16 #[v, .int .i64 n] w fun e w' => e = .returned (.tuple #[.slice none 0 0, .int .i64 21]) ∧ w' = w := by
  have hFt := rFitsI_no n w h
  go_enter Tryz.func16, Tryz.ntmps16
  go_wp2_with fail
  refine hFt.mono ?_
  rintro e w1 ⟨rfl, rfl⟩
  clear hFt
  go_wp2_with fail
  go_ret2
  exact ⟨rfl, rfl⟩
def semLK1 (yb yf : Option Addr) (kb cb kf cf m : Nat) (SE : ByteArray) : Nat → Value → World → Prop := fun ix v u => match ix with
  | 0 => v = .int .i64 0
  | 1 => v = .bool false
  | 2 => v = .bool false
  | 3 => v = .slice yf kf cf
  | 4 => v = .string SE
  | 5 => v = .slice yb kb cb
  | 6 => v = .int .i64 (m : Int)
  | 7 => IsBytes u v SE
  | 8 => v = .string SE
  | 9 => v = .bool false
  | 10 => v = .bool false
  | _ => True
def semLK2 (y1 y2 y3 yb : Option Addr) (k1 k2 k3 c1 c2 c3 kb cb nl nm : Nat) (Z : ByteArray) : Nat → Value → World → Prop := fun ix v u => match ix with
  | 0 => v = .agg #[.slice y1 k1 c1, .slice y2 k2 c2, .slice y3 k3 c3]
  | 1 => v = .slice yb kb cb
  | 2 => v = .agg #[.slice y1 k1 c1, .slice y2 k2 c2, .slice y3 k3 c3]
  | 3 => v = .int .i64 (nl : Int)
  | 4 => v = .int .i64 (nm : Int)
  | 5 => (∃ x, v = .slice (some ⟨x, 0, none⟩) nm nm) ∧ IsBytes u v Z
  | 6 => v = .int .i64 21
  | 7 => v = .bool true
  | 8 => v = .bool true
  | _ => True
set_option maxHeartbeats 32000000 in
theorem lqKeys_any (v1 v2 v3 vb : Value) (N E D b : List UInt8) (n : Int) (w : World) (h1 : IsBytes w v1 ⟨N.toArray⟩) (h2 : IsBytes w v2 ⟨E.toArray⟩) (h3 : IsBytes w v3 ⟨D.toArray⟩) (h4 : IsBytes w vb ⟨b.toArray⟩) (hK : KTab w) :
    Calls Tryz.prog 6 #[.agg #[v1, v2, v3], vb, .int .i64 n] w fun e w' => e = .returned (.bool true) ∧ Below w.heap.size w w' := by
  obtain ⟨y1, c1, rfl⟩ := isb_shape h1
  obtain ⟨y2, c2, rfl⟩ := isb_shape h2
  obtain ⟨y3, c3, rfl⟩ := isb_shape h3
  obtain ⟨yb, cb, rfl⟩ := isb_shape h4
  obtain ⟨k1, hk1⟩ : ∃ k, N.length = k := ⟨_, rfl⟩
  obtain ⟨k2, hk2⟩ : ∃ k, E.length = k := ⟨_, rfl⟩
  obtain ⟨k3, hk3⟩ : ∃ k, D.length = k := ⟨_, rfl⟩
  obtain ⟨kb, hkb⟩ : ∃ k, b.length = k := ⟨_, rfl⟩
  rw [hk1] at h1 ⊢
  rw [hk2] at h2 ⊢
  rw [hk3] at h3 ⊢
  rw [hkb] at h4 ⊢
  obtain ⟨W1, hW1⟩ : ∃ W, w.alloc (.cells #[.slice y1 k1 c1, .slice y2 k2 c2, .slice y3 k3 c3] 25) = W := ⟨_, rfl⟩
  have hB := keyBox w (.slice y1 k1 c1) (.slice y2 k2 c2) (.slice y3 k3 c3)
  obtain ⟨q, hq⟩ : ∃ q, w.heap.size = q := ⟨_, rfl⟩
  rw [hW1, hq] at hB
  have HC0 := show Hid (∀ u, Below W1.heap.size W1 u → (u.cell? ⟨q, 0, none⟩ = some (.slice y1 k1 c1) ∧ u.cell? ⟨q, 1, none⟩ = some (.slice y2 k2 c2) ∧ u.cell? ⟨q, 2, none⟩ = some (.slice y3 k3 c3)) ∧ (IsBytes u (.slice y1 k1 c1) ⟨N.toArray⟩ ∧ IsBytes u (.slice y2 k2 c2) ⟨E.toArray⟩ ∧ IsBytes u (.slice y3 k3 c3) ⟨D.toArray⟩ ∧ IsBytes u (.slice yb kb cb) ⟨b.toArray⟩) ∧ KTab u ∧ Below w.heap.size w u) from fun u hu => by
    have hw := bl2 hB.below hu
    exact ⟨hB.cells hu, ⟨h1.later hw, h2.later hw, h3.later hw, h4.later hw⟩, hK.later hw, hw⟩
  obtain ⟨g0, g1, g2⟩ := hB.cells (Below.refl _ W1)
  clear h1 h2 h3 h4 hK hB
  by_cases c1' : k1 ≤ 600
  case neg =>
    have i1 : (600 : Int) < (k1 : Int) := by omega
    have HC := HC0
    clear c1' hk1 hk2 hk3 hkb
    go_enter Tryz.func6, Tryz.ntmps6
    go_wp2_with fail
    refine (lqAwake_any W1 (HC.out W1 (Below.refl _ W1)).2.2.1).mono ?_
    rintro e w1 ⟨rfl, b1⟩
    obtain ⟨g0, g1, g2⟩ := (HC.out w1 b1).1
    have hA2 := lqAwake_any w1 (HC.out w1 b1).2.2.1
    have HB := show Hid (Below w.heap.size w w1) from (HC.out w1 b1).2.2.2
    clear b1 hW1
    go_wp2_with fail
    refine hA2.mono ?_
    rintro e w2 ⟨rfl, b2⟩
    have HF := show Hid (Below w.heap.size w w2) from bl2 HB.out b2
    clear hA2 b2
    go_wp2_with fail
    go_ret
    exact ⟨rfl, HF.out⟩
  have i1 : ¬ (600 : Int) < (k1 : Int) := by omega
  by_cases c2' : k2 ≤ 600
  case neg =>
    have i2 : (600 : Int) < (k2 : Int) := by omega
    have HC := HC0
    clear c1' c2' hk1 hk2 hk3 hkb
    go_enter Tryz.func6, Tryz.ntmps6
    go_wp2_with fail
    refine (lqAwake_any W1 (HC.out W1 (Below.refl _ W1)).2.2.1).mono ?_
    rintro e w1 ⟨rfl, b1⟩
    obtain ⟨g0, g1, g2⟩ := (HC.out w1 b1).1
    have hA2 := lqAwake_any w1 (HC.out w1 b1).2.2.1
    have HB := show Hid (Below w.heap.size w w1) from (HC.out w1 b1).2.2.2
    clear b1 hW1
    go_wp2_with fail
    refine hA2.mono ?_
    rintro e w2 ⟨rfl, b2⟩
    have HF := show Hid (Below w.heap.size w w2) from bl2 HB.out b2
    clear hA2 b2
    go_wp2_with fail
    go_ret
    exact ⟨rfl, HF.out⟩
  have i2 : ¬ (600 : Int) < (k2 : Int) := by omega
  by_cases c3' : k3 ≤ 600
  case neg =>
    have i3 : (600 : Int) < (k3 : Int) := by omega
    have HC := HC0
    clear c1' c2' c3' hk1 hk2 hk3 hkb
    go_enter Tryz.func6, Tryz.ntmps6
    go_wp2_with fail
    refine (lqAwake_any W1 (HC.out W1 (Below.refl _ W1)).2.2.1).mono ?_
    rintro e w1 ⟨rfl, b1⟩
    obtain ⟨g0, g1, g2⟩ := (HC.out w1 b1).1
    have hA2 := lqAwake_any w1 (HC.out w1 b1).2.2.1
    have HB := show Hid (Below w.heap.size w w1) from (HC.out w1 b1).2.2.2
    clear b1 hW1
    go_wp2_with fail
    refine hA2.mono ?_
    rintro e w2 ⟨rfl, b2⟩
    have HF := show Hid (Below w.heap.size w w2) from bl2 HB.out b2
    clear hA2 b2
    go_wp2_with fail
    go_ret
    exact ⟨rfl, HF.out⟩
  have i3 : ¬ (600 : Int) < (k3 : Int) := by omega
  by_cases c4' : kb ≤ 300
  case neg =>
    have i4 : (300 : Int) < (kb : Int) := by omega
    have HC := HC0
    clear c1' c2' c3' c4' hk1 hk2 hk3 hkb
    go_enter Tryz.func6, Tryz.ntmps6
    go_wp2_with fail
    refine (lqAwake_any W1 (HC.out W1 (Below.refl _ W1)).2.2.1).mono ?_
    rintro e w1 ⟨rfl, b1⟩
    obtain ⟨g0, g1, g2⟩ := (HC.out w1 b1).1
    have hA2 := lqAwake_any w1 (HC.out w1 b1).2.2.1
    have HB := show Hid (Below w.heap.size w w1) from (HC.out w1 b1).2.2.2
    clear b1 hW1
    go_wp2_with fail
    refine hA2.mono ?_
    rintro e w2 ⟨rfl, b2⟩
    have HF := show Hid (Below w.heap.size w w2) from bl2 HB.out b2
    clear hA2 b2
    go_wp2_with fail
    go_ret
    exact ⟨rfl, HF.out⟩
  have i4 : ¬ (300 : Int) < (kb : Int) := by omega
  obtain ⟨r, hr⟩ : ∃ r, decide (rightP N E D) = r := ⟨_, rfl⟩
  obtain ⟨nl, hnl⟩ : ∃ k, (bareL N).length = k := ⟨_, rfl⟩
  have HL := show Hid (b.length ≤ 300 ∧ nl ≤ 600) from ⟨by omega, by have := bare_leQ N; omega⟩
  have HC := show Hid (∀ u, Below W1.heap.size W1 u → (u.cell? ⟨q, 0, none⟩ = some (.slice y1 k1 c1) ∧ u.cell? ⟨q, 1, none⟩ = some (.slice y2 k2 c2) ∧ u.cell? ⟨q, 2, none⟩ = some (.slice y3 k3 c3)) ∧ (IsBytes u (.slice y1 k1 c1) ⟨N.toArray⟩ ∧ IsBytes u (.slice y2 k2 c2) ⟨E.toArray⟩ ∧ IsBytes u (.slice y3 k3 c3) ⟨D.toArray⟩ ∧ IsBytes u (.slice yb kb cb) ⟨b.toArray⟩) ∧ KTab u ∧ Below w.heap.size w u ∧
      Calls Tryz.prog 15 #[.agg #[.slice y1 k1 c1, .slice y2 k2 c2, .slice y3 k3 c3]] u (fun e w' => e = .returned (.bool r) ∧ Below u.heap.size u w') ∧
      Calls Tryz.prog 18 #[.agg #[.slice y1 k1 c1, .slice y2 k2 c2, .slice y3 k3 c3]] u (fun e w' => e = .returned (.bool r) ∧ Below u.heap.size u w') ∧
      Calls Tryz.prog 11 #[.agg #[.slice y1 k1 c1, .slice y2 k2 c2, .slice y3 k3 c3]] u (fun e w' => (∃ v, e = .returned v ∧ qPbK w' v N E) ∧ Below u.heap.size u w') ∧
      Calls Tryz.prog 9 #[.agg #[.slice y1 k1 c1, .slice y2 k2 c2, .slice y3 k3 c3], .slice yb kb cb] u (fun e w' => SignSays N E D b e w' ∧ Below u.heap.size u w') ∧
      (∀ (vs : Value) (S : List UInt8), IsBytes u vs ⟨S.toArray⟩ → S.length ≤ 900000 → Calls Tryz.prog 10 #[.agg #[.slice y1 k1 c1, .slice y2 k2 c2, .slice y3 k3 c3], .slice yb kb cb, vs] u (fun e w' => e = .returned (.int .i64 (verL N E D b S)) ∧ Below u.heap.size u w')) ∧
      Calls Tryz.prog 19 #[.agg #[.slice y1 k1 c1, .slice y2 k2 c2, .slice y3 k3 c3]] u (fun e w' => e = .returned (.int .i64 (nl : Int)) ∧ Below u.heap.size u w')) from fun u hu => by
    obtain ⟨f1, ⟨j1, j2, j3, j4⟩, f3, f4⟩ := HC0.out u hu
    rw [← hr, ← hnl]
    exact ⟨f1, ⟨j1, j2, j3, j4⟩, f3, f4, rrRightV _ _ _ N E D u j1 j2 j3 (by omega) (by omega) (by omega), rightV _ _ _ N E D u j1 j2 j3 (by omega) (by omega) (by omega), qPublic_any _ _ _ N E D u j1 j2 j3 (by omega) (by omega) (by omega), qSign_any _ _ _ _ N E D b u j1 j2 j3 j4 f3 (by omega) (by omega) (by omega) (by omega),
      fun vs S hS lS => qVerify_any _ _ _ _ vs N E D b S u j1 j2 j3 j4 hS f3 (by omega) (by omega) (by omega) (by omega) lS, qrSize_any _ _ _ N E D u j1 j2 j3 (by omega)⟩
  obtain ⟨SN, hSN⟩ : ∃ S : ByteArray, (⟨N.toArray⟩ : ByteArray) = S := ⟨_, rfl⟩
  obtain ⟨SE2, hSE2⟩ : ∃ S : ByteArray, (⟨E.toArray⟩ : ByteArray) = S := ⟨_, rfl⟩
  have HSN := show Hid ((⟨N.toArray⟩ : ByteArray) = SN) from hSN
  have HSE := show Hid ((⟨E.toArray⟩ : ByteArray) = SE2) from hSE2
  have HTN := show Hid ((SN.toList == SN.toList) = true) from beq_self_eq_true _
  have HTE := show Hid ((SE2.toList == SE2.toList) = true) from beq_self_eq_true _
  by_cases hp : rightP N E D
  · obtain rfl : true = r := (decide_eq_true hp).symm.trans hr
    obtain ⟨nm, hnm⟩ : ∃ m, nl + 1 = m := ⟨_, rfl⟩
    obtain ⟨Z, hZ⟩ : ∃ S : ByteArray, (⟨(List.replicate nm 0).toArray⟩ : ByteArray) = S := ⟨_, rfl⟩
    have HW := show Hid (IntKind.i64.wrap ((nl : Int) + 1) = (nm : Int)) from by show IntKind.i64.wrap ((nl : Int) + 1) = (nm : Int); rw [IntKind.wrap_i64]; have := HL.out; omega
    have HM := show Hid (nm ≤ 900000) from by have := HL.out; show nm ≤ 900000; omega
    have HZ := show Hid ((⟨(List.replicate nm 0).toArray⟩ : ByteArray) = Z) from hZ
    have HV := show Hid (verL N E D b (List.replicate nm 0) = 21) from by
      show verL N E D b (List.replicate nm 0) = 21
      unfold verL
      rw [if_pos hp, if_neg (by rw [List.length_replicate]; omega)]
    clear HC0 hp hr hnl hSN hSE2 hZ hnm hk1 hk2 hk3 hkb c1' c2' c3' c4'
    by_cases c5 : n < 62
    · have HS1 := show Hid (∀ u, Below W1.heap.size W1 u → Calls Tryz.prog 16 #[.slice yb kb cb, .int .i64 n] u fun e w' => e = .returned (.tuple #[.slice none 0 0, .int .i64 21]) ∧ w' = u) from fun u hu => qSealI_none _ n u (by omega)
      go_enter Tryz.func6, Tryz.ntmps6
      go_wp2_with fail
      refine (lqAwake_any W1 (HC.out W1 (Below.refl _ W1)).2.2.1).mono ?_
      rintro e w1 ⟨rfl, b1⟩
      obtain ⟨g0, g1, g2⟩ := (HC.out w1 b1).1
      have hRr := (HC.out w1 b1).2.2.2.2.1
      have HB1 := show Hid (Below W1.heap.size W1 w1) from b1
      clear b1 hW1
      go_wp2_with fail
      refine hRr.mono ?_
      rintro e w2 ⟨rfl, b2⟩
      have h2 := bl2 HB1.out b2
      obtain ⟨g0, g1, g2⟩ := (HC.out w2 h2).1
      have hSe := HS1.out w2 h2
      have HB2 := show Hid (Below W1.heap.size W1 w2) from h2
      clear hRr b2 h2
      go_wp2_with fail
      refine hSe.mono ?_
      rintro e w3 ⟨rfl, b3⟩
      clear hSe g0 g1 g2
      have HB4 := show Hid (Below W1.heap.size W1 w3) from by rw [b3]; exact HB2.out
      obtain ⟨g0, g1, g2⟩ := (HC.out w3 HB4.out).1
      clear b3
      have hPb := (HC.out w3 HB4.out).2.2.2.2.2.2.1
      go_wp2_with fail
      refine hPb.mono ?_
      rintro e w5 ⟨⟨v5, rfl, yP, kP, cP, yQ, kQ, cQ, rfl, iP, iQ⟩, b5⟩
      clear hPb g0 g1 g2
      obtain ⟨q2, hq2⟩ : ∃ q, w5.heap.size = q := ⟨_, rfl⟩
      obtain ⟨WA2, hWA2⟩ : ∃ W, w5.alloc (.cells #[.slice yP kP cP, .slice yQ kQ cQ, .slice none 0 0] 25) = W := ⟨_, rfl⟩
      have kbA2 := keyBox w5 (.slice yP kP cP) (.slice yQ kQ cQ) (.slice none 0 0)
      rw [hWA2, hq2] at kbA2
      obtain ⟨WB2, hWB2⟩ : ∃ W, WA2.setCell ⟨q2, 2, none⟩ (.slice none 0 0) = W := ⟨_, rfl⟩
      have kbB2 : KeyBox w5 WB2 q2 (.slice yP kP cP) (.slice yQ kQ cQ) (.slice none 0 0) := by
        rw [← hWB2]
        exact ⟨kbA2.below.trans ((keptX_at (ps := [q2]) WA2 (by simp)).below kbA2.below.size (fun p hp => by simp at hp; omega)), kbA2.size, setCell_block (i := 2) (u := .slice none 0 0) kbA2.at0⟩
      have gf2 := block_free 2 kbA2.at0
      have gc2 := block_cell (v := .slice none 0 0) 2 kbA2.at0 rfl
      clear kbA2
      obtain ⟨⟨p0, p1, p2⟩, _⟩ := And.intro (kbB2.cells (Below.refl _ WB2)) trivial
      have HQ := show Hid (∀ u, Below WB2.heap.size WB2 u → (u.cell? ⟨q2, 0, none⟩ = some (.slice yP kP cP) ∧ u.cell? ⟨q2, 1, none⟩ = some (.slice yQ kQ cQ) ∧ u.cell? ⟨q2, 2, none⟩ = some (.slice none 0 0)) ∧ IsBytes u (.slice yP kP cP) SN ∧ IsBytes u (.slice yQ kQ cQ) SE2 ∧ IsBytes u (.slice y1 k1 c1) SN ∧ IsBytes u (.slice y2 k2 c2) SE2 ∧ Below W1.heap.size W1 u) from fun u hu => by
        have h5 := bl2 kbB2.below hu
        have h1 := bl2 HB4.out (bl2 b5 h5)
        obtain ⟨_, ⟨j1, j2, _⟩, _⟩ := HC.out u h1
        refine ⟨kbB2.cells hu, ?_, ?_, ?_, ?_, h1⟩
        · rw [← HSN.out]; exact iP.later h5
        · rw [← HSE.out]; exact iQ.later h5
        · rw [← HSN.out]; exact j1
        · rw [← HSE.out]; exact j2
      obtain ⟨g0, g1, g2⟩ := (HC.out WB2 (HQ.out WB2 (Below.refl _ _)).2.2.2.2.2).1
      have hRt := (HC.out WB2 (HQ.out WB2 (Below.refl _ _)).2.2.2.2.2).2.2.2.2.2.1
      clear iP iQ b5 kbB2
      go_wp2_with fail
      refine hRt.mono ?_
      rintro e w6 ⟨rfl, b6⟩
      clear hRt hWA2 hWB2 gf2 gc2 p0 p1 p2 g0 g1 g2
      obtain ⟨⟨p0, p1, p2⟩, m1, m2, m3, m4, m5⟩ := HQ.out w6 b6
      obtain ⟨g0, g1, g2⟩ := (HC.out w6 m5).1
      have cv1 := m1.convert
      have cv2 := m2.convert
      have cv3 := m3.convert
      have cv4 := m4.convert
      have t1 := HTN.out
      have t2 := HTE.out
      have H6 := show Hid (Below W1.heap.size W1 w6) from m5
      clear m1 m2 m3 m4 m5 b6
      have HU := show Hid (∀ u, Below w6.drew.heap.size w6.drew u → (u.cell? ⟨q, 0, none⟩ = some (.slice y1 k1 c1) ∧ u.cell? ⟨q, 1, none⟩ = some (.slice y2 k2 c2) ∧ u.cell? ⟨q, 2, none⟩ = some (.slice y3 k3 c3)) ∧ Calls Tryz.prog 19 #[.agg #[.slice y1 k1 c1, .slice y2 k2 c2, .slice y3 k3 c3]] u (fun e w' => e = .returned (.int .i64 (nl : Int)) ∧ Below u.heap.size u w') ∧ (∀ x, IsBytes u (.slice (some ⟨x, 0, none⟩) nm nm) Z → Calls Tryz.prog 10 #[.agg #[.slice y1 k1 c1, .slice y2 k2 c2, .slice y3 k3 c3], .slice yb kb cb, .slice (some ⟨x, 0, none⟩) nm nm] u fun e w' => e = .returned (.int .i64 21) ∧ Below u.heap.size u w') ∧ Below w.heap.size w u) from fun u hu => by
        have h1 := bl2 H6.out (bl2 ((Below.refl _ w6).drew) hu)
        obtain ⟨f1, _, _, f4, _, _, _, _, f8, f9⟩ := HC.out u h1
        refine ⟨f1, f9, fun x hx => ?_, f4⟩
        have h := f8 _ (List.replicate nm 0) (by rw [HZ.out]; exact hx) (by rw [List.length_replicate]; exact HM.out)
        rw [HV.out] at h
        exact h
      go_wp2_with fail
      clear p0 p1 p2 cv1 cv2 cv3 cv4 t1 t2 g0 g1 g2
      refine free_walk (Sem := semLK2 y1 y2 y3 yb k1 k2 k3 c1 c2 c3 kb cb nl nm Z) rfl (n := 125) (by kernel_rfl) rfl (by kernel_rfl) ?_ ?_ ?_
      · intro ix v u u' h hb
        match ix, h with
        | 0, h => exact h
        | 1, h => exact h
        | 2, h => exact h
        | 3, h => exact h
        | 4, h => exact h
        | 5, h => exact ⟨h.1, IsBytes.later h.2 hb⟩
        | 6, h => exact h
        | 7, h => exact h
        | 8, h => exact h
        | _ + 9, _ => exact trivial
      · intro ix o a u ho hF hbu
        match ix, ho, hF with
        | 0, ho, hF =>
          obtain rfl := Option.some.inj ho
          have h3 : a.tmps[3]? = some (.pointer (some ⟨q, 0, none⟩)) := (hF.out 3 rfl).trans rfl
          have g0 := (HU.out u hbu).1.1
          have g1 := (HU.out u hbu).1.2.1
          have g2 := (HU.out u hbu).1.2.2
          refine free_step rfl (by rfl) (fun K' hK => ?_)
          go_simp
          exact hK.out _ _ rfl (Below.refl _ _)
        | 1, ho, hF =>
          obtain rfl := Option.some.inj ho
          have h1 : a.tmps[1]? = some (.slice yb kb cb) := (hF.out 1 rfl).trans rfl
          refine free_step rfl (by rfl) (fun K' hK => ?_)
          go_simp
          exact hK.out _ _ rfl (Below.refl _ _)
        | 2, ho, hF =>
          obtain rfl := Option.some.inj ho
          have h3 : a.tmps[3]? = some (.pointer (some ⟨q, 0, none⟩)) := (hF.out 3 rfl).trans rfl
          have g0 := (HU.out u hbu).1.1
          have g1 := (HU.out u hbu).1.2.1
          have g2 := (HU.out u hbu).1.2.2
          refine free_step rfl (by rfl) (fun K' hK => ?_)
          go_simp
          exact hK.out _ _ rfl (Below.refl _ _)
        | 3, ho, hF =>
          obtain rfl := Option.some.inj ho
          obtain ⟨v119, h119, s119⟩ := hF.dep 2 119 rfl rfl
          obtain rfl : v119 = .agg #[.slice y1 k1 c1, .slice y2 k2 c2, .slice y3 k3 c3] := s119
          have hc := (HU.out u hbu).2.1
          refine free_step rfl (by rfl) (fun K' hK => ?_)
          go_wp2_with fail
          refine hc.mono ?_
          rintro e u' ⟨rfl, hb⟩
          go_simp
          exact hK.out _ _ rfl hb
        | 4, ho, hF =>
          obtain rfl := Option.some.inj ho
          obtain ⟨v120, h120, s120⟩ := hF.dep 3 120 rfl rfl
          obtain rfl : v120 = .int .i64 (nl : Int) := s120
          have wr := HW.out
          refine free_step rfl (by rfl) (fun K' hK => ?_)
          go_simp
          exact hK.out _ _ rfl (Below.refl _ _)
        | 5, ho, hF =>
          obtain rfl := Option.some.inj ho
          obtain ⟨v121, h121, s121⟩ := hF.dep 4 121 rfl rfl
          obtain rfl : v121 = .int .i64 (nm : Int) := s121
          obtain ⟨wz, hrun, hz, hb⟩ := make_b u nm HM.out
          rw [HZ.out] at hz
          refine free_step rfl (by rfl) (fun K' hK => ?_)
          go_simp
          exact hK.out _ _ ⟨⟨_, rfl⟩, hz⟩ hb
        | 6, ho, hF =>
          obtain rfl := Option.some.inj ho
          obtain ⟨v117, h117, s117⟩ := hF.dep 0 117 rfl rfl
          obtain rfl : v117 = .agg #[.slice y1 k1 c1, .slice y2 k2 c2, .slice y3 k3 c3] := s117
          obtain ⟨v118, h118, s118⟩ := hF.dep 1 118 rfl rfl
          obtain rfl : v118 = .slice yb kb cb := s118
          obtain ⟨v122, h122, s122⟩ := hF.dep 5 122 rfl rfl
          replace s122 : (∃ x, v122 = .slice (some ⟨x, 0, none⟩) nm nm) ∧ IsBytes u v122 Z := s122
          obtain ⟨⟨x5, rfl⟩, i5⟩ := s122
          have hc := (HU.out u hbu).2.2.1 x5 i5
          refine free_step rfl (by rfl) (fun K' hK => ?_)
          go_wp2_with fail
          refine hc.mono ?_
          rintro e u' ⟨rfl, hb⟩
          go_simp
          exact hK.out _ _ rfl hb
        | 7, ho, hF =>
          obtain rfl := Option.some.inj ho
          obtain ⟨v123, h123, s123⟩ := hF.dep 6 123 rfl rfl
          obtain rfl : v123 = .int .i64 21 := s123
          refine free_step rfl (by rfl) (fun K' hK => ?_)
          go_simp
          exact hK.out _ _ rfl (Below.refl _ _)
        | 8, ho, hF =>
          obtain rfl := Option.some.inj ho
          obtain ⟨v124, h124, s124⟩ := hF.dep 7 124 rfl rfl
          obtain rfl : v124 = .bool true := s124
          refine free_step rfl (by rfl) (fun K' hK => ?_)
          go_simp
          exact hK.out _ _ rfl (Below.refl _ _)
        | n + 9, ho, _ => exact absurd (Array.getElem?_eq_some_iff.1 ho).1 (by show ¬ n + 9 < 9; omega)
      · intro vs u hS hbu
        have e8 : vs 8 = (.bool true) := hS 8 6 rfl
        simp only [putFrom, Act.put, List.setIfInBounds_toArray, List.set_cons_succ, List.set_cons_zero, Nat.reduceAdd]
        rw [e8]
        clear hS e8
        generalize vs 0 = z0
        generalize vs 1 = z1
        generalize vs 2 = z2
        generalize vs 3 = z3
        generalize vs 4 = z4
        generalize vs 5 = z5
        generalize vs 6 = z6
        generalize vs 7 = z7
        have HF := show Hid (Below w.heap.size w u) from (HU.out u hbu).2.2.2
        clear hbu HU
        go_wp2_with fail
        go_ret
        exact ⟨rfl, HF.out⟩
    · by_cases c6 : 512 < n
      · have HS1 := show Hid (∀ u, Below W1.heap.size W1 u → Calls Tryz.prog 16 #[.slice yb kb cb, .int .i64 n] u fun e w' => e = .returned (.tuple #[.slice none 0 0, .int .i64 21]) ∧ w' = u) from fun u hu => qSealI_none _ n u (by omega)
        go_enter Tryz.func6, Tryz.ntmps6
        go_wp2_with fail
        refine (lqAwake_any W1 (HC.out W1 (Below.refl _ W1)).2.2.1).mono ?_
        rintro e w1 ⟨rfl, b1⟩
        obtain ⟨g0, g1, g2⟩ := (HC.out w1 b1).1
        have hRr := (HC.out w1 b1).2.2.2.2.1
        have HB1 := show Hid (Below W1.heap.size W1 w1) from b1
        clear b1 hW1
        go_wp2_with fail
        refine hRr.mono ?_
        rintro e w2 ⟨rfl, b2⟩
        have h2 := bl2 HB1.out b2
        obtain ⟨g0, g1, g2⟩ := (HC.out w2 h2).1
        have hSe := HS1.out w2 h2
        have HB2 := show Hid (Below W1.heap.size W1 w2) from h2
        clear hRr b2 h2
        go_wp2_with fail
        refine hSe.mono ?_
        rintro e w3 ⟨rfl, b3⟩
        clear hSe g0 g1 g2
        have HB4 := show Hid (Below W1.heap.size W1 w3) from by rw [b3]; exact HB2.out
        obtain ⟨g0, g1, g2⟩ := (HC.out w3 HB4.out).1
        clear b3
        have hPb := (HC.out w3 HB4.out).2.2.2.2.2.2.1
        go_wp2_with fail
        refine hPb.mono ?_
        rintro e w5 ⟨⟨v5, rfl, yP, kP, cP, yQ, kQ, cQ, rfl, iP, iQ⟩, b5⟩
        clear hPb g0 g1 g2
        obtain ⟨q2, hq2⟩ : ∃ q, w5.heap.size = q := ⟨_, rfl⟩
        obtain ⟨WA2, hWA2⟩ : ∃ W, w5.alloc (.cells #[.slice yP kP cP, .slice yQ kQ cQ, .slice none 0 0] 25) = W := ⟨_, rfl⟩
        have kbA2 := keyBox w5 (.slice yP kP cP) (.slice yQ kQ cQ) (.slice none 0 0)
        rw [hWA2, hq2] at kbA2
        obtain ⟨WB2, hWB2⟩ : ∃ W, WA2.setCell ⟨q2, 2, none⟩ (.slice none 0 0) = W := ⟨_, rfl⟩
        have kbB2 : KeyBox w5 WB2 q2 (.slice yP kP cP) (.slice yQ kQ cQ) (.slice none 0 0) := by
          rw [← hWB2]
          exact ⟨kbA2.below.trans ((keptX_at (ps := [q2]) WA2 (by simp)).below kbA2.below.size (fun p hp => by simp at hp; omega)), kbA2.size, setCell_block (i := 2) (u := .slice none 0 0) kbA2.at0⟩
        have gf2 := block_free 2 kbA2.at0
        have gc2 := block_cell (v := .slice none 0 0) 2 kbA2.at0 rfl
        clear kbA2
        obtain ⟨⟨p0, p1, p2⟩, _⟩ := And.intro (kbB2.cells (Below.refl _ WB2)) trivial
        have HQ := show Hid (∀ u, Below WB2.heap.size WB2 u → (u.cell? ⟨q2, 0, none⟩ = some (.slice yP kP cP) ∧ u.cell? ⟨q2, 1, none⟩ = some (.slice yQ kQ cQ) ∧ u.cell? ⟨q2, 2, none⟩ = some (.slice none 0 0)) ∧ IsBytes u (.slice yP kP cP) SN ∧ IsBytes u (.slice yQ kQ cQ) SE2 ∧ IsBytes u (.slice y1 k1 c1) SN ∧ IsBytes u (.slice y2 k2 c2) SE2 ∧ Below W1.heap.size W1 u) from fun u hu => by
          have h5 := bl2 kbB2.below hu
          have h1 := bl2 HB4.out (bl2 b5 h5)
          obtain ⟨_, ⟨j1, j2, _⟩, _⟩ := HC.out u h1
          refine ⟨kbB2.cells hu, ?_, ?_, ?_, ?_, h1⟩
          · rw [← HSN.out]; exact iP.later h5
          · rw [← HSE.out]; exact iQ.later h5
          · rw [← HSN.out]; exact j1
          · rw [← HSE.out]; exact j2
        obtain ⟨g0, g1, g2⟩ := (HC.out WB2 (HQ.out WB2 (Below.refl _ _)).2.2.2.2.2).1
        have hRt := (HC.out WB2 (HQ.out WB2 (Below.refl _ _)).2.2.2.2.2).2.2.2.2.2.1
        clear iP iQ b5 kbB2
        go_wp2_with fail
        refine hRt.mono ?_
        rintro e w6 ⟨rfl, b6⟩
        clear hRt hWA2 hWB2 gf2 gc2 p0 p1 p2 g0 g1 g2
        obtain ⟨⟨p0, p1, p2⟩, m1, m2, m3, m4, m5⟩ := HQ.out w6 b6
        obtain ⟨g0, g1, g2⟩ := (HC.out w6 m5).1
        have cv1 := m1.convert
        have cv2 := m2.convert
        have cv3 := m3.convert
        have cv4 := m4.convert
        have t1 := HTN.out
        have t2 := HTE.out
        have H6 := show Hid (Below W1.heap.size W1 w6) from m5
        clear m1 m2 m3 m4 m5 b6
        have HU := show Hid (∀ u, Below w6.drew.heap.size w6.drew u → (u.cell? ⟨q, 0, none⟩ = some (.slice y1 k1 c1) ∧ u.cell? ⟨q, 1, none⟩ = some (.slice y2 k2 c2) ∧ u.cell? ⟨q, 2, none⟩ = some (.slice y3 k3 c3)) ∧ Calls Tryz.prog 19 #[.agg #[.slice y1 k1 c1, .slice y2 k2 c2, .slice y3 k3 c3]] u (fun e w' => e = .returned (.int .i64 (nl : Int)) ∧ Below u.heap.size u w') ∧ (∀ x, IsBytes u (.slice (some ⟨x, 0, none⟩) nm nm) Z → Calls Tryz.prog 10 #[.agg #[.slice y1 k1 c1, .slice y2 k2 c2, .slice y3 k3 c3], .slice yb kb cb, .slice (some ⟨x, 0, none⟩) nm nm] u fun e w' => e = .returned (.int .i64 21) ∧ Below u.heap.size u w') ∧ Below w.heap.size w u) from fun u hu => by
          have h1 := bl2 H6.out (bl2 ((Below.refl _ w6).drew) hu)
          obtain ⟨f1, _, _, f4, _, _, _, _, f8, f9⟩ := HC.out u h1
          refine ⟨f1, f9, fun x hx => ?_, f4⟩
          have h := f8 _ (List.replicate nm 0) (by rw [HZ.out]; exact hx) (by rw [List.length_replicate]; exact HM.out)
          rw [HV.out] at h
          exact h
        go_wp2_with fail
        clear p0 p1 p2 cv1 cv2 cv3 cv4 t1 t2 g0 g1 g2
        refine free_walk (Sem := semLK2 y1 y2 y3 yb k1 k2 k3 c1 c2 c3 kb cb nl nm Z) rfl (n := 125) (by kernel_rfl) rfl (by kernel_rfl) ?_ ?_ ?_
        · intro ix v u u' h hb
          match ix, h with
          | 0, h => exact h
          | 1, h => exact h
          | 2, h => exact h
          | 3, h => exact h
          | 4, h => exact h
          | 5, h => exact ⟨h.1, IsBytes.later h.2 hb⟩
          | 6, h => exact h
          | 7, h => exact h
          | 8, h => exact h
          | _ + 9, _ => exact trivial
        · intro ix o a u ho hF hbu
          match ix, ho, hF with
          | 0, ho, hF =>
            obtain rfl := Option.some.inj ho
            have h3 : a.tmps[3]? = some (.pointer (some ⟨q, 0, none⟩)) := (hF.out 3 rfl).trans rfl
            have g0 := (HU.out u hbu).1.1
            have g1 := (HU.out u hbu).1.2.1
            have g2 := (HU.out u hbu).1.2.2
            refine free_step rfl (by rfl) (fun K' hK => ?_)
            go_simp
            exact hK.out _ _ rfl (Below.refl _ _)
          | 1, ho, hF =>
            obtain rfl := Option.some.inj ho
            have h1 : a.tmps[1]? = some (.slice yb kb cb) := (hF.out 1 rfl).trans rfl
            refine free_step rfl (by rfl) (fun K' hK => ?_)
            go_simp
            exact hK.out _ _ rfl (Below.refl _ _)
          | 2, ho, hF =>
            obtain rfl := Option.some.inj ho
            have h3 : a.tmps[3]? = some (.pointer (some ⟨q, 0, none⟩)) := (hF.out 3 rfl).trans rfl
            have g0 := (HU.out u hbu).1.1
            have g1 := (HU.out u hbu).1.2.1
            have g2 := (HU.out u hbu).1.2.2
            refine free_step rfl (by rfl) (fun K' hK => ?_)
            go_simp
            exact hK.out _ _ rfl (Below.refl _ _)
          | 3, ho, hF =>
            obtain rfl := Option.some.inj ho
            obtain ⟨v119, h119, s119⟩ := hF.dep 2 119 rfl rfl
            obtain rfl : v119 = .agg #[.slice y1 k1 c1, .slice y2 k2 c2, .slice y3 k3 c3] := s119
            have hc := (HU.out u hbu).2.1
            refine free_step rfl (by rfl) (fun K' hK => ?_)
            go_wp2_with fail
            refine hc.mono ?_
            rintro e u' ⟨rfl, hb⟩
            go_simp
            exact hK.out _ _ rfl hb
          | 4, ho, hF =>
            obtain rfl := Option.some.inj ho
            obtain ⟨v120, h120, s120⟩ := hF.dep 3 120 rfl rfl
            obtain rfl : v120 = .int .i64 (nl : Int) := s120
            have wr := HW.out
            refine free_step rfl (by rfl) (fun K' hK => ?_)
            go_simp
            exact hK.out _ _ rfl (Below.refl _ _)
          | 5, ho, hF =>
            obtain rfl := Option.some.inj ho
            obtain ⟨v121, h121, s121⟩ := hF.dep 4 121 rfl rfl
            obtain rfl : v121 = .int .i64 (nm : Int) := s121
            obtain ⟨wz, hrun, hz, hb⟩ := make_b u nm HM.out
            rw [HZ.out] at hz
            refine free_step rfl (by rfl) (fun K' hK => ?_)
            go_simp
            exact hK.out _ _ ⟨⟨_, rfl⟩, hz⟩ hb
          | 6, ho, hF =>
            obtain rfl := Option.some.inj ho
            obtain ⟨v117, h117, s117⟩ := hF.dep 0 117 rfl rfl
            obtain rfl : v117 = .agg #[.slice y1 k1 c1, .slice y2 k2 c2, .slice y3 k3 c3] := s117
            obtain ⟨v118, h118, s118⟩ := hF.dep 1 118 rfl rfl
            obtain rfl : v118 = .slice yb kb cb := s118
            obtain ⟨v122, h122, s122⟩ := hF.dep 5 122 rfl rfl
            replace s122 : (∃ x, v122 = .slice (some ⟨x, 0, none⟩) nm nm) ∧ IsBytes u v122 Z := s122
            obtain ⟨⟨x5, rfl⟩, i5⟩ := s122
            have hc := (HU.out u hbu).2.2.1 x5 i5
            refine free_step rfl (by rfl) (fun K' hK => ?_)
            go_wp2_with fail
            refine hc.mono ?_
            rintro e u' ⟨rfl, hb⟩
            go_simp
            exact hK.out _ _ rfl hb
          | 7, ho, hF =>
            obtain rfl := Option.some.inj ho
            obtain ⟨v123, h123, s123⟩ := hF.dep 6 123 rfl rfl
            obtain rfl : v123 = .int .i64 21 := s123
            refine free_step rfl (by rfl) (fun K' hK => ?_)
            go_simp
            exact hK.out _ _ rfl (Below.refl _ _)
          | 8, ho, hF =>
            obtain rfl := Option.some.inj ho
            obtain ⟨v124, h124, s124⟩ := hF.dep 7 124 rfl rfl
            obtain rfl : v124 = .bool true := s124
            refine free_step rfl (by rfl) (fun K' hK => ?_)
            go_simp
            exact hK.out _ _ rfl (Below.refl _ _)
          | n + 9, ho, _ => exact absurd (Array.getElem?_eq_some_iff.1 ho).1 (by show ¬ n + 9 < 9; omega)
        · intro vs u hS hbu
          have e8 : vs 8 = (.bool true) := hS 8 6 rfl
          simp only [putFrom, Act.put, List.setIfInBounds_toArray, List.set_cons_succ, List.set_cons_zero, Nat.reduceAdd]
          rw [e8]
          clear hS e8
          generalize vs 0 = z0
          generalize vs 1 = z1
          generalize vs 2 = z2
          generalize vs 3 = z3
          generalize vs 4 = z4
          generalize vs 5 = z5
          generalize vs 6 = z6
          generalize vs 7 = z7
          have HF := show Hid (Below w.heap.size w u) from (HU.out u hbu).2.2.2
          clear hbu HU
          go_wp2_with fail
          go_ret
          exact ⟨rfl, HF.out⟩
      · obtain ⟨m, rfl⟩ : ∃ m : Nat, n = (m : Int) := ⟨n.toNat, by omega⟩
        have HS1 := show Hid (∀ u, Below W1.heap.size W1 u → Calls Tryz.prog 16 #[.slice yb kb cb, .int .i64 (m : Int)] u fun e w' => (∃ x, e = .returned (.tuple #[x, .int .i64 0]) ∧ IsBytes w' x ⟨(sealL b m).toArray⟩) ∧ Below u.heap.size u w') from fun u hu => by
          obtain ⟨_, ⟨_, _, _, j4⟩, j5, _⟩ := HC.out u hu
          exact qSeal_any _ b m u j4 j5 (by have := HL.out; omega) (by omega) (by omega)
        have HS2 := show Hid (∀ u, Below W1.heap.size W1 u → Calls Tryz.prog 17 #[.slice yb kb cb, .int .i64 (m : Int)] u fun e w' => (∃ x, e = .returned x ∧ IsBytes w' x ⟨(sealL b m).toArray⟩) ∧ Below u.heap.size u w') from fun u hu => by
          obtain ⟨_, ⟨_, _, _, j4⟩, j5, _⟩ := HC.out u hu
          exact qrSeal_any _ b m u j4 (by have := HL.out; omega) (by omega) (by omega)
        obtain ⟨SE, hSE⟩ : ∃ S : ByteArray, (⟨(sealL b m).toArray⟩ : ByteArray) = S := ⟨_, rfl⟩
        have HS := show Hid ((⟨(sealL b m).toArray⟩ : ByteArray) = SE) from hSE
        have HT := show Hid ((SE.toList == SE.toList) = true) from beq_self_eq_true _
        clear hSE
        go_enter Tryz.func6, Tryz.ntmps6
        go_wp2_with fail
        refine (lqAwake_any W1 (HC.out W1 (Below.refl _ W1)).2.2.1).mono ?_
        rintro e w1 ⟨rfl, b1⟩
        obtain ⟨g0, g1, g2⟩ := (HC.out w1 b1).1
        have hRr := (HC.out w1 b1).2.2.2.2.1
        have HB1 := show Hid (Below W1.heap.size W1 w1) from b1
        clear b1 hW1
        go_wp2_with fail
        refine hRr.mono ?_
        rintro e w2 ⟨rfl, b2⟩
        have h2 := bl2 HB1.out b2
        obtain ⟨g0, g1, g2⟩ := (HC.out w2 h2).1
        have hSe := HS1.out w2 h2
        have HB2 := show Hid (Below W1.heap.size W1 w2) from h2
        clear hRr b2 h2
        go_wp2_with fail
        refine hSe.mono ?_
        rintro e w3 ⟨⟨x3, rfl, i3⟩, b3⟩
        obtain ⟨yf, kf, cf, rfl⟩ := isb_open i3
        clear hSe g0 g1 g2
        have h3 := bl2 HB2.out b3
        have HU := show Hid (∀ u, Below w3.drew.heap.size w3.drew u → IsBytes u (.slice yf kf cf) SE ∧ Calls Tryz.prog 17 #[.slice yb kb cb, .int .i64 (m : Int)] u (fun e w' => (∃ x, e = .returned x ∧ IsBytes w' x ⟨(sealL b m).toArray⟩) ∧ Below u.heap.size u w') ∧ Below W1.heap.size W1 u) from fun u hu => by
          have h4 := bl2 ((Below.refl _ w3).drew) hu
          refine ⟨?_, HS2.out u (bl2 h3 h4), bl2 h3 h4⟩
          rw [← HS.out]
          exact i3.later h4
        clear i3 b3 h3
        go_wp2_with fail
        refine free_walk (Sem := semLK1 yb yf kb cb kf cf m SE) rfl (n := 125) (by kernel_rfl) rfl (by kernel_rfl) ?_ ?_ ?_
        · intro ix v u u' h hb
          match ix, h with
          | 0, h => exact h
          | 1, h => exact h
          | 2, h => exact h
          | 3, h => exact h
          | 4, h => exact h
          | 5, h => exact h
          | 6, h => exact h
          | 7, h => exact IsBytes.later h hb
          | 8, h => exact h
          | 9, h => exact h
          | 10, h => exact h
          | _ + 11, _ => exact trivial
        · intro ix o a u ho hF hbu
          match ix, ho, hF with
          | 0, ho, hF =>
            obtain rfl := Option.some.inj ho
            have h9 : a.tmps[9]? = some (.int .i64 0) := (hF.out 9 rfl).trans rfl
            refine free_step rfl (by rfl) (fun K' hK => ?_)
            go_simp
            exact hK.out _ _ rfl (Below.refl _ _)
          | 1, ho, hF =>
            obtain rfl := Option.some.inj ho
            obtain ⟨v60, h60, s60⟩ := hF.dep 0 60 rfl rfl
            obtain rfl : v60 = .int .i64 0 := s60
            refine free_step rfl (by rfl) (fun K' hK => ?_)
            go_simp
            exact hK.out _ _ rfl (Below.refl _ _)
          | 2, ho, hF =>
            obtain rfl := Option.some.inj ho
            obtain ⟨v61, h61, s61⟩ := hF.dep 1 61 rfl rfl
            obtain rfl : v61 = .bool false := s61
            refine free_step rfl (by rfl) (fun K' hK => ?_)
            go_simp
            exact hK.out _ _ rfl (Below.refl _ _)
          | 3, ho, hF =>
            obtain rfl := Option.some.inj ho
            have h8 : a.tmps[8]? = some (.slice yf kf cf) := (hF.out 8 rfl).trans rfl
            obtain ⟨v62, h62, s62⟩ := hF.dep 2 62 rfl rfl
            obtain rfl : v62 = .bool false := s62
            refine free_step rfl (by show (yielded _ a.tmps 2 == some false) = true; unfold yielded; simp [h62]) (fun K' hK => ?_)
            go_simp
            exact hK.out _ _ rfl (Below.refl _ _)
          | 4, ho, hF =>
            obtain rfl := Option.some.inj ho
            obtain ⟨v63, h63, s63⟩ := hF.dep 3 63 rfl rfl
            obtain rfl : v63 = .slice yf kf cf := s63
            obtain ⟨v62, h62, s62⟩ := hF.dep 2 62 rfl rfl
            obtain rfl : v62 = .bool false := s62
            have cv := (HU.out u hbu).1.convert
            refine free_step rfl (by show (yielded _ a.tmps 2 == some false) = true; unfold yielded; simp [h62]) (fun K' hK => ?_)
            go_simp
            exact hK.out _ _ rfl (Below.refl _ _)
          | 5, ho, hF =>
            obtain rfl := Option.some.inj ho
            have h1 : a.tmps[1]? = some (.slice yb kb cb) := (hF.out 1 rfl).trans rfl
            obtain ⟨v62, h62, s62⟩ := hF.dep 2 62 rfl rfl
            obtain rfl : v62 = .bool false := s62
            refine free_step rfl (by show (yielded _ a.tmps 2 == some false) = true; unfold yielded; simp [h62]) (fun K' hK => ?_)
            go_simp
            exact hK.out _ _ rfl (Below.refl _ _)
          | 6, ho, hF =>
            obtain rfl := Option.some.inj ho
            have h2 : a.tmps[2]? = some (.int .i64 (m : Int)) := (hF.out 2 rfl).trans rfl
            obtain ⟨v62, h62, s62⟩ := hF.dep 2 62 rfl rfl
            obtain rfl : v62 = .bool false := s62
            refine free_step rfl (by show (yielded _ a.tmps 2 == some false) = true; unfold yielded; simp [h62]) (fun K' hK => ?_)
            go_simp
            exact hK.out _ _ rfl (Below.refl _ _)
          | 7, ho, hF =>
            obtain rfl := Option.some.inj ho
            obtain ⟨v65, h65, s65⟩ := hF.dep 5 65 rfl rfl
            obtain rfl : v65 = .slice yb kb cb := s65
            obtain ⟨v66, h66, s66⟩ := hF.dep 6 66 rfl rfl
            obtain rfl : v66 = .int .i64 (m : Int) := s66
            obtain ⟨v62, h62, s62⟩ := hF.dep 2 62 rfl rfl
            obtain rfl : v62 = .bool false := s62
            have hc := (HU.out u hbu).2.1
            refine free_step rfl (by show (yielded _ a.tmps 2 == some false) = true; unfold yielded; simp [h62]) (fun K' hK => ?_)
            go_wp2_with fail
            refine hc.mono ?_
            rintro e u' ⟨⟨x, rfl, hI⟩, hb⟩
            go_simp
            exact hK.out _ _ (HS.out ▸ hI) hb
          | 8, ho, hF =>
            obtain rfl := Option.some.inj ho
            obtain ⟨v67, h67, s67⟩ := hF.dep 7 67 rfl rfl
            replace s67 : IsBytes u v67 SE := s67
            obtain ⟨v62, h62, s62⟩ := hF.dep 2 62 rfl rfl
            obtain rfl : v62 = .bool false := s62
            have cv := IsBytes.convert s67
            refine free_step rfl (by show (yielded _ a.tmps 2 == some false) = true; unfold yielded; simp [h62]) (fun K' hK => ?_)
            go_simp
            exact hK.out _ _ rfl (Below.refl _ _)
          | 9, ho, hF =>
            obtain rfl := Option.some.inj ho
            obtain ⟨v64, h64, s64⟩ := hF.dep 4 64 rfl rfl
            obtain rfl : v64 = .string SE := s64
            obtain ⟨v68, h68, s68⟩ := hF.dep 8 68 rfl rfl
            obtain rfl : v68 = .string SE := s68
            obtain ⟨v62, h62, s62⟩ := hF.dep 2 62 rfl rfl
            obtain rfl : v62 = .bool false := s62
            have tS := HT.out
            refine free_step rfl (by show (yielded _ a.tmps 2 == some false) = true; unfold yielded; simp [h62]) (fun K' hK => ?_)
            go_simp
            exact hK.out _ _ rfl (Below.refl _ _)
          | 10, ho, hF =>
            obtain rfl := Option.some.inj ho
            obtain ⟨v62, h62, s62⟩ := hF.dep 2 62 rfl rfl
            obtain rfl : v62 = .bool false := s62
            obtain ⟨v69, h69, s69⟩ := hF.dep 9 69 rfl rfl
            obtain rfl : v69 = .bool false := s69
            refine free_step rfl (by rfl) (fun K' hK => ?_)
            go_simp
            exact hK.out _ _ rfl (Below.refl _ _)
          | n + 11, ho, _ => exact absurd (Array.getElem?_eq_some_iff.1 ho).1 (by show ¬ n + 11 < 11; omega)
        · intro vs u hS hbu
          have e10 : vs 10 = (.bool false) := hS 10 70 rfl
          simp only [putFrom, Act.put, List.setIfInBounds_toArray, List.set_cons_succ, List.set_cons_zero, Nat.reduceAdd]
          rw [e10]
          clear hS e10
          generalize vs 0 = z0
          generalize vs 1 = z1
          generalize vs 2 = z2
          generalize vs 3 = z3
          generalize vs 4 = z4
          generalize vs 5 = z5
          generalize vs 6 = z6
          generalize vs 7 = z7
          generalize vs 8 = z8
          generalize vs 9 = z9
          have HB4 := show Hid (Below W1.heap.size W1 u) from (HU.out u hbu).2.2
          clear hbu HU
          obtain ⟨g0, g1, g2⟩ := (HC.out u HB4.out).1
          have hPb := (HC.out u HB4.out).2.2.2.2.2.2.1
          go_wp2_with fail
          refine hPb.mono ?_
          rintro e w5 ⟨⟨v5, rfl, yP, kP, cP, yQ, kQ, cQ, rfl, iP, iQ⟩, b5⟩
          clear hPb g0 g1 g2
          obtain ⟨q2, hq2⟩ : ∃ q, w5.heap.size = q := ⟨_, rfl⟩
          obtain ⟨WA2, hWA2⟩ : ∃ W, w5.alloc (.cells #[.slice yP kP cP, .slice yQ kQ cQ, .slice none 0 0] 25) = W := ⟨_, rfl⟩
          have kbA2 := keyBox w5 (.slice yP kP cP) (.slice yQ kQ cQ) (.slice none 0 0)
          rw [hWA2, hq2] at kbA2
          obtain ⟨WB2, hWB2⟩ : ∃ W, WA2.setCell ⟨q2, 2, none⟩ (.slice none 0 0) = W := ⟨_, rfl⟩
          have kbB2 : KeyBox w5 WB2 q2 (.slice yP kP cP) (.slice yQ kQ cQ) (.slice none 0 0) := by
            rw [← hWB2]
            exact ⟨kbA2.below.trans ((keptX_at (ps := [q2]) WA2 (by simp)).below kbA2.below.size (fun p hp => by simp at hp; omega)), kbA2.size, setCell_block (i := 2) (u := .slice none 0 0) kbA2.at0⟩
          have gf2 := block_free 2 kbA2.at0
          have gc2 := block_cell (v := .slice none 0 0) 2 kbA2.at0 rfl
          clear kbA2
          obtain ⟨⟨p0, p1, p2⟩, _⟩ := And.intro (kbB2.cells (Below.refl _ WB2)) trivial
          have HQ := show Hid (∀ u, Below WB2.heap.size WB2 u → (u.cell? ⟨q2, 0, none⟩ = some (.slice yP kP cP) ∧ u.cell? ⟨q2, 1, none⟩ = some (.slice yQ kQ cQ) ∧ u.cell? ⟨q2, 2, none⟩ = some (.slice none 0 0)) ∧ IsBytes u (.slice yP kP cP) SN ∧ IsBytes u (.slice yQ kQ cQ) SE2 ∧ IsBytes u (.slice y1 k1 c1) SN ∧ IsBytes u (.slice y2 k2 c2) SE2 ∧ Below W1.heap.size W1 u) from fun u hu => by
            have h5 := bl2 kbB2.below hu
            have h1 := bl2 HB4.out (bl2 b5 h5)
            obtain ⟨_, ⟨j1, j2, _⟩, _⟩ := HC.out u h1
            refine ⟨kbB2.cells hu, ?_, ?_, ?_, ?_, h1⟩
            · rw [← HSN.out]; exact iP.later h5
            · rw [← HSE.out]; exact iQ.later h5
            · rw [← HSN.out]; exact j1
            · rw [← HSE.out]; exact j2
          obtain ⟨g0, g1, g2⟩ := (HC.out WB2 (HQ.out WB2 (Below.refl _ _)).2.2.2.2.2).1
          have hRt := (HC.out WB2 (HQ.out WB2 (Below.refl _ _)).2.2.2.2.2).2.2.2.2.2.1
          clear iP iQ b5 kbB2
          go_wp2_with fail
          refine hRt.mono ?_
          rintro e w6 ⟨rfl, b6⟩
          clear hRt hWA2 hWB2 gf2 gc2 p0 p1 p2 g0 g1 g2
          obtain ⟨⟨p0, p1, p2⟩, m1, m2, m3, m4, m5⟩ := HQ.out w6 b6
          obtain ⟨g0, g1, g2⟩ := (HC.out w6 m5).1
          have cv1 := m1.convert
          have cv2 := m2.convert
          have cv3 := m3.convert
          have cv4 := m4.convert
          have t1 := HTN.out
          have t2 := HTE.out
          have H6 := show Hid (Below W1.heap.size W1 w6) from m5
          clear m1 m2 m3 m4 m5 b6
          have HU := show Hid (∀ u, Below w6.drew.heap.size w6.drew u → (u.cell? ⟨q, 0, none⟩ = some (.slice y1 k1 c1) ∧ u.cell? ⟨q, 1, none⟩ = some (.slice y2 k2 c2) ∧ u.cell? ⟨q, 2, none⟩ = some (.slice y3 k3 c3)) ∧ Calls Tryz.prog 19 #[.agg #[.slice y1 k1 c1, .slice y2 k2 c2, .slice y3 k3 c3]] u (fun e w' => e = .returned (.int .i64 (nl : Int)) ∧ Below u.heap.size u w') ∧ (∀ x, IsBytes u (.slice (some ⟨x, 0, none⟩) nm nm) Z → Calls Tryz.prog 10 #[.agg #[.slice y1 k1 c1, .slice y2 k2 c2, .slice y3 k3 c3], .slice yb kb cb, .slice (some ⟨x, 0, none⟩) nm nm] u fun e w' => e = .returned (.int .i64 21) ∧ Below u.heap.size u w') ∧ Below w.heap.size w u) from fun u hu => by
            have h1 := bl2 H6.out (bl2 ((Below.refl _ w6).drew) hu)
            obtain ⟨f1, _, _, f4, _, _, _, _, f8, f9⟩ := HC.out u h1
            refine ⟨f1, f9, fun x hx => ?_, f4⟩
            have h := f8 _ (List.replicate nm 0) (by rw [HZ.out]; exact hx) (by rw [List.length_replicate]; exact HM.out)
            rw [HV.out] at h
            exact h
          go_wp2_with fail
          clear p0 p1 p2 cv1 cv2 cv3 cv4 t1 t2 g0 g1 g2
          refine free_walk (Sem := semLK2 y1 y2 y3 yb k1 k2 k3 c1 c2 c3 kb cb nl nm Z) rfl (n := 125) (by kernel_rfl) rfl (by kernel_rfl) ?_ ?_ ?_
          · intro ix v u u' h hb
            match ix, h with
            | 0, h => exact h
            | 1, h => exact h
            | 2, h => exact h
            | 3, h => exact h
            | 4, h => exact h
            | 5, h => exact ⟨h.1, IsBytes.later h.2 hb⟩
            | 6, h => exact h
            | 7, h => exact h
            | 8, h => exact h
            | _ + 9, _ => exact trivial
          · intro ix o a u ho hF hbu
            match ix, ho, hF with
            | 0, ho, hF =>
              obtain rfl := Option.some.inj ho
              have h3 : a.tmps[3]? = some (.pointer (some ⟨q, 0, none⟩)) := (hF.out 3 rfl).trans rfl
              have g0 := (HU.out u hbu).1.1
              have g1 := (HU.out u hbu).1.2.1
              have g2 := (HU.out u hbu).1.2.2
              refine free_step rfl (by rfl) (fun K' hK => ?_)
              go_simp
              exact hK.out _ _ rfl (Below.refl _ _)
            | 1, ho, hF =>
              obtain rfl := Option.some.inj ho
              have h1 : a.tmps[1]? = some (.slice yb kb cb) := (hF.out 1 rfl).trans rfl
              refine free_step rfl (by rfl) (fun K' hK => ?_)
              go_simp
              exact hK.out _ _ rfl (Below.refl _ _)
            | 2, ho, hF =>
              obtain rfl := Option.some.inj ho
              have h3 : a.tmps[3]? = some (.pointer (some ⟨q, 0, none⟩)) := (hF.out 3 rfl).trans rfl
              have g0 := (HU.out u hbu).1.1
              have g1 := (HU.out u hbu).1.2.1
              have g2 := (HU.out u hbu).1.2.2
              refine free_step rfl (by rfl) (fun K' hK => ?_)
              go_simp
              exact hK.out _ _ rfl (Below.refl _ _)
            | 3, ho, hF =>
              obtain rfl := Option.some.inj ho
              obtain ⟨v119, h119, s119⟩ := hF.dep 2 119 rfl rfl
              obtain rfl : v119 = .agg #[.slice y1 k1 c1, .slice y2 k2 c2, .slice y3 k3 c3] := s119
              have hc := (HU.out u hbu).2.1
              refine free_step rfl (by rfl) (fun K' hK => ?_)
              go_wp2_with fail
              refine hc.mono ?_
              rintro e u' ⟨rfl, hb⟩
              go_simp
              exact hK.out _ _ rfl hb
            | 4, ho, hF =>
              obtain rfl := Option.some.inj ho
              obtain ⟨v120, h120, s120⟩ := hF.dep 3 120 rfl rfl
              obtain rfl : v120 = .int .i64 (nl : Int) := s120
              have wr := HW.out
              refine free_step rfl (by rfl) (fun K' hK => ?_)
              go_simp
              exact hK.out _ _ rfl (Below.refl _ _)
            | 5, ho, hF =>
              obtain rfl := Option.some.inj ho
              obtain ⟨v121, h121, s121⟩ := hF.dep 4 121 rfl rfl
              obtain rfl : v121 = .int .i64 (nm : Int) := s121
              obtain ⟨wz, hrun, hz, hb⟩ := make_b u nm HM.out
              rw [HZ.out] at hz
              refine free_step rfl (by rfl) (fun K' hK => ?_)
              go_simp
              exact hK.out _ _ ⟨⟨_, rfl⟩, hz⟩ hb
            | 6, ho, hF =>
              obtain rfl := Option.some.inj ho
              obtain ⟨v117, h117, s117⟩ := hF.dep 0 117 rfl rfl
              obtain rfl : v117 = .agg #[.slice y1 k1 c1, .slice y2 k2 c2, .slice y3 k3 c3] := s117
              obtain ⟨v118, h118, s118⟩ := hF.dep 1 118 rfl rfl
              obtain rfl : v118 = .slice yb kb cb := s118
              obtain ⟨v122, h122, s122⟩ := hF.dep 5 122 rfl rfl
              replace s122 : (∃ x, v122 = .slice (some ⟨x, 0, none⟩) nm nm) ∧ IsBytes u v122 Z := s122
              obtain ⟨⟨x5, rfl⟩, i5⟩ := s122
              have hc := (HU.out u hbu).2.2.1 x5 i5
              refine free_step rfl (by rfl) (fun K' hK => ?_)
              go_wp2_with fail
              refine hc.mono ?_
              rintro e u' ⟨rfl, hb⟩
              go_simp
              exact hK.out _ _ rfl hb
            | 7, ho, hF =>
              obtain rfl := Option.some.inj ho
              obtain ⟨v123, h123, s123⟩ := hF.dep 6 123 rfl rfl
              obtain rfl : v123 = .int .i64 21 := s123
              refine free_step rfl (by rfl) (fun K' hK => ?_)
              go_simp
              exact hK.out _ _ rfl (Below.refl _ _)
            | 8, ho, hF =>
              obtain rfl := Option.some.inj ho
              obtain ⟨v124, h124, s124⟩ := hF.dep 7 124 rfl rfl
              obtain rfl : v124 = .bool true := s124
              refine free_step rfl (by rfl) (fun K' hK => ?_)
              go_simp
              exact hK.out _ _ rfl (Below.refl _ _)
            | n + 9, ho, _ => exact absurd (Array.getElem?_eq_some_iff.1 ho).1 (by show ¬ n + 9 < 9; omega)
          · intro vs u hS hbu
            have e8 : vs 8 = (.bool true) := hS 8 6 rfl
            simp only [putFrom, Act.put, List.setIfInBounds_toArray, List.set_cons_succ, List.set_cons_zero, Nat.reduceAdd]
            rw [e8]
            clear hS e8
            generalize vs 0 = z0
            generalize vs 1 = z1
            generalize vs 2 = z2
            generalize vs 3 = z3
            generalize vs 4 = z4
            generalize vs 5 = z5
            generalize vs 6 = z6
            generalize vs 7 = z7
            have HF := show Hid (Below w.heap.size w u) from (HU.out u hbu).2.2.2
            clear hbu HU
            go_wp2_with fail
            go_ret
            exact ⟨rfl, HF.out⟩
  · obtain rfl : false = r := (decide_eq_false hp).symm.trans hr
    have HP := show Hid (¬ (rightP N E D ∧ numB D ≠ 0) ∧ ¬ rightP N E D) from ⟨fun h => hp h.1, hp⟩
    have HV := show Hid (verL N E D b [] = 2) from by
      show verL N E D b [] = 2
      unfold verL
      rw [if_neg hp]
    clear HC0 hp hr hnl hSN hSE2 hk1 hk2 hk3 hkb c1' c2' c3' c4'
    by_cases c5 : n < 62
    · have HS1 := show Hid (∀ u, Below W1.heap.size W1 u → Calls Tryz.prog 16 #[.slice yb kb cb, .int .i64 n] u fun e w' => e = .returned (.tuple #[.slice none 0 0, .int .i64 21]) ∧ w' = u) from fun u hu => qSealI_none _ n u (by omega)
      go_enter Tryz.func6, Tryz.ntmps6
      go_wp2_with fail
      refine (lqAwake_any W1 (HC.out W1 (Below.refl _ W1)).2.2.1).mono ?_
      rintro e w1 ⟨rfl, b1⟩
      obtain ⟨g0, g1, g2⟩ := (HC.out w1 b1).1
      have hRr := (HC.out w1 b1).2.2.2.2.1
      have HB1 := show Hid (Below W1.heap.size W1 w1) from b1
      clear b1 hW1
      go_wp2_with fail
      refine hRr.mono ?_
      rintro e w2 ⟨rfl, b2⟩
      have h2 := bl2 HB1.out b2
      obtain ⟨g0, g1, g2⟩ := (HC.out w2 h2).1
      have hSe := HS1.out w2 h2
      have HB2 := show Hid (Below W1.heap.size W1 w2) from h2
      clear hRr b2 h2
      go_wp2_with fail
      refine hSe.mono ?_
      rintro e w3 ⟨rfl, b3⟩
      clear hSe g0 g1 g2
      have HB4 := show Hid (Below W1.heap.size W1 w3) from by rw [b3]; exact HB2.out
      obtain ⟨g0, g1, g2⟩ := (HC.out w3 HB4.out).1
      clear b3
      have hPb := (HC.out w3 HB4.out).2.2.2.2.2.2.1
      go_wp2_with fail
      refine hPb.mono ?_
      rintro e w5 ⟨⟨v5, rfl, yP, kP, cP, yQ, kQ, cQ, rfl, iP, iQ⟩, b5⟩
      clear hPb g0 g1 g2
      obtain ⟨q2, hq2⟩ : ∃ q, w5.heap.size = q := ⟨_, rfl⟩
      obtain ⟨WA2, hWA2⟩ : ∃ W, w5.alloc (.cells #[.slice yP kP cP, .slice yQ kQ cQ, .slice none 0 0] 25) = W := ⟨_, rfl⟩
      have kbA2 := keyBox w5 (.slice yP kP cP) (.slice yQ kQ cQ) (.slice none 0 0)
      rw [hWA2, hq2] at kbA2
      obtain ⟨WB2, hWB2⟩ : ∃ W, WA2.setCell ⟨q2, 2, none⟩ (.slice none 0 0) = W := ⟨_, rfl⟩
      have kbB2 : KeyBox w5 WB2 q2 (.slice yP kP cP) (.slice yQ kQ cQ) (.slice none 0 0) := by
        rw [← hWB2]
        exact ⟨kbA2.below.trans ((keptX_at (ps := [q2]) WA2 (by simp)).below kbA2.below.size (fun p hp => by simp at hp; omega)), kbA2.size, setCell_block (i := 2) (u := .slice none 0 0) kbA2.at0⟩
      have gf2 := block_free 2 kbA2.at0
      have gc2 := block_cell (v := .slice none 0 0) 2 kbA2.at0 rfl
      clear kbA2
      obtain ⟨⟨p0, p1, p2⟩, _⟩ := And.intro (kbB2.cells (Below.refl _ WB2)) trivial
      have HQ := show Hid (∀ u, Below WB2.heap.size WB2 u → (u.cell? ⟨q2, 0, none⟩ = some (.slice yP kP cP) ∧ u.cell? ⟨q2, 1, none⟩ = some (.slice yQ kQ cQ) ∧ u.cell? ⟨q2, 2, none⟩ = some (.slice none 0 0)) ∧ IsBytes u (.slice yP kP cP) SN ∧ IsBytes u (.slice yQ kQ cQ) SE2 ∧ IsBytes u (.slice y1 k1 c1) SN ∧ IsBytes u (.slice y2 k2 c2) SE2 ∧ Below W1.heap.size W1 u) from fun u hu => by
        have h5 := bl2 kbB2.below hu
        have h1 := bl2 HB4.out (bl2 b5 h5)
        obtain ⟨_, ⟨j1, j2, _⟩, _⟩ := HC.out u h1
        refine ⟨kbB2.cells hu, ?_, ?_, ?_, ?_, h1⟩
        · rw [← HSN.out]; exact iP.later h5
        · rw [← HSE.out]; exact iQ.later h5
        · rw [← HSN.out]; exact j1
        · rw [← HSE.out]; exact j2
      obtain ⟨g0, g1, g2⟩ := (HC.out WB2 (HQ.out WB2 (Below.refl _ _)).2.2.2.2.2).1
      have hRt := (HC.out WB2 (HQ.out WB2 (Below.refl _ _)).2.2.2.2.2).2.2.2.2.2.1
      clear iP iQ b5 kbB2
      go_wp2_with fail
      refine hRt.mono ?_
      rintro e w6 ⟨rfl, b6⟩
      clear hRt hWA2 hWB2 gf2 gc2 p0 p1 p2 g0 g1 g2
      obtain ⟨⟨p0, p1, p2⟩, m1, m2, m3, m4, m5⟩ := HQ.out w6 b6
      obtain ⟨g0, g1, g2⟩ := (HC.out w6 m5).1
      have cv1 := m1.convert
      have cv2 := m2.convert
      have cv3 := m3.convert
      have cv4 := m4.convert
      have t1 := HTN.out
      have t2 := HTE.out
      have H6 := show Hid (Below W1.heap.size W1 w6) from m5
      clear m1 m2 m3 m4 m5 b6
      have hSg := (HC.out w6 H6.out).2.2.2.2.2.2.2.1
      go_wp2_with fail
      refine hSg.mono ?_
      rintro e w7 ⟨hs, b7⟩
      have he : e = .returned (.tuple #[.slice none 0 0, .int .i64 2]) := by
        rcases hs with ⟨h, _⟩ | ⟨h, _⟩ | ⟨_, h⟩
        · exact absurd h HP.out.2
        · exact absurd h HP.out.2
        · exact h
      subst he
      have h7 := bl2 H6.out b7
      obtain ⟨g0, g1, g2⟩ := (HC.out w7 h7).1
      have hVf := (HC.out w7 h7).2.2.2.2.2.2.2.2.1 (.slice none 0 0) [] (isb_none w7) (by decide)
      rw [HV.out] at hVf
      have H7 := show Hid (Below W1.heap.size W1 w7) from h7
      clear hSg hs b7 h7 p0 p1 p2 cv1 cv2 cv3 cv4 t1 t2
      go_wp2_with fail
      refine hVf.mono ?_
      rintro e w8 ⟨rfl, b8⟩
      have HF := show Hid (Below w.heap.size w w8) from (HC.out w8 (bl2 H7.out b8)).2.2.2.1
      clear hVf b8
      go_wp2_with fail
      go_ret
      exact ⟨rfl, HF.out⟩
    · by_cases c6 : 512 < n
      · have HS1 := show Hid (∀ u, Below W1.heap.size W1 u → Calls Tryz.prog 16 #[.slice yb kb cb, .int .i64 n] u fun e w' => e = .returned (.tuple #[.slice none 0 0, .int .i64 21]) ∧ w' = u) from fun u hu => qSealI_none _ n u (by omega)
        go_enter Tryz.func6, Tryz.ntmps6
        go_wp2_with fail
        refine (lqAwake_any W1 (HC.out W1 (Below.refl _ W1)).2.2.1).mono ?_
        rintro e w1 ⟨rfl, b1⟩
        obtain ⟨g0, g1, g2⟩ := (HC.out w1 b1).1
        have hRr := (HC.out w1 b1).2.2.2.2.1
        have HB1 := show Hid (Below W1.heap.size W1 w1) from b1
        clear b1 hW1
        go_wp2_with fail
        refine hRr.mono ?_
        rintro e w2 ⟨rfl, b2⟩
        have h2 := bl2 HB1.out b2
        obtain ⟨g0, g1, g2⟩ := (HC.out w2 h2).1
        have hSe := HS1.out w2 h2
        have HB2 := show Hid (Below W1.heap.size W1 w2) from h2
        clear hRr b2 h2
        go_wp2_with fail
        refine hSe.mono ?_
        rintro e w3 ⟨rfl, b3⟩
        clear hSe g0 g1 g2
        have HB4 := show Hid (Below W1.heap.size W1 w3) from by rw [b3]; exact HB2.out
        obtain ⟨g0, g1, g2⟩ := (HC.out w3 HB4.out).1
        clear b3
        have hPb := (HC.out w3 HB4.out).2.2.2.2.2.2.1
        go_wp2_with fail
        refine hPb.mono ?_
        rintro e w5 ⟨⟨v5, rfl, yP, kP, cP, yQ, kQ, cQ, rfl, iP, iQ⟩, b5⟩
        clear hPb g0 g1 g2
        obtain ⟨q2, hq2⟩ : ∃ q, w5.heap.size = q := ⟨_, rfl⟩
        obtain ⟨WA2, hWA2⟩ : ∃ W, w5.alloc (.cells #[.slice yP kP cP, .slice yQ kQ cQ, .slice none 0 0] 25) = W := ⟨_, rfl⟩
        have kbA2 := keyBox w5 (.slice yP kP cP) (.slice yQ kQ cQ) (.slice none 0 0)
        rw [hWA2, hq2] at kbA2
        obtain ⟨WB2, hWB2⟩ : ∃ W, WA2.setCell ⟨q2, 2, none⟩ (.slice none 0 0) = W := ⟨_, rfl⟩
        have kbB2 : KeyBox w5 WB2 q2 (.slice yP kP cP) (.slice yQ kQ cQ) (.slice none 0 0) := by
          rw [← hWB2]
          exact ⟨kbA2.below.trans ((keptX_at (ps := [q2]) WA2 (by simp)).below kbA2.below.size (fun p hp => by simp at hp; omega)), kbA2.size, setCell_block (i := 2) (u := .slice none 0 0) kbA2.at0⟩
        have gf2 := block_free 2 kbA2.at0
        have gc2 := block_cell (v := .slice none 0 0) 2 kbA2.at0 rfl
        clear kbA2
        obtain ⟨⟨p0, p1, p2⟩, _⟩ := And.intro (kbB2.cells (Below.refl _ WB2)) trivial
        have HQ := show Hid (∀ u, Below WB2.heap.size WB2 u → (u.cell? ⟨q2, 0, none⟩ = some (.slice yP kP cP) ∧ u.cell? ⟨q2, 1, none⟩ = some (.slice yQ kQ cQ) ∧ u.cell? ⟨q2, 2, none⟩ = some (.slice none 0 0)) ∧ IsBytes u (.slice yP kP cP) SN ∧ IsBytes u (.slice yQ kQ cQ) SE2 ∧ IsBytes u (.slice y1 k1 c1) SN ∧ IsBytes u (.slice y2 k2 c2) SE2 ∧ Below W1.heap.size W1 u) from fun u hu => by
          have h5 := bl2 kbB2.below hu
          have h1 := bl2 HB4.out (bl2 b5 h5)
          obtain ⟨_, ⟨j1, j2, _⟩, _⟩ := HC.out u h1
          refine ⟨kbB2.cells hu, ?_, ?_, ?_, ?_, h1⟩
          · rw [← HSN.out]; exact iP.later h5
          · rw [← HSE.out]; exact iQ.later h5
          · rw [← HSN.out]; exact j1
          · rw [← HSE.out]; exact j2
        obtain ⟨g0, g1, g2⟩ := (HC.out WB2 (HQ.out WB2 (Below.refl _ _)).2.2.2.2.2).1
        have hRt := (HC.out WB2 (HQ.out WB2 (Below.refl _ _)).2.2.2.2.2).2.2.2.2.2.1
        clear iP iQ b5 kbB2
        go_wp2_with fail
        refine hRt.mono ?_
        rintro e w6 ⟨rfl, b6⟩
        clear hRt hWA2 hWB2 gf2 gc2 p0 p1 p2 g0 g1 g2
        obtain ⟨⟨p0, p1, p2⟩, m1, m2, m3, m4, m5⟩ := HQ.out w6 b6
        obtain ⟨g0, g1, g2⟩ := (HC.out w6 m5).1
        have cv1 := m1.convert
        have cv2 := m2.convert
        have cv3 := m3.convert
        have cv4 := m4.convert
        have t1 := HTN.out
        have t2 := HTE.out
        have H6 := show Hid (Below W1.heap.size W1 w6) from m5
        clear m1 m2 m3 m4 m5 b6
        have hSg := (HC.out w6 H6.out).2.2.2.2.2.2.2.1
        go_wp2_with fail
        refine hSg.mono ?_
        rintro e w7 ⟨hs, b7⟩
        have he : e = .returned (.tuple #[.slice none 0 0, .int .i64 2]) := by
          rcases hs with ⟨h, _⟩ | ⟨h, _⟩ | ⟨_, h⟩
          · exact absurd h HP.out.2
          · exact absurd h HP.out.2
          · exact h
        subst he
        have h7 := bl2 H6.out b7
        obtain ⟨g0, g1, g2⟩ := (HC.out w7 h7).1
        have hVf := (HC.out w7 h7).2.2.2.2.2.2.2.2.1 (.slice none 0 0) [] (isb_none w7) (by decide)
        rw [HV.out] at hVf
        have H7 := show Hid (Below W1.heap.size W1 w7) from h7
        clear hSg hs b7 h7 p0 p1 p2 cv1 cv2 cv3 cv4 t1 t2
        go_wp2_with fail
        refine hVf.mono ?_
        rintro e w8 ⟨rfl, b8⟩
        have HF := show Hid (Below w.heap.size w w8) from (HC.out w8 (bl2 H7.out b8)).2.2.2.1
        clear hVf b8
        go_wp2_with fail
        go_ret
        exact ⟨rfl, HF.out⟩
      · obtain ⟨m, rfl⟩ : ∃ m : Nat, n = (m : Int) := ⟨n.toNat, by omega⟩
        have HS1 := show Hid (∀ u, Below W1.heap.size W1 u → Calls Tryz.prog 16 #[.slice yb kb cb, .int .i64 (m : Int)] u fun e w' => (∃ x, e = .returned (.tuple #[x, .int .i64 0]) ∧ IsBytes w' x ⟨(sealL b m).toArray⟩) ∧ Below u.heap.size u w') from fun u hu => by
          obtain ⟨_, ⟨_, _, _, j4⟩, j5, _⟩ := HC.out u hu
          exact qSeal_any _ b m u j4 j5 (by have := HL.out; omega) (by omega) (by omega)
        have HS2 := show Hid (∀ u, Below W1.heap.size W1 u → Calls Tryz.prog 17 #[.slice yb kb cb, .int .i64 (m : Int)] u fun e w' => (∃ x, e = .returned x ∧ IsBytes w' x ⟨(sealL b m).toArray⟩) ∧ Below u.heap.size u w') from fun u hu => by
          obtain ⟨_, ⟨_, _, _, j4⟩, j5, _⟩ := HC.out u hu
          exact qrSeal_any _ b m u j4 (by have := HL.out; omega) (by omega) (by omega)
        obtain ⟨SE, hSE⟩ : ∃ S : ByteArray, (⟨(sealL b m).toArray⟩ : ByteArray) = S := ⟨_, rfl⟩
        have HS := show Hid ((⟨(sealL b m).toArray⟩ : ByteArray) = SE) from hSE
        have HT := show Hid ((SE.toList == SE.toList) = true) from beq_self_eq_true _
        clear hSE
        go_enter Tryz.func6, Tryz.ntmps6
        go_wp2_with fail
        refine (lqAwake_any W1 (HC.out W1 (Below.refl _ W1)).2.2.1).mono ?_
        rintro e w1 ⟨rfl, b1⟩
        obtain ⟨g0, g1, g2⟩ := (HC.out w1 b1).1
        have hRr := (HC.out w1 b1).2.2.2.2.1
        have HB1 := show Hid (Below W1.heap.size W1 w1) from b1
        clear b1 hW1
        go_wp2_with fail
        refine hRr.mono ?_
        rintro e w2 ⟨rfl, b2⟩
        have h2 := bl2 HB1.out b2
        obtain ⟨g0, g1, g2⟩ := (HC.out w2 h2).1
        have hSe := HS1.out w2 h2
        have HB2 := show Hid (Below W1.heap.size W1 w2) from h2
        clear hRr b2 h2
        go_wp2_with fail
        refine hSe.mono ?_
        rintro e w3 ⟨⟨x3, rfl, i3⟩, b3⟩
        obtain ⟨yf, kf, cf, rfl⟩ := isb_open i3
        clear hSe g0 g1 g2
        have h3 := bl2 HB2.out b3
        have HU := show Hid (∀ u, Below w3.drew.heap.size w3.drew u → IsBytes u (.slice yf kf cf) SE ∧ Calls Tryz.prog 17 #[.slice yb kb cb, .int .i64 (m : Int)] u (fun e w' => (∃ x, e = .returned x ∧ IsBytes w' x ⟨(sealL b m).toArray⟩) ∧ Below u.heap.size u w') ∧ Below W1.heap.size W1 u) from fun u hu => by
          have h4 := bl2 ((Below.refl _ w3).drew) hu
          refine ⟨?_, HS2.out u (bl2 h3 h4), bl2 h3 h4⟩
          rw [← HS.out]
          exact i3.later h4
        clear i3 b3 h3
        go_wp2_with fail
        refine free_walk (Sem := semLK1 yb yf kb cb kf cf m SE) rfl (n := 125) (by kernel_rfl) rfl (by kernel_rfl) ?_ ?_ ?_
        · intro ix v u u' h hb
          match ix, h with
          | 0, h => exact h
          | 1, h => exact h
          | 2, h => exact h
          | 3, h => exact h
          | 4, h => exact h
          | 5, h => exact h
          | 6, h => exact h
          | 7, h => exact IsBytes.later h hb
          | 8, h => exact h
          | 9, h => exact h
          | 10, h => exact h
          | _ + 11, _ => exact trivial
        · intro ix o a u ho hF hbu
          match ix, ho, hF with
          | 0, ho, hF =>
            obtain rfl := Option.some.inj ho
            have h9 : a.tmps[9]? = some (.int .i64 0) := (hF.out 9 rfl).trans rfl
            refine free_step rfl (by rfl) (fun K' hK => ?_)
            go_simp
            exact hK.out _ _ rfl (Below.refl _ _)
          | 1, ho, hF =>
            obtain rfl := Option.some.inj ho
            obtain ⟨v60, h60, s60⟩ := hF.dep 0 60 rfl rfl
            obtain rfl : v60 = .int .i64 0 := s60
            refine free_step rfl (by rfl) (fun K' hK => ?_)
            go_simp
            exact hK.out _ _ rfl (Below.refl _ _)
          | 2, ho, hF =>
            obtain rfl := Option.some.inj ho
            obtain ⟨v61, h61, s61⟩ := hF.dep 1 61 rfl rfl
            obtain rfl : v61 = .bool false := s61
            refine free_step rfl (by rfl) (fun K' hK => ?_)
            go_simp
            exact hK.out _ _ rfl (Below.refl _ _)
          | 3, ho, hF =>
            obtain rfl := Option.some.inj ho
            have h8 : a.tmps[8]? = some (.slice yf kf cf) := (hF.out 8 rfl).trans rfl
            obtain ⟨v62, h62, s62⟩ := hF.dep 2 62 rfl rfl
            obtain rfl : v62 = .bool false := s62
            refine free_step rfl (by show (yielded _ a.tmps 2 == some false) = true; unfold yielded; simp [h62]) (fun K' hK => ?_)
            go_simp
            exact hK.out _ _ rfl (Below.refl _ _)
          | 4, ho, hF =>
            obtain rfl := Option.some.inj ho
            obtain ⟨v63, h63, s63⟩ := hF.dep 3 63 rfl rfl
            obtain rfl : v63 = .slice yf kf cf := s63
            obtain ⟨v62, h62, s62⟩ := hF.dep 2 62 rfl rfl
            obtain rfl : v62 = .bool false := s62
            have cv := (HU.out u hbu).1.convert
            refine free_step rfl (by show (yielded _ a.tmps 2 == some false) = true; unfold yielded; simp [h62]) (fun K' hK => ?_)
            go_simp
            exact hK.out _ _ rfl (Below.refl _ _)
          | 5, ho, hF =>
            obtain rfl := Option.some.inj ho
            have h1 : a.tmps[1]? = some (.slice yb kb cb) := (hF.out 1 rfl).trans rfl
            obtain ⟨v62, h62, s62⟩ := hF.dep 2 62 rfl rfl
            obtain rfl : v62 = .bool false := s62
            refine free_step rfl (by show (yielded _ a.tmps 2 == some false) = true; unfold yielded; simp [h62]) (fun K' hK => ?_)
            go_simp
            exact hK.out _ _ rfl (Below.refl _ _)
          | 6, ho, hF =>
            obtain rfl := Option.some.inj ho
            have h2 : a.tmps[2]? = some (.int .i64 (m : Int)) := (hF.out 2 rfl).trans rfl
            obtain ⟨v62, h62, s62⟩ := hF.dep 2 62 rfl rfl
            obtain rfl : v62 = .bool false := s62
            refine free_step rfl (by show (yielded _ a.tmps 2 == some false) = true; unfold yielded; simp [h62]) (fun K' hK => ?_)
            go_simp
            exact hK.out _ _ rfl (Below.refl _ _)
          | 7, ho, hF =>
            obtain rfl := Option.some.inj ho
            obtain ⟨v65, h65, s65⟩ := hF.dep 5 65 rfl rfl
            obtain rfl : v65 = .slice yb kb cb := s65
            obtain ⟨v66, h66, s66⟩ := hF.dep 6 66 rfl rfl
            obtain rfl : v66 = .int .i64 (m : Int) := s66
            obtain ⟨v62, h62, s62⟩ := hF.dep 2 62 rfl rfl
            obtain rfl : v62 = .bool false := s62
            have hc := (HU.out u hbu).2.1
            refine free_step rfl (by show (yielded _ a.tmps 2 == some false) = true; unfold yielded; simp [h62]) (fun K' hK => ?_)
            go_wp2_with fail
            refine hc.mono ?_
            rintro e u' ⟨⟨x, rfl, hI⟩, hb⟩
            go_simp
            exact hK.out _ _ (HS.out ▸ hI) hb
          | 8, ho, hF =>
            obtain rfl := Option.some.inj ho
            obtain ⟨v67, h67, s67⟩ := hF.dep 7 67 rfl rfl
            replace s67 : IsBytes u v67 SE := s67
            obtain ⟨v62, h62, s62⟩ := hF.dep 2 62 rfl rfl
            obtain rfl : v62 = .bool false := s62
            have cv := IsBytes.convert s67
            refine free_step rfl (by show (yielded _ a.tmps 2 == some false) = true; unfold yielded; simp [h62]) (fun K' hK => ?_)
            go_simp
            exact hK.out _ _ rfl (Below.refl _ _)
          | 9, ho, hF =>
            obtain rfl := Option.some.inj ho
            obtain ⟨v64, h64, s64⟩ := hF.dep 4 64 rfl rfl
            obtain rfl : v64 = .string SE := s64
            obtain ⟨v68, h68, s68⟩ := hF.dep 8 68 rfl rfl
            obtain rfl : v68 = .string SE := s68
            obtain ⟨v62, h62, s62⟩ := hF.dep 2 62 rfl rfl
            obtain rfl : v62 = .bool false := s62
            have tS := HT.out
            refine free_step rfl (by show (yielded _ a.tmps 2 == some false) = true; unfold yielded; simp [h62]) (fun K' hK => ?_)
            go_simp
            exact hK.out _ _ rfl (Below.refl _ _)
          | 10, ho, hF =>
            obtain rfl := Option.some.inj ho
            obtain ⟨v62, h62, s62⟩ := hF.dep 2 62 rfl rfl
            obtain rfl : v62 = .bool false := s62
            obtain ⟨v69, h69, s69⟩ := hF.dep 9 69 rfl rfl
            obtain rfl : v69 = .bool false := s69
            refine free_step rfl (by rfl) (fun K' hK => ?_)
            go_simp
            exact hK.out _ _ rfl (Below.refl _ _)
          | n + 11, ho, _ => exact absurd (Array.getElem?_eq_some_iff.1 ho).1 (by show ¬ n + 11 < 11; omega)
        · intro vs u hS hbu
          have e10 : vs 10 = (.bool false) := hS 10 70 rfl
          simp only [putFrom, Act.put, List.setIfInBounds_toArray, List.set_cons_succ, List.set_cons_zero, Nat.reduceAdd]
          rw [e10]
          clear hS e10
          generalize vs 0 = z0
          generalize vs 1 = z1
          generalize vs 2 = z2
          generalize vs 3 = z3
          generalize vs 4 = z4
          generalize vs 5 = z5
          generalize vs 6 = z6
          generalize vs 7 = z7
          generalize vs 8 = z8
          generalize vs 9 = z9
          have HB4 := show Hid (Below W1.heap.size W1 u) from (HU.out u hbu).2.2
          clear hbu HU
          obtain ⟨g0, g1, g2⟩ := (HC.out u HB4.out).1
          have hPb := (HC.out u HB4.out).2.2.2.2.2.2.1
          go_wp2_with fail
          refine hPb.mono ?_
          rintro e w5 ⟨⟨v5, rfl, yP, kP, cP, yQ, kQ, cQ, rfl, iP, iQ⟩, b5⟩
          clear hPb g0 g1 g2
          obtain ⟨q2, hq2⟩ : ∃ q, w5.heap.size = q := ⟨_, rfl⟩
          obtain ⟨WA2, hWA2⟩ : ∃ W, w5.alloc (.cells #[.slice yP kP cP, .slice yQ kQ cQ, .slice none 0 0] 25) = W := ⟨_, rfl⟩
          have kbA2 := keyBox w5 (.slice yP kP cP) (.slice yQ kQ cQ) (.slice none 0 0)
          rw [hWA2, hq2] at kbA2
          obtain ⟨WB2, hWB2⟩ : ∃ W, WA2.setCell ⟨q2, 2, none⟩ (.slice none 0 0) = W := ⟨_, rfl⟩
          have kbB2 : KeyBox w5 WB2 q2 (.slice yP kP cP) (.slice yQ kQ cQ) (.slice none 0 0) := by
            rw [← hWB2]
            exact ⟨kbA2.below.trans ((keptX_at (ps := [q2]) WA2 (by simp)).below kbA2.below.size (fun p hp => by simp at hp; omega)), kbA2.size, setCell_block (i := 2) (u := .slice none 0 0) kbA2.at0⟩
          have gf2 := block_free 2 kbA2.at0
          have gc2 := block_cell (v := .slice none 0 0) 2 kbA2.at0 rfl
          clear kbA2
          obtain ⟨⟨p0, p1, p2⟩, _⟩ := And.intro (kbB2.cells (Below.refl _ WB2)) trivial
          have HQ := show Hid (∀ u, Below WB2.heap.size WB2 u → (u.cell? ⟨q2, 0, none⟩ = some (.slice yP kP cP) ∧ u.cell? ⟨q2, 1, none⟩ = some (.slice yQ kQ cQ) ∧ u.cell? ⟨q2, 2, none⟩ = some (.slice none 0 0)) ∧ IsBytes u (.slice yP kP cP) SN ∧ IsBytes u (.slice yQ kQ cQ) SE2 ∧ IsBytes u (.slice y1 k1 c1) SN ∧ IsBytes u (.slice y2 k2 c2) SE2 ∧ Below W1.heap.size W1 u) from fun u hu => by
            have h5 := bl2 kbB2.below hu
            have h1 := bl2 HB4.out (bl2 b5 h5)
            obtain ⟨_, ⟨j1, j2, _⟩, _⟩ := HC.out u h1
            refine ⟨kbB2.cells hu, ?_, ?_, ?_, ?_, h1⟩
            · rw [← HSN.out]; exact iP.later h5
            · rw [← HSE.out]; exact iQ.later h5
            · rw [← HSN.out]; exact j1
            · rw [← HSE.out]; exact j2
          obtain ⟨g0, g1, g2⟩ := (HC.out WB2 (HQ.out WB2 (Below.refl _ _)).2.2.2.2.2).1
          have hRt := (HC.out WB2 (HQ.out WB2 (Below.refl _ _)).2.2.2.2.2).2.2.2.2.2.1
          clear iP iQ b5 kbB2
          go_wp2_with fail
          refine hRt.mono ?_
          rintro e w6 ⟨rfl, b6⟩
          clear hRt hWA2 hWB2 gf2 gc2 p0 p1 p2 g0 g1 g2
          obtain ⟨⟨p0, p1, p2⟩, m1, m2, m3, m4, m5⟩ := HQ.out w6 b6
          obtain ⟨g0, g1, g2⟩ := (HC.out w6 m5).1
          have cv1 := m1.convert
          have cv2 := m2.convert
          have cv3 := m3.convert
          have cv4 := m4.convert
          have t1 := HTN.out
          have t2 := HTE.out
          have H6 := show Hid (Below W1.heap.size W1 w6) from m5
          clear m1 m2 m3 m4 m5 b6
          have hSg := (HC.out w6 H6.out).2.2.2.2.2.2.2.1
          go_wp2_with fail
          refine hSg.mono ?_
          rintro e w7 ⟨hs, b7⟩
          have he : e = .returned (.tuple #[.slice none 0 0, .int .i64 2]) := by
            rcases hs with ⟨h, _⟩ | ⟨h, _⟩ | ⟨_, h⟩
            · exact absurd h HP.out.2
            · exact absurd h HP.out.2
            · exact h
          subst he
          have h7 := bl2 H6.out b7
          obtain ⟨g0, g1, g2⟩ := (HC.out w7 h7).1
          have hVf := (HC.out w7 h7).2.2.2.2.2.2.2.2.1 (.slice none 0 0) [] (isb_none w7) (by decide)
          rw [HV.out] at hVf
          have H7 := show Hid (Below W1.heap.size W1 w7) from h7
          clear hSg hs b7 h7 p0 p1 p2 cv1 cv2 cv3 cv4 t1 t2
          go_wp2_with fail
          refine hVf.mono ?_
          rintro e w8 ⟨rfl, b8⟩
          have HF := show Hid (Below w.heap.size w w8) from (HC.out w8 (bl2 H7.out b8)).2.2.2.1
          clear hVf b8
          go_wp2_with fail
          go_ret
          exact ⟨rfl, HF.out⟩
theorem isb_selfK {w : World} {v : Value} {s : ByteArray} (h : IsBytes w v s) : IsBytes w v ⟨s.data.toList.toArray⟩ := by
  have e : (⟨s.data.toList.toArray⟩ : ByteArray) = s := by cases s; simp
  rw [e]
  exact h
theorem lqKeysB (v1 v2 v3 vb : Value) (sN sE sD s : ByteArray) (n : Int) (w : World) (h1 : IsBytes w v1 sN) (h2 : IsBytes w v2 sE) (h3 : IsBytes w v3 sD) (h4 : IsBytes w vb s) (hK : KTab w) :
    Calls Tryz.prog 6 #[.agg #[v1, v2, v3], vb, .int .i64 n] w fun e w' => e = .returned (.bool true) ∧ Below w.heap.size w w' :=
  lqKeys_any v1 v2 v3 vb _ _ _ _ n w (isb_selfK h1) (isb_selfK h2) (isb_selfK h3) (isb_selfK h4) hK
end Go.Proofs.YtpcmpeeflnlkpaaGreatDoor
