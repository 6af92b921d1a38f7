/-
  The law RsaMakes.
-/
import Derived.Test.YtpcmpeeflnlkpaaDoorQSoundEtc
import Derived.Test.YtpcmpeeflnlkpaaDoorQRSizeEtc
import Derived.Test.YtpcmpeeflnlkpaaDoorNRGcd
import Derived.Test.YtpcmpeeflnlkpaaDoorNRSub
namespace Go.Proofs.YtpcmpeeflnlkpaaDoor
open Go.RowKit Ch
set_option maxRecDepth 100000

theorem isD_k (w : World) (k : Nat) (hk : 0 < k) (hk2 : k < 256) : IsD 1 (w.alloc (.cells #[.int .i64 (k : Int)] 3)) (.slice (some ⟨w.heap.size, 0, none⟩) 1 1) k := by
  refine ⟨some ⟨w.heap.size, 0, none⟩, 1, [k], rfl, own_n (own_oneN RI w k), by intro z hz; simp at hz; omega, ?_, by simp [numD], by simp⟩
  exact trimL_stop (d := k) (by omega) []
theorem cmpV2 (n m : Nat) (u v : Value) (M N : Nat) (w : World) (hu : IsD n w u M) (hv : IsD m w v N) (hn : n ≤ 1000000) {X : Int} (hX : cmpN M N = X) :
    Calls Tryd.prog 8 #[u, v] w fun e w' => e = .returned (.int .i64 X) ∧ Below w.heap.size w w' := by
  subst hX
  exact digCmp n m u v M N w hu hv hn
theorem cmpN_ltM {a b : Nat} (h : a < b) : cmpN a b = -1 := if_pos h
theorem cmpN_eqM (a : Nat) : cmpN a a = 0 := by unfold cmpN; rw [if_neg (Nat.lt_irrefl a), if_neg (Nat.lt_irrefl a)]
theorem cmpN_gtM {a b : Nat} (h : b < a) : cmpN a b = 1 := by unfold cmpN; rw [if_neg (by omega), if_pos h]
/-- At least: what Cmp answers is not below 0. -/
theorem cmpN_geM {a b : Nat} (h : b ≤ a) : ∃ X : Int, cmpN a b = X ∧ ¬ X < 0 ∧ 0 ≤ X ∧ (a ≠ b → ¬ X = 0) := by
  rcases Nat.lt_or_eq_of_le h with h | h
  · exact ⟨1, cmpN_gtM h, by decide, by decide, fun _ => by decide⟩
  · subst h
    exact ⟨0, cmpN_eqM _, by decide, by decide, fun h => absurd rfl h⟩
theorem cmpN_neM {a b : Nat} (h : a ≠ b) : ∃ X : Int, cmpN a b = X ∧ (X == 0) = false := by
  rcases Nat.lt_or_gt_of_ne h with h | h
  · exact ⟨-1, cmpN_ltM h, by decide⟩
  · exact ⟨1, cmpN_gtM h, by decide⟩
set_option maxHeartbeats 4000000 in
/-- Two keys of nothing. -/
theorem lqSame_none (w : World) : Calls Tryd.prog 9 #[.agg #[.slice none 0 0, .slice none 0 0, .slice none 0 0], .agg #[.slice none 0 0, .slice none 0 0, .slice none 0 0]] w fun e w' => e = .returned (.bool true) ∧ Below w.heap.size w w' := by
  have cv := fun u => (isb_none u).convert
  have hx : ((⟨([] : List UInt8).toArray⟩ : ByteArray).toList == (⟨([] : List UInt8).toArray⟩ : ByteArray).toList) = true := beq_self_eq_true _
  have ka := keyBox w (.slice none 0 0) (.slice none 0 0) (.slice none 0 0)
  obtain ⟨W1, hW1⟩ : ∃ W, w.alloc (.cells #[.slice none 0 0, .slice none 0 0, .slice none 0 0] 25) = W := ⟨_, rfl⟩
  obtain ⟨qa, hqa⟩ : ∃ q, w.heap.size = q := ⟨_, rfl⟩
  rw [hW1, hqa] at ka
  have kb := keyBox W1 (.slice none 0 0) (.slice none 0 0) (.slice none 0 0)
  obtain ⟨W2, hW2⟩ : ∃ W, W1.alloc (.cells #[.slice none 0 0, .slice none 0 0, .slice none 0 0] 25) = W := ⟨_, rfl⟩
  obtain ⟨qb, hqb⟩ : ∃ q, W1.heap.size = q := ⟨_, rfl⟩
  rw [hW2, hqb] at kb
  obtain ⟨a0, a1, a2⟩ := ka.cells kb.below
  obtain ⟨b0, b1, b2⟩ := kb.cells (Below.refl _ W2)
  have HF := show Hid (Below w.heap.size w W2) from bl2 ka.below kb.below
  have cv := cv W2
  clear ka kb
  go_enter Tryd.func9, Tryd.ntmps9
  go_wp2_with fail
  go_ret
  exact ⟨rfl, HF.out⟩
/-- The first digit of a number that isn't nought. -/
theorem isD_firstM {n N : Nat} {w : World} {y : Option Addr} {k c : Nat} (h : IsD n w (.slice y k c) N) (hN : N ≠ 0) : ∃ b o, y = some ⟨b, o, none⟩ ∧ 0 < k ∧ ∀ u, Below w.heap.size w u → u.cell? ⟨b, o, none⟩ = some (.int .i64 ((N % 256 : Nat) : Int)) := by
  obtain ⟨y', c', L, hv, hI, hA, _, hn, _⟩ := h
  simp only [Value.slice.injEq] at hv
  obtain ⟨rfl, rfl, rfl⟩ := hv
  cases L with
  | nil => exact absurd hn.symm hN
  | cons d t =>
    obtain ⟨_, b, o, rfl, hb, hc⟩ := hI.cellAt (i := 0) (n := d) rfl
    have hd : N % 256 = d := by
      have h1 : d < 256 := hA d (List.mem_cons_self ..)
      rw [← hn, numD]
      omega
    refine ⟨b, o, rfl, by simp, fun u hu => ?_⟩
    rw [hd]
    exact (hu.cell (p := ⟨b, o, none⟩) hb).trans hc
/-- The first byte. -/
theorem isb_first {w : World} {y : Option Addr} {k c : Nat} {x : UInt8} {t : List UInt8} (h : IsBytes w (.slice y k c) ⟨(x :: t).toArray⟩) : ∃ b o, y = some ⟨b, o, none⟩ ∧ 0 < k ∧ ∀ u, Below w.heap.size w u → u.cell? ⟨b, o, none⟩ = some (.int .u8 (x.toNat : Int)) := by
  have hz : (⟨(x :: t).toArray⟩ : ByteArray).size = t.length + 1 := size_of_list _
  obtain ⟨a, cap, hv, _, _, ⟨_, h0, _⟩ | ⟨q, rfl, h0 | ⟨b, o, rfl, hb, hf⟩⟩⟩ := h
  · omega
  · omega
  · rw [hz] at hv
    simp only [Value.slice.injEq] at hv
    obtain ⟨rfl, rfl, rfl⟩ := hv
    refine ⟨b, o, rfl, by omega, fun u hu => ?_⟩
    have h1 := hf 0 (by omega)
    rw [byte_list] at h1
    exact (hu.cell (p := ⟨b, o, none⟩) hb).trans (by simpa using h1)
theorem bare_firstM {l : List UInt8} (h : bareL l = l) (hn : numB l ≠ 0) : ∃ x t, l = x :: t ∧ x ≠ 0 := by
  cases l with
  | nil => exact absurd rfl hn
  | cons x t =>
    refine ⟨x, t, rfl, fun h0 => ?_⟩
    subst h0
    rw [bareL_zero] at h
    have h1 := congrArg List.length h
    have h2 := bare_leQ t
    rw [List.length_cons] at h1
    omega
theorem isD_open {n N : Nat} {w : World} {v : Value} (h : IsD n w v N) : ∃ y k c, v = .slice y k c := by
  obtain ⟨y, c, L, h, _⟩ := h
  exact ⟨y, _, c, h⟩
def Nil3 (v1 v2 v3 : Value) : Prop := v1 = .slice none 0 0 ∧ v2 = .slice none 0 0 ∧ v3 = .slice none 0 0
/-- What Make answers, by its error. -/
def MakeCase (p z ee : Nat) (E : List UInt8) (w' : World) (v1 v2 v3 : Value) (F : Int) : Prop :=
  ((p < 3 ∨ z < 3 ∨ p = z) ∧ Nil3 v1 v2 v3 ∧ F = 2) ∨
  ((3 ≤ p ∧ 3 ≤ z ∧ p ≠ z) ∧ (∃ R : List UInt8, bareL R = R ∧ numB R = p * z ∧ ¬ (62 ≤ R.length ∧ R.length ≤ 512)) ∧ Nil3 v1 v2 v3 ∧ F = 21) ∨
  ((3 ≤ p ∧ 3 ≤ z ∧ p ≠ z) ∧ (∃ R : List UInt8, bareL R = R ∧ numB R = p * z ∧ (62 ≤ R.length ∧ R.length ≤ 512)) ∧ Nat.gcd (ee % lcmN (p - 1) (z - 1)) (lcmN (p - 1) (z - 1)) ≠ 1 ∧ Nil3 v1 v2 v3 ∧ F = 20) ∨
  ((3 ≤ p ∧ 3 ≤ z ∧ p ≠ z) ∧ (∃ (R D : List UInt8) (K : Nat), bareL R = R ∧ numB R = p * z ∧ (62 ≤ R.length ∧ R.length ≤ 512) ∧ bareL D = D ∧ numB D = K ∧ K < lcmN (p - 1) (z - 1) ∧ K * (ee % lcmN (p - 1) (z - 1)) % lcmN (p - 1) (z - 1) = 1 ∧ ¬ rightP R (bareL E) D) ∧ Nil3 v1 v2 v3 ∧ F = 2) ∨
  (F = 0 ∧ MakeOk p z ee E w' v1 v2 v3)
theorem make_open {p z ee : Nat} {E : List UInt8} {e : Ending} {w' : World} (h : MakeSays p z ee E e w') : ∃ y1 k1 c1 y2 k2 c2 y3 k3 c3 F, e = .returned (.tuple #[.agg #[.slice y1 k1 c1, .slice y2 k2 c2, .slice y3 k3 c3], .int .i64 F]) ∧ MakeCase p z ee E w' (.slice y1 k1 c1) (.slice y2 k2 c2) (.slice y3 k3 c3) F := by
  rcases h with ⟨a, rfl⟩ | ⟨a, b, rfl⟩ | ⟨a, b, c, rfl⟩ | ⟨a, b, rfl⟩ | ⟨v1, v2, v3, rfl, hok⟩
  · exact ⟨_, _, _, _, _, _, _, _, _, _, rfl, .inl ⟨a, ⟨rfl, rfl, rfl⟩, rfl⟩⟩
  · exact ⟨_, _, _, _, _, _, _, _, _, _, rfl, .inr (.inl ⟨a, b, ⟨rfl, rfl, rfl⟩, rfl⟩)⟩
  · exact ⟨_, _, _, _, _, _, _, _, _, _, rfl, .inr (.inr (.inl ⟨a, b, c, ⟨rfl, rfl, rfl⟩, rfl⟩))⟩
  · exact ⟨_, _, _, _, _, _, _, _, _, _, rfl, .inr (.inr (.inr (.inl ⟨a, b, ⟨rfl, rfl, rfl⟩, rfl⟩)))⟩
  · obtain ⟨h1, R, D, K, i1, i2, i3, h2⟩ := hok
    obtain ⟨y1, k1, c1, rfl⟩ := isb_open i1
    obtain ⟨y2, k2, c2, rfl⟩ := isb_open i2
    obtain ⟨y3, k3, c3, rfl⟩ := isb_open i3
    exact ⟨_, _, _, _, _, _, _, _, _, _, rfl, .inr (.inr (.inr (.inr ⟨rfl, h1, R, D, K, i1, i2, i3, h2⟩)))⟩
theorem inv_gcd {K e l : Nat} (h : K * (e % l) % l = 1) : Nat.gcd e l = 1 := by
  have h1 : Nat.gcd e l ∣ e % l := (Nat.dvd_mod_iff (Nat.gcd_dvd_right e l)).2 (Nat.gcd_dvd_left e l)
  have h2 : Nat.gcd e l ∣ K * (e % l) % l := (Nat.dvd_mod_iff (Nat.gcd_dvd_right e l)).2 (Nat.dvd_trans h1 (Nat.dvd_mul_left _ _))
  rw [h] at h2
  exact Nat.dvd_one.1 h2
theorem lcm_lt {p z : Nat} (hp : 3 ≤ p) (hz : 3 ≤ z) : lcmN (p - 1) (z - 1) < p * z := by
  unfold lcmN
  have h1 : (p - 1) / Nat.gcd (p - 1) (z - 1) * (z - 1) ≤ (p - 1) * (z - 1) := Nat.mul_le_mul_right _ (Nat.div_le_self _ _)
  have h2 : (p - 1) * (z - 1) ≤ (p - 1) * z := Nat.mul_le_mul_left _ (by omega)
  have h3 : (p - 1) * z < p * z := Nat.mul_lt_mul_of_pos_right (by omega) (by omega)
  omega
theorem lcm_pos {p z : Nat} (hp : 3 ≤ p) (hz : 3 ≤ z) : 2 ≤ lcmN (p - 1) (z - 1) := by
  unfold lcmN
  have h1 : 0 < (p - 1) / Nat.gcd (p - 1) (z - 1) := Nat.div_pos (Nat.le_of_dvd (by omega) (Nat.gcd_dvd_left _ _)) (Nat.gcd_pos_of_pos_left _ (by omega))
  have h2 : 1 * (z - 1) ≤ (p - 1) / Nat.gcd (p - 1) (z - 1) * (z - 1) := Nat.mul_le_mul_right _ h1
  omega
theorem gcd_ne {e l : Nat} (hl : 2 ≤ l) (h : Nat.gcd e l = 1) : e ≠ 0 := fun h0 => by
  rw [h0, Nat.gcd_zero_left] at h
  omega
theorem dig_mod (N : Nat) : ((N % 256 : Nat) : Int).tmod 2 = ((N % 2 : Nat) : Int) := by
  rw [Int.tmod_eq_emod_of_nonneg (by omega)]
  omega
set_option maxHeartbeats 32000000 in
theorem lqMakes_any (vp vq ve : Value) (P Q E : List UInt8) (w : World) (h1 : IsBytes w vp ⟨P.toArray⟩) (h2 : IsBytes w vq ⟨Q.toArray⟩) (h3 : IsBytes w ve ⟨E.toArray⟩) (hK : KTab w) :
    Calls Tryd.prog 3 #[vp, vq, ve] w fun e w' => e = .returned (.bool true) ∧ Below w.heap.size w w' := by
  obtain ⟨yp, cp, rfl⟩ := isb_shape h1
  obtain ⟨yq, cq, rfl⟩ := isb_shape h2
  obtain ⟨ye, ce, rfl⟩ := isb_shape h3
  obtain ⟨kp, hkp⟩ : ∃ k, P.length = k := ⟨_, rfl⟩
  obtain ⟨kq, hkq⟩ : ∃ k, Q.length = k := ⟨_, rfl⟩
  obtain ⟨ke, hke⟩ : ∃ k, E.length = k := ⟨_, rfl⟩
  rw [hkp] at h1 ⊢
  rw [hkq] at h2 ⊢
  rw [hke] at h3 ⊢
  obtain ⟨p, hp⟩ : ∃ n, numB P = n := ⟨_, rfl⟩
  obtain ⟨z, hq⟩ : ∃ n, numB Q = n := ⟨_, rfl⟩
  obtain ⟨ee, he⟩ : ∃ n, numB E = n := ⟨_, rfl⟩
  have hK0 := show Hid (KTab w) from hK
  have HI := show Hid (∀ u, Below w.heap.size w u → IsBytes u (.slice yp kp cp) ⟨P.toArray⟩ ∧ IsBytes u (.slice yq kq cq) ⟨Q.toArray⟩ ∧ IsBytes u (.slice ye ke ce) ⟨E.toArray⟩ ∧ KTab u) from fun u hu => ⟨h1.later hu, h2.later hu, h3.later hu, hK.later hu⟩
  clear h1 h2 h3 hK
  by_cases c1' : kp ≤ 80
  case neg =>
    have s1 : (80 : Int) < (kp : Int) := by omega
    clear hp hq he
    go_enter Tryd.func3, Tryd.ntmps3
    go_wp2_with fail
    refine (lqAwake_any w hK0.out).mono ?_
    rintro e w1 ⟨rfl, b1⟩
    have hA2 := lqAwake_any w1 (HI.out w1 b1).2.2.2
    have HB := show Hid (Below w.heap.size w w1) from b1
    clear b1
    go_wp2_with fail
    refine hA2.mono ?_
    rintro e w2 ⟨rfl, b2⟩
    have HF := show Hid (Below w.heap.size w w2) from bl2 HB.out b2
    clear hA2 b2
    go_wp2_with fail
    go_ret
    exact ⟨rfl, HF.out⟩
  have s1 : ¬ (80 : Int) < (kp : Int) := by omega
  by_cases c2' : kq ≤ 80
  case neg =>
    have s2 : (80 : Int) < (kq : Int) := by omega
    clear hp hq he
    go_enter Tryd.func3, Tryd.ntmps3
    go_wp2_with fail
    refine (lqAwake_any w hK0.out).mono ?_
    rintro e w1 ⟨rfl, b1⟩
    have hA2 := lqAwake_any w1 (HI.out w1 b1).2.2.2
    have HB := show Hid (Below w.heap.size w w1) from b1
    clear b1
    go_wp2_with fail
    refine hA2.mono ?_
    rintro e w2 ⟨rfl, b2⟩
    have HF := show Hid (Below w.heap.size w w2) from bl2 HB.out b2
    clear hA2 b2
    go_wp2_with fail
    go_ret
    exact ⟨rfl, HF.out⟩
  have s2 : ¬ (80 : Int) < (kq : Int) := by omega
  by_cases c3' : ke ≤ 40
  case neg =>
    have s3 : (40 : Int) < (ke : Int) := by omega
    clear hp hq he
    go_enter Tryd.func3, Tryd.ntmps3
    go_wp2_with fail
    refine (lqAwake_any w hK0.out).mono ?_
    rintro e w1 ⟨rfl, b1⟩
    have hA2 := lqAwake_any w1 (HI.out w1 b1).2.2.2
    have HB := show Hid (Below w.heap.size w w1) from b1
    clear b1
    go_wp2_with fail
    refine hA2.mono ?_
    rintro e w2 ⟨rfl, b2⟩
    have HF := show Hid (Below w.heap.size w w2) from bl2 HB.out b2
    clear hA2 b2
    go_wp2_with fail
    go_ret
    exact ⟨rfl, HF.out⟩
  have s3 : ¬ (40 : Int) < (ke : Int) := by omega
  have HL := show Hid (P.length ≤ 80 ∧ Q.length ≤ 80 ∧ E.length ≤ 40) from ⟨by omega, by omega, by omega⟩
  clear c1' c2' c3' hkp hkq hke
  go_enter Tryd.func3, Tryd.ntmps3
  have hc := lqAwake_any w hK0.out
  go_wp2_with fail
  refine hc.mono ?_
  rintro e w1_1 ⟨rfl, bk⟩
  have HB0 := show Hid (Below w.heap.size w w1_1) from bk
  clear hc bk
  have hc := qMake_any P Q E _ _ _ w1_1 (HI.out w1_1 HB0.out).1 (HI.out w1_1 HB0.out).2.1 (HI.out w1_1 HB0.out).2.2.1 (by have := HL.out; omega) (by have := HL.out; omega) (by have := HL.out; omega)
  go_wp2_with fail
  refine hc.mono ?_
  rintro e w2_2 ⟨hs, bk⟩
  rw [hp, hq, he] at hs
  obtain ⟨y1, k1, c1, y2, k2, c2, y3, k3, c3, F, rfl, hcs⟩ := make_open hs
  have HCS := show Hid (MakeCase p z ee E w2_2 (.slice y1 k1 c1) (.slice y2 k2 c2) (.slice y3 k3 c3) F) from hcs
  clear hs hcs
  have HB1 := show Hid (Below w1_1.heap.size w1_1 w2_2) from bk
  clear hc bk
  have kb := keyBox w2_2 (.slice y1 k1 c1) (.slice y2 k2 c2) (.slice y3 k3 c3)
  obtain ⟨qk, hqk⟩ : ∃ q, w2_2.heap.size = q := ⟨_, rfl⟩
  obtain ⟨W3, hW3⟩ : ∃ W, w2_2.alloc (.cells #[.slice y1 k1 c1, .slice y2 k2 c2, .slice y3 k3 c3] 25) = W := ⟨_, rfl⟩
  rw [hW3, hqk] at kb
  have HKB := show Hid (KeyBox w2_2 W3 qk (.slice y1 k1 c1) (.slice y2 k2 c2) (.slice y3 k3 c3)) from kb
  clear kb
  have HB2 := show Hid (Below w2_2.heap.size w2_2 W3) from HKB.out.below
  have hc := digOfV P (.slice yp kp cp) W3 (HI.out W3 (bl2 (bl2 HB0.out HB1.out) HB2.out)).1 (by have := HL.out; omega)
  go_wp2_with fail
  refine hc.mono ?_
  rintro e w4_3 ⟨⟨yx, kx, cx, rfl, ix, lx⟩, bk⟩
  rw [hp] at ix
  have HB3 := show Hid (Below W3.heap.size W3 w4_3) from bk
  clear hc bk
  have HX := show Hid (IsD (P.length) w4_3 (.slice yx kx cx) (p)) from ix
  clear ix lx
  have hc := digOfV Q (.slice yq kq cq) w4_3 (HI.out w4_3 (bl2 (bl2 (bl2 HB0.out HB1.out) HB2.out) HB3.out)).2.1 (by have := HL.out; omega)
  go_wp2_with fail
  refine hc.mono ?_
  rintro e w5_4 ⟨⟨yy, ky, cy, rfl, ix, lx⟩, bk⟩
  rw [hq] at ix
  have HB4 := show Hid (Below w4_3.heap.size w4_3 w5_4) from bk
  clear hc bk
  have HY := show Hid (IsD (Q.length) w5_4 (.slice yy ky cy) (z)) from ix
  clear ix lx
  have hc := digOfV E (.slice ye ke ce) w5_4 (HI.out w5_4 (bl2 (bl2 (bl2 (bl2 HB0.out HB1.out) HB2.out) HB3.out) HB4.out)).2.2.1 (by have := HL.out; omega)
  go_wp2_with fail
  refine hc.mono ?_
  rintro e w6_5 ⟨⟨yz, kz, cz, rfl, ix, lx⟩, bk⟩
  rw [he] at ix
  have HB5 := show Hid (Below w5_4.heap.size w5_4 w6_5) from bk
  clear hc bk
  have HZ := show Hid (IsD (E.length) w6_5 (.slice yz kz cz) (ee)) from ix
  clear ix lx
  have hc := digMul P.length Q.length (.slice yx kx cx) (.slice yy ky cy) p z w6_5 (HX.out.later (bl2 HB4.out HB5.out)) (HY.out.later HB5.out) (by have := HL.out; omega) (by have := HL.out; omega)
  go_wp2_with fail
  refine hc.mono ?_
  rintro e w7_6 ⟨⟨vn, rfl, ix⟩, bk⟩
  obtain ⟨yn, kn, cn, rfl⟩ := isD_open ix
  have HB6 := show Hid (Below w6_5.heap.size w6_5 w7_6) from bk
  clear hc bk
  have HN := show Hid (IsD (P.length + Q.length) w7_6 (.slice yn kn cn) (p * z)) from ix
  clear ix
  by_cases a1 : p < 3
  · have hn1 : Nil3 (.slice y1 k1 c1) (.slice y2 k2 c2) (.slice y3 k3 c3) ∧ F = 2 := by
      rcases HCS.out with ⟨_, h1, h2⟩ | ⟨⟨h, _⟩, _⟩ | ⟨⟨h, _⟩, _⟩ | ⟨⟨h, _⟩, _⟩ | ⟨_, ⟨h, _⟩, _⟩
      · exact ⟨h1, h2⟩
      · omega
      · omega
      · omega
      · omega
    obtain ⟨hnil, rfl⟩ := hn1
    clear HCS
    obtain ⟨q1, q2, q3⟩ := hnil
    simp only [Value.slice.injEq] at q1 q2 q3
    obtain ⟨rfl, rfl, rfl⟩ := q1
    obtain ⟨rfl, rfl, rfl⟩ := q2
    obtain ⟨rfl, rfl, rfl⟩ := q3
    obtain ⟨L8_6, hL8_6⟩ : ∃ W, w7_6.alloc (.cells #[.int .i64 3] 3) = W := ⟨_, rfl⟩
    have iL8_6 : IsD 1 L8_6 (.slice (some ⟨w7_6.heap.size, 0, none⟩) 1 1) 3 := by rw [← hL8_6]; exact isD_k w7_6 3 (by decide) (by decide)
    have HB7 := show Hid (Below w7_6.heap.size w7_6 L8_6) from by rw [← hL8_6]; exact alB _ _
    have IL8_6 := show Hid (IsD 1 L8_6 (.slice (some ⟨w7_6.heap.size, 0, none⟩) 1 1) 3) from iL8_6
    clear iL8_6
    have hc := cmpV2 (P.length) 1 (.slice yx kx cx) (.slice (some ⟨w7_6.heap.size, 0, none⟩) 1 1) (p) 3 L8_6 (HX.out.later (bl2 (bl2 (bl2 HB4.out HB5.out) HB6.out) HB7.out)) IL8_6.out (by have := HL.out; omega) (cmpN_ltM a1)
    go_wp2_with fail
    refine hc.mono ?_
    rintro e w9_7 ⟨rfl, bk⟩
    have HB8 := show Hid (Below L8_6.heap.size L8_6 w9_7) from bk
    clear hc bk
    obtain ⟨g0, g1, g2⟩ := HKB.out.cells (bl2 (bl2 (bl2 (bl2 (bl2 HB3.out HB4.out) HB5.out) HB6.out) HB7.out) HB8.out)
    have hc := lqSame_none w9_7
    go_wp2_with fail
    refine hc.mono ?_
    rintro e w10_8 ⟨rfl, bk⟩
    have HB9 := show Hid (Below w9_7.heap.size w9_7 w10_8) from bk
    clear hc bk
    clear g0 g1 g2
    have HF := show Hid (Below w.heap.size w w10_8) from (bl2 (bl2 (bl2 (bl2 (bl2 (bl2 (bl2 (bl2 (bl2 HB0.out HB1.out) HB2.out) HB3.out) HB4.out) HB5.out) HB6.out) HB7.out) HB8.out) HB9.out)
    go_wp2_with fail
    go_ret
    exact ⟨rfl, HF.out⟩
  obtain ⟨X1, hX1, n1, _, _⟩ := cmpN_geM (a := p) (b := 3) (by omega)
  obtain ⟨L8_8, hL8_8⟩ : ∃ W, w7_6.alloc (.cells #[.int .i64 3] 3) = W := ⟨_, rfl⟩
  have iL8_8 : IsD 1 L8_8 (.slice (some ⟨w7_6.heap.size, 0, none⟩) 1 1) 3 := by rw [← hL8_8]; exact isD_k w7_6 3 (by decide) (by decide)
  have HB7 := show Hid (Below w7_6.heap.size w7_6 L8_8) from by rw [← hL8_8]; exact alB _ _
  have IL8_8 := show Hid (IsD 1 L8_8 (.slice (some ⟨w7_6.heap.size, 0, none⟩) 1 1) 3) from iL8_8
  clear iL8_8
  have hc := cmpV2 (P.length) 1 (.slice yx kx cx) (.slice (some ⟨w7_6.heap.size, 0, none⟩) 1 1) (p) 3 L8_8 (HX.out.later (bl2 (bl2 (bl2 HB4.out HB5.out) HB6.out) HB7.out)) IL8_8.out (by have := HL.out; omega) hX1
  go_wp2_with fail
  refine hc.mono ?_
  rintro e w9_9 ⟨rfl, bk⟩
  have HB8 := show Hid (Below L8_8.heap.size L8_8 w9_9) from bk
  clear hc bk
  by_cases a2 : z < 3
  · have hn1 : Nil3 (.slice y1 k1 c1) (.slice y2 k2 c2) (.slice y3 k3 c3) ∧ F = 2 := by
      rcases HCS.out with ⟨_, h1, h2⟩ | ⟨⟨_, h, _⟩, _⟩ | ⟨⟨_, h, _⟩, _⟩ | ⟨⟨_, h, _⟩, _⟩ | ⟨_, ⟨_, h, _⟩, _⟩
      · exact ⟨h1, h2⟩
      · omega
      · omega
      · omega
      · omega
    obtain ⟨hnil, rfl⟩ := hn1
    clear HCS
    obtain ⟨q1, q2, q3⟩ := hnil
    simp only [Value.slice.injEq] at q1 q2 q3
    obtain ⟨rfl, rfl, rfl⟩ := q1
    obtain ⟨rfl, rfl, rfl⟩ := q2
    obtain ⟨rfl, rfl, rfl⟩ := q3
    obtain ⟨L10_9, hL10_9⟩ : ∃ W, w9_9.alloc (.cells #[.int .i64 3] 3) = W := ⟨_, rfl⟩
    have iL10_9 : IsD 1 L10_9 (.slice (some ⟨w9_9.heap.size, 0, none⟩) 1 1) 3 := by rw [← hL10_9]; exact isD_k w9_9 3 (by decide) (by decide)
    have HB9 := show Hid (Below w9_9.heap.size w9_9 L10_9) from by rw [← hL10_9]; exact alB _ _
    have IL10_9 := show Hid (IsD 1 L10_9 (.slice (some ⟨w9_9.heap.size, 0, none⟩) 1 1) 3) from iL10_9
    clear iL10_9
    have hc := cmpV2 (Q.length) 1 (.slice yy ky cy) (.slice (some ⟨w9_9.heap.size, 0, none⟩) 1 1) (z) 3 L10_9 (HY.out.later (bl2 (bl2 (bl2 (bl2 HB5.out HB6.out) HB7.out) HB8.out) HB9.out)) IL10_9.out (by have := HL.out; omega) (cmpN_ltM a2)
    go_wp2_with fail
    refine hc.mono ?_
    rintro e w11_10 ⟨rfl, bk⟩
    have HB10 := show Hid (Below L10_9.heap.size L10_9 w11_10) from bk
    clear hc bk
    obtain ⟨g0, g1, g2⟩ := HKB.out.cells (bl2 (bl2 (bl2 (bl2 (bl2 (bl2 (bl2 HB3.out HB4.out) HB5.out) HB6.out) HB7.out) HB8.out) HB9.out) HB10.out)
    have hc := lqSame_none w11_10
    go_wp2_with fail
    refine hc.mono ?_
    rintro e w12_11 ⟨rfl, bk⟩
    have HB11 := show Hid (Below w11_10.heap.size w11_10 w12_11) from bk
    clear hc bk
    clear g0 g1 g2
    have HF := show Hid (Below w.heap.size w w12_11) from (bl2 (bl2 (bl2 (bl2 (bl2 (bl2 (bl2 (bl2 (bl2 (bl2 (bl2 HB0.out HB1.out) HB2.out) HB3.out) HB4.out) HB5.out) HB6.out) HB7.out) HB8.out) HB9.out) HB10.out) HB11.out)
    go_wp2_with fail
    go_ret
    exact ⟨rfl, HF.out⟩
  obtain ⟨X2, hX2, n2, _, _⟩ := cmpN_geM (a := z) (b := 3) (by omega)
  obtain ⟨L10_11, hL10_11⟩ : ∃ W, w9_9.alloc (.cells #[.int .i64 3] 3) = W := ⟨_, rfl⟩
  have iL10_11 : IsD 1 L10_11 (.slice (some ⟨w9_9.heap.size, 0, none⟩) 1 1) 3 := by rw [← hL10_11]; exact isD_k w9_9 3 (by decide) (by decide)
  have HB9 := show Hid (Below w9_9.heap.size w9_9 L10_11) from by rw [← hL10_11]; exact alB _ _
  have IL10_11 := show Hid (IsD 1 L10_11 (.slice (some ⟨w9_9.heap.size, 0, none⟩) 1 1) 3) from iL10_11
  clear iL10_11
  have hc := cmpV2 (Q.length) 1 (.slice yy ky cy) (.slice (some ⟨w9_9.heap.size, 0, none⟩) 1 1) (z) 3 L10_11 (HY.out.later (bl2 (bl2 (bl2 (bl2 HB5.out HB6.out) HB7.out) HB8.out) HB9.out)) IL10_11.out (by have := HL.out; omega) hX2
  go_wp2_with fail
  refine hc.mono ?_
  rintro e w11_12 ⟨rfl, bk⟩
  have HB10 := show Hid (Below L10_11.heap.size L10_11 w11_12) from bk
  clear hc bk
  by_cases a3 : p = z
  · have hn1 : Nil3 (.slice y1 k1 c1) (.slice y2 k2 c2) (.slice y3 k3 c3) ∧ F = 2 := by
      rcases HCS.out with ⟨_, h1, h2⟩ | ⟨⟨_, _, h⟩, _⟩ | ⟨⟨_, _, h⟩, _⟩ | ⟨⟨_, _, h⟩, _⟩ | ⟨_, ⟨_, _, h⟩, _⟩
      · exact ⟨h1, h2⟩
      · exact absurd a3 h
      · exact absurd a3 h
      · exact absurd a3 h
      · exact absurd a3 h
    obtain ⟨hnil, rfl⟩ := hn1
    clear HCS
    obtain ⟨q1, q2, q3⟩ := hnil
    simp only [Value.slice.injEq] at q1 q2 q3
    obtain ⟨rfl, rfl, rfl⟩ := q1
    obtain ⟨rfl, rfl, rfl⟩ := q2
    obtain ⟨rfl, rfl, rfl⟩ := q3
    have e0 : cmpN p z = 0 := by rw [a3]; exact cmpN_eqM z
    have hc := cmpV2 (P.length) (Q.length) (.slice yx kx cx) (.slice yy ky cy) (p) (z) w11_12 (HX.out.later (bl2 (bl2 (bl2 (bl2 (bl2 (bl2 HB4.out HB5.out) HB6.out) HB7.out) HB8.out) HB9.out) HB10.out)) (HY.out.later (bl2 (bl2 (bl2 (bl2 (bl2 HB5.out HB6.out) HB7.out) HB8.out) HB9.out) HB10.out)) (by have := HL.out; omega) e0
    go_wp2_with fail
    refine hc.mono ?_
    rintro e w12_13 ⟨rfl, bk⟩
    have HB11 := show Hid (Below w11_12.heap.size w11_12 w12_13) from bk
    clear hc bk
    obtain ⟨g0, g1, g2⟩ := HKB.out.cells (bl2 (bl2 (bl2 (bl2 (bl2 (bl2 (bl2 (bl2 HB3.out HB4.out) HB5.out) HB6.out) HB7.out) HB8.out) HB9.out) HB10.out) HB11.out)
    have hc := lqSame_none w12_13
    go_wp2_with fail
    refine hc.mono ?_
    rintro e w13_14 ⟨rfl, bk⟩
    have HB12 := show Hid (Below w12_13.heap.size w12_13 w13_14) from bk
    clear hc bk
    clear g0 g1 g2
    have HF := show Hid (Below w.heap.size w w13_14) from (bl2 (bl2 (bl2 (bl2 (bl2 (bl2 (bl2 (bl2 (bl2 (bl2 (bl2 (bl2 HB0.out HB1.out) HB2.out) HB3.out) HB4.out) HB5.out) HB6.out) HB7.out) HB8.out) HB9.out) HB10.out) HB11.out) HB12.out)
    go_wp2_with fail
    go_ret
    exact ⟨rfl, HF.out⟩
  obtain ⟨X3, hX3, n3⟩ := cmpN_neM a3
  have p3 : 3 ≤ p := by omega
  have z3 : 3 ≤ z := by omega
  have hc := cmpV2 (P.length) (Q.length) (.slice yx kx cx) (.slice yy ky cy) (p) (z) w11_12 (HX.out.later (bl2 (bl2 (bl2 (bl2 (bl2 (bl2 HB4.out HB5.out) HB6.out) HB7.out) HB8.out) HB9.out) HB10.out)) (HY.out.later (bl2 (bl2 (bl2 (bl2 (bl2 HB5.out HB6.out) HB7.out) HB8.out) HB9.out) HB10.out)) (by have := HL.out; omega) hX3
  go_wp2_with fail
  refine hc.mono ?_
  rintro e w12_15 ⟨rfl, bk⟩
  have HB11 := show Hid (Below w11_12.heap.size w11_12 w12_15) from bk
  clear hc bk
  have hkn : ∀ R : List UInt8, bareL R = R → numB R = p * z → kn = R.length := fun R h1 h2 => by
    have h3 := isD_len HN.out h2.symm
    rwa [h1] at h3
  by_cases k62 : kn < 62
  · have hn1 : Nil3 (.slice y1 k1 c1) (.slice y2 k2 c2) (.slice y3 k3 c3) ∧ F = 21 := by
      rcases HCS.out with ⟨h, _⟩ | ⟨_, _, h1, h2⟩ | ⟨_, ⟨R, h1, h2, h3⟩, _⟩ | ⟨_, ⟨R, D, K, h1, h2, h3, _⟩, _⟩ | ⟨_, _, R, D, K, _, _, _, h1, h2, h3, _⟩
      · omega
      · exact ⟨h1, h2⟩
      · have := hkn R h1 h2; omega
      · have := hkn R h1 h2; omega
      · have := hkn R h1 h2; omega
    obtain ⟨hnil, rfl⟩ := hn1
    clear HCS hkn
    obtain ⟨q1, q2, q3⟩ := hnil
    simp only [Value.slice.injEq] at q1 q2 q3
    obtain ⟨rfl, rfl, rfl⟩ := q1
    obtain ⟨rfl, rfl, rfl⟩ := q2
    obtain ⟨rfl, rfl, rfl⟩ := q3
    have i1 : (kn : Int) < 62 := by omega
    obtain ⟨g0, g1, g2⟩ := HKB.out.cells (bl2 (bl2 (bl2 (bl2 (bl2 (bl2 (bl2 (bl2 HB3.out HB4.out) HB5.out) HB6.out) HB7.out) HB8.out) HB9.out) HB10.out) HB11.out)
    have hc := lqSame_none w12_15
    go_wp2_with fail
    refine hc.mono ?_
    rintro e w13_16 ⟨rfl, bk⟩
    have HB12 := show Hid (Below w12_15.heap.size w12_15 w13_16) from bk
    clear hc bk
    clear g0 g1 g2
    have HF := show Hid (Below w.heap.size w w13_16) from (bl2 (bl2 (bl2 (bl2 (bl2 (bl2 (bl2 (bl2 (bl2 (bl2 (bl2 (bl2 HB0.out HB1.out) HB2.out) HB3.out) HB4.out) HB5.out) HB6.out) HB7.out) HB8.out) HB9.out) HB10.out) HB11.out) HB12.out)
    go_wp2_with fail
    go_ret
    exact ⟨rfl, HF.out⟩
  have i1 : ¬ (kn : Int) < 62 := by omega
  by_cases k512 : 512 < kn
  · have hn1 : Nil3 (.slice y1 k1 c1) (.slice y2 k2 c2) (.slice y3 k3 c3) ∧ F = 21 := by
      rcases HCS.out with ⟨h, _⟩ | ⟨_, _, h1, h2⟩ | ⟨_, ⟨R, h1, h2, h3⟩, _⟩ | ⟨_, ⟨R, D, K, h1, h2, h3, _⟩, _⟩ | ⟨_, _, R, D, K, _, _, _, h1, h2, h3, _⟩
      · omega
      · exact ⟨h1, h2⟩
      · have := hkn R h1 h2; omega
      · have := hkn R h1 h2; omega
      · have := hkn R h1 h2; omega
    obtain ⟨hnil, rfl⟩ := hn1
    clear HCS hkn
    obtain ⟨q1, q2, q3⟩ := hnil
    simp only [Value.slice.injEq] at q1 q2 q3
    obtain ⟨rfl, rfl, rfl⟩ := q1
    obtain ⟨rfl, rfl, rfl⟩ := q2
    obtain ⟨rfl, rfl, rfl⟩ := q3
    have i2 : (512 : Int) < (kn : Int) := by omega
    obtain ⟨g0, g1, g2⟩ := HKB.out.cells (bl2 (bl2 (bl2 (bl2 (bl2 (bl2 (bl2 (bl2 HB3.out HB4.out) HB5.out) HB6.out) HB7.out) HB8.out) HB9.out) HB10.out) HB11.out)
    have hc := lqSame_none w12_15
    go_wp2_with fail
    refine hc.mono ?_
    rintro e w13_17 ⟨rfl, bk⟩
    have HB12 := show Hid (Below w12_15.heap.size w12_15 w13_17) from bk
    clear hc bk
    clear g0 g1 g2
    have HF := show Hid (Below w.heap.size w w13_17) from (bl2 (bl2 (bl2 (bl2 (bl2 (bl2 (bl2 (bl2 (bl2 (bl2 (bl2 (bl2 HB0.out HB1.out) HB2.out) HB3.out) HB4.out) HB5.out) HB6.out) HB7.out) HB8.out) HB9.out) HB10.out) HB11.out) HB12.out)
    go_wp2_with fail
    go_ret
    exact ⟨rfl, HF.out⟩
  have i2 : ¬ (512 : Int) < (kn : Int) := by omega
  have hlp := lcm_pos p3 z3
  have hll := lcm_lt p3 z3
  obtain ⟨l, hl⟩ : ∃ l, lcmN (p - 1) (z - 1) = l := ⟨_, rfl⟩
  rw [hl] at hlp hll
  have HLL := show Hid (2 ≤ l ∧ l < p * z ∧ lcmN (p - 1) (z - 1) = l) from ⟨hlp, hll, hl⟩
  clear hlp hll hl
  obtain ⟨L13_17, hL13_17⟩ : ∃ W, w12_15.alloc (.cells #[.int .i64 1] 3) = W := ⟨_, rfl⟩
  have iL13_17 : IsD 1 L13_17 (.slice (some ⟨w12_15.heap.size, 0, none⟩) 1 1) 1 := by rw [← hL13_17]; exact isD_k w12_15 1 (by decide) (by decide)
  have HB12 := show Hid (Below w12_15.heap.size w12_15 L13_17) from by rw [← hL13_17]; exact alB _ _
  have IL13_17 := show Hid (IsD 1 L13_17 (.slice (some ⟨w12_15.heap.size, 0, none⟩) 1 1) 1) from iL13_17
  clear iL13_17
  have hc := digSub P.length 1 (.slice yx kx cx) (.slice (some ⟨w12_15.heap.size, 0, none⟩) 1 1) p 1 L13_17 (HX.out.later (bl2 (bl2 (bl2 (bl2 (bl2 (bl2 (bl2 (bl2 HB4.out HB5.out) HB6.out) HB7.out) HB8.out) HB9.out) HB10.out) HB11.out) HB12.out)) IL13_17.out (by have := HL.out; omega) (by omega)
  go_wp2_with fail
  refine hc.mono ?_
  rintro e w14_18 ⟨⟨va, rfl, ix, _⟩, bk⟩
  obtain ⟨ya, ka, ca, rfl⟩ := isD_open ix
  have ix80 := ix.more (m := 80) (by have := HL.out; omega)
  have HB13 := show Hid (Below L13_17.heap.size L13_17 w14_18) from bk
  clear hc bk
  have HA := show Hid (IsD (80) w14_18 (.slice ya ka ca) (p - 1)) from ix80
  clear ix ix80
  obtain ⟨L15_18, hL15_18⟩ : ∃ W, w14_18.alloc (.cells #[.int .i64 1] 3) = W := ⟨_, rfl⟩
  have iL15_18 : IsD 1 L15_18 (.slice (some ⟨w14_18.heap.size, 0, none⟩) 1 1) 1 := by rw [← hL15_18]; exact isD_k w14_18 1 (by decide) (by decide)
  have HB14 := show Hid (Below w14_18.heap.size w14_18 L15_18) from by rw [← hL15_18]; exact alB _ _
  have IL15_18 := show Hid (IsD 1 L15_18 (.slice (some ⟨w14_18.heap.size, 0, none⟩) 1 1) 1) from iL15_18
  clear iL15_18
  have hc := digSub Q.length 1 (.slice yy ky cy) (.slice (some ⟨w14_18.heap.size, 0, none⟩) 1 1) z 1 L15_18 (HY.out.later (bl2 (bl2 (bl2 (bl2 (bl2 (bl2 (bl2 (bl2 (bl2 HB5.out HB6.out) HB7.out) HB8.out) HB9.out) HB10.out) HB11.out) HB12.out) HB13.out) HB14.out)) IL15_18.out (by have := HL.out; omega) (by omega)
  go_wp2_with fail
  refine hc.mono ?_
  rintro e w16_19 ⟨⟨vb, rfl, ix, _⟩, bk⟩
  obtain ⟨yb, kb, cb, rfl⟩ := isD_open ix
  have ix80 := ix.more (m := 80) (by have := HL.out; omega)
  have HB15 := show Hid (Below L15_18.heap.size L15_18 w16_19) from bk
  clear hc bk
  have HB := show Hid (IsD (80) w16_19 (.slice yb kb cb) (z - 1)) from ix80
  clear ix ix80
  have hc := digGcd 80 (.slice ya ka ca) (.slice yb kb cb) (p - 1) (z - 1) w16_19 (HA.out.later (bl2 HB14.out HB15.out)) (HB.out.later (Below.refl _ w16_19)) (by decide)
  go_wp2_with fail
  refine hc.mono ?_
  rintro e w17_20 ⟨⟨vg, rfl, ix⟩, bk⟩
  obtain ⟨yg, kg, cg, rfl⟩ := isD_open ix
  have HB16 := show Hid (Below w16_19.heap.size w16_19 w17_20) from bk
  clear hc bk
  have HG := show Hid (IsD (80) w17_20 (.slice yg kg cg) (Nat.gcd (p - 1) (z - 1))) from ix
  clear ix
  have g0 : Nat.gcd (p - 1) (z - 1) ≠ 0 := Nat.ne_of_gt (Nat.gcd_pos_of_pos_left _ (by omega))
  have hc := digDiv 80 80 (.slice ya ka ca) (.slice yg kg cg) (p - 1) (Nat.gcd (p - 1) (z - 1)) w17_20 (HA.out.later (bl2 (bl2 HB14.out HB15.out) HB16.out)) (HG.out.later (Below.refl _ w17_20)) (by decide) (by decide) g0
  go_wp2_with fail
  refine hc.mono ?_
  rintro e w18_21 ⟨vd, vr, rfl, ix, _, bk⟩
  obtain ⟨yd, kd, cd, rfl⟩ := isD_open ix
  clear g0
  have HB17 := show Hid (Below w17_20.heap.size w17_20 w18_21) from bk
  clear hc bk
  have HD := show Hid (IsD (80) w18_21 (.slice yd kd cd) ((p - 1) / Nat.gcd (p - 1) (z - 1))) from ix
  clear ix
  have hc := digMul 80 80 (.slice yd kd cd) (.slice yb kb cb) ((p - 1) / Nat.gcd (p - 1) (z - 1)) (z - 1) w18_21 (HD.out.later (Below.refl _ w18_21)) (HB.out.later (bl2 HB16.out HB17.out)) (by decide) (by decide)
  go_wp2_with fail
  refine hc.mono ?_
  rintro e w19_22 ⟨⟨vl, rfl, ix⟩, bk⟩
  obtain ⟨yl, kl, cl, rfl⟩ := isD_open ix
  have ix2 : IsD 160 w19_22 (.slice yl kl cl) l := by rw [← HLL.out.2.2]; exact ix
  have HB18 := show Hid (Below w18_21.heap.size w18_21 w19_22) from bk
  clear hc bk
  have HL0 := show Hid (IsD (160) w19_22 (.slice yl kl cl) (l)) from ix2
  clear ix ix2
  have hc := digGcd 160 (.slice yz kz cz) (.slice yl kl cl) ee l w19_22 ((HZ.out.later (bl2 (bl2 (bl2 (bl2 (bl2 (bl2 (bl2 (bl2 (bl2 (bl2 (bl2 (bl2 HB6.out HB7.out) HB8.out) HB9.out) HB10.out) HB11.out) HB12.out) HB13.out) HB14.out) HB15.out) HB16.out) HB17.out) HB18.out)).more (by have := HL.out; omega)) (HL0.out.later (Below.refl _ w19_22)) (by decide)
  go_wp2_with fail
  refine hc.mono ?_
  rintro e w20_23 ⟨⟨vh, rfl, ix⟩, bk⟩
  obtain ⟨yh, kh, ch, rfl⟩ := isD_open ix
  have HB19 := show Hid (Below w19_22.heap.size w19_22 w20_23) from bk
  clear hc bk
  have HH := show Hid (IsD (160) w20_23 (.slice yh kh ch) (Nat.gcd ee l)) from ix
  clear ix
  by_cases hg : Nat.gcd ee l = 1
  · have e1 : cmpN (Nat.gcd ee l) 1 = 0 := by rw [hg]; exact cmpN_eqM 1
    obtain ⟨L21_23, hL21_23⟩ : ∃ W, w20_23.alloc (.cells #[.int .i64 1] 3) = W := ⟨_, rfl⟩
    have iL21_23 : IsD 1 L21_23 (.slice (some ⟨w20_23.heap.size, 0, none⟩) 1 1) 1 := by rw [← hL21_23]; exact isD_k w20_23 1 (by decide) (by decide)
    have HB20 := show Hid (Below w20_23.heap.size w20_23 L21_23) from by rw [← hL21_23]; exact alB _ _
    have IL21_23 := show Hid (IsD 1 L21_23 (.slice (some ⟨w20_23.heap.size, 0, none⟩) 1 1) 1) from iL21_23
    clear iL21_23
    have hc := cmpV2 (160) 1 (.slice yh kh ch) (.slice (some ⟨w20_23.heap.size, 0, none⟩) 1 1) (Nat.gcd ee l) 1 L21_23 (HH.out.later HB20.out) IL21_23.out (by have := HL.out; omega) e1
    go_wp2_with fail
    refine hc.mono ?_
    rintro e w22_24 ⟨rfl, bk⟩
    have HB21 := show Hid (Below L21_23.heap.size L21_23 w22_24) from bk
    clear hc bk
    have ene := gcd_ne HLL.out.1 hg
    rcases HCS.out with ⟨h, _⟩ | ⟨_, ⟨R, h1, h2, h3⟩, _⟩ | ⟨_, _, h, _⟩ | ⟨_, hR, hnil, rfl⟩ | ⟨rfl, hok⟩
    · omega
    · have := hkn R h1 h2
      omega
    · rw [HLL.out.2.2, ← Nat.gcd_rec, Nat.gcd_comm] at h
      exact absurd hg h
    · clear HCS hkn
      obtain ⟨q1, q2, q3⟩ := hnil
      simp only [Value.slice.injEq] at q1 q2 q3
      obtain ⟨rfl, rfl, rfl⟩ := q1
      obtain ⟨rfl, rfl, rfl⟩ := q2
      obtain ⟨rfl, rfl, rfl⟩ := q3
      obtain ⟨R, D, K, hR1, hR2, hR3, hD1, hD2, hD3, _, hnr⟩ := hR
      have HNR := show Hid ((p * z) % 2 = 1 → ee % 2 = 1 → ¬ ee < 3 → p * z ≤ ee) from fun h1 h2 h3 => by
        apply Classical.byContradiction
        intro h4
        refine hnr ⟨by rw [hR1]; exact hR3, by rw [hR2]; exact h1, by rw [numB_bare, he]; exact h2, by rw [numB_bare, he]; exact h3, by rw [numB_bare, he, hR2]; omega, ?_⟩
        rw [hR2, hD2]
        rw [HLL.out.2.2] at hD3
        exact Nat.lt_trans hD3 HLL.out.2.1
      clear hR1 hR2 hR3 hD1 hD2 hD3 hnr
      obtain ⟨bn, on, rfl, kn0, fn⟩ := isD_firstM HN.out (show p * z ≠ 0 by have := HLL.out.2.1; omega)
      obtain ⟨bz, oz, rfl, kz0, fz⟩ := isD_firstM HZ.out ene
      obtain ⟨dn, hdn⟩ : ∃ d, (p * z) % 256 = d := ⟨_, rfl⟩
      obtain ⟨dz, hdz⟩ : ∃ d, ee % 256 = d := ⟨_, rfl⟩
      have tn := dig_mod (p * z)
      have tz := dig_mod ee
      rw [hdn] at fn tn
      rw [hdz] at fz tz
      have j1 : (0 : Int) < (kn : Int) := by omega
      have j2 : (0 : Int) < (kz : Int) := by omega
      obtain ⟨g0, g1, g2⟩ := HKB.out.cells (bl2 (bl2 (bl2 (bl2 (bl2 (bl2 (bl2 (bl2 (bl2 (bl2 (bl2 (bl2 (bl2 (bl2 (bl2 (bl2 (bl2 (bl2 HB3.out HB4.out) HB5.out) HB6.out) HB7.out) HB8.out) HB9.out) HB10.out) HB11.out) HB12.out) HB13.out) HB14.out) HB15.out) HB16.out) HB17.out) HB18.out) HB19.out) HB20.out) HB21.out)
      have hc := lqSame_none w22_24
      go_wp2_with fail
      refine hc.mono ?_
      rintro e w23_25 ⟨rfl, bk⟩
      have HB22 := show Hid (Below w22_24.heap.size w22_24 w23_25) from bk
      clear hc bk
      clear g0 g1 g2
      have u1 := fn w23_25 (bl2 (bl2 (bl2 (bl2 (bl2 (bl2 (bl2 (bl2 (bl2 (bl2 (bl2 (bl2 (bl2 (bl2 (bl2 HB7.out HB8.out) HB9.out) HB10.out) HB11.out) HB12.out) HB13.out) HB14.out) HB15.out) HB16.out) HB17.out) HB18.out) HB19.out) HB20.out) HB21.out) HB22.out)
      have u2 := fz w23_25 (bl2 (bl2 (bl2 (bl2 (bl2 (bl2 (bl2 (bl2 (bl2 (bl2 (bl2 (bl2 (bl2 (bl2 (bl2 (bl2 HB6.out HB7.out) HB8.out) HB9.out) HB10.out) HB11.out) HB12.out) HB13.out) HB14.out) HB15.out) HB16.out) HB17.out) HB18.out) HB19.out) HB20.out) HB21.out) HB22.out)
      clear fn fz hdn hdz
      by_cases m1 : (p * z) % 2 = 0
      · rw [m1] at tn
        have HF := show Hid (Below w.heap.size w w23_25) from (bl2 (bl2 (bl2 (bl2 (bl2 (bl2 (bl2 (bl2 (bl2 (bl2 (bl2 (bl2 (bl2 (bl2 (bl2 (bl2 (bl2 (bl2 (bl2 (bl2 (bl2 (bl2 HB0.out HB1.out) HB2.out) HB3.out) HB4.out) HB5.out) HB6.out) HB7.out) HB8.out) HB9.out) HB10.out) HB11.out) HB12.out) HB13.out) HB14.out) HB15.out) HB16.out) HB17.out) HB18.out) HB19.out) HB20.out) HB21.out) HB22.out)
        go_wp2_with fail
        go_ret
        exact ⟨rfl, HF.out⟩
      have m1b : (p * z) % 2 = 1 := by omega
      rw [m1b] at tn
      by_cases m2 : ee % 2 = 0
      · rw [m2] at tz
        have HF := show Hid (Below w.heap.size w w23_25) from (bl2 (bl2 (bl2 (bl2 (bl2 (bl2 (bl2 (bl2 (bl2 (bl2 (bl2 (bl2 (bl2 (bl2 (bl2 (bl2 (bl2 (bl2 (bl2 (bl2 (bl2 (bl2 HB0.out HB1.out) HB2.out) HB3.out) HB4.out) HB5.out) HB6.out) HB7.out) HB8.out) HB9.out) HB10.out) HB11.out) HB12.out) HB13.out) HB14.out) HB15.out) HB16.out) HB17.out) HB18.out) HB19.out) HB20.out) HB21.out) HB22.out)
        go_wp2_with fail
        go_ret
        exact ⟨rfl, HF.out⟩
      have m2b : ee % 2 = 1 := by omega
      rw [m2b] at tz
      by_cases m3 : ee < 3
      · obtain ⟨L24_25, hL24_25⟩ : ∃ W, w23_25.alloc (.cells #[.int .i64 3] 3) = W := ⟨_, rfl⟩
        have iL24_25 : IsD 1 L24_25 (.slice (some ⟨w23_25.heap.size, 0, none⟩) 1 1) 3 := by rw [← hL24_25]; exact isD_k w23_25 3 (by decide) (by decide)
        have HB23 := show Hid (Below w23_25.heap.size w23_25 L24_25) from by rw [← hL24_25]; exact alB _ _
        have IL24_25 := show Hid (IsD 1 L24_25 (.slice (some ⟨w23_25.heap.size, 0, none⟩) 1 1) 3) from iL24_25
        clear iL24_25
        have hc := cmpV2 (E.length) 1 (.slice (some ⟨bz, oz, none⟩) kz cz) (.slice (some ⟨w23_25.heap.size, 0, none⟩) 1 1) (ee) 3 L24_25 (HZ.out.later (bl2 (bl2 (bl2 (bl2 (bl2 (bl2 (bl2 (bl2 (bl2 (bl2 (bl2 (bl2 (bl2 (bl2 (bl2 (bl2 (bl2 HB6.out HB7.out) HB8.out) HB9.out) HB10.out) HB11.out) HB12.out) HB13.out) HB14.out) HB15.out) HB16.out) HB17.out) HB18.out) HB19.out) HB20.out) HB21.out) HB22.out) HB23.out)) IL24_25.out (by have := HL.out; omega) (cmpN_ltM m3)
        go_wp2_with fail
        refine hc.mono ?_
        rintro e w25_26 ⟨rfl, bk⟩
        have HB24 := show Hid (Below L24_25.heap.size L24_25 w25_26) from bk
        clear hc bk
        have HF := show Hid (Below w.heap.size w w25_26) from (bl2 (bl2 (bl2 (bl2 (bl2 (bl2 (bl2 (bl2 (bl2 (bl2 (bl2 (bl2 (bl2 (bl2 (bl2 (bl2 (bl2 (bl2 (bl2 (bl2 (bl2 (bl2 (bl2 (bl2 HB0.out HB1.out) HB2.out) HB3.out) HB4.out) HB5.out) HB6.out) HB7.out) HB8.out) HB9.out) HB10.out) HB11.out) HB12.out) HB13.out) HB14.out) HB15.out) HB16.out) HB17.out) HB18.out) HB19.out) HB20.out) HB21.out) HB22.out) HB23.out) HB24.out)
        go_wp2_with fail
        go_ret
        exact ⟨rfl, HF.out⟩
      obtain ⟨X4, hX4, n4, _, _⟩ := cmpN_geM (a := ee) (b := 3) (by omega)
      obtain ⟨L24_26, hL24_26⟩ : ∃ W, w23_25.alloc (.cells #[.int .i64 3] 3) = W := ⟨_, rfl⟩
      have iL24_26 : IsD 1 L24_26 (.slice (some ⟨w23_25.heap.size, 0, none⟩) 1 1) 3 := by rw [← hL24_26]; exact isD_k w23_25 3 (by decide) (by decide)
      have HB23 := show Hid (Below w23_25.heap.size w23_25 L24_26) from by rw [← hL24_26]; exact alB _ _
      have IL24_26 := show Hid (IsD 1 L24_26 (.slice (some ⟨w23_25.heap.size, 0, none⟩) 1 1) 3) from iL24_26
      clear iL24_26
      have hc := cmpV2 (E.length) 1 (.slice (some ⟨bz, oz, none⟩) kz cz) (.slice (some ⟨w23_25.heap.size, 0, none⟩) 1 1) (ee) 3 L24_26 (HZ.out.later (bl2 (bl2 (bl2 (bl2 (bl2 (bl2 (bl2 (bl2 (bl2 (bl2 (bl2 (bl2 (bl2 (bl2 (bl2 (bl2 (bl2 HB6.out HB7.out) HB8.out) HB9.out) HB10.out) HB11.out) HB12.out) HB13.out) HB14.out) HB15.out) HB16.out) HB17.out) HB18.out) HB19.out) HB20.out) HB21.out) HB22.out) HB23.out)) IL24_26.out (by have := HL.out; omega) hX4
      go_wp2_with fail
      refine hc.mono ?_
      rintro e w25_27 ⟨rfl, bk⟩
      have HB24 := show Hid (Below L24_26.heap.size L24_26 w25_27) from bk
      clear hc bk
      obtain ⟨X5, hX5, _, n5, _⟩ := cmpN_geM (HNR.out m1b m2b m3)
      have hc := cmpV2 (E.length) (P.length + Q.length) (.slice (some ⟨bz, oz, none⟩) kz cz) (.slice (some ⟨bn, on, none⟩) kn cn) (ee) (p * z) w25_27 (HZ.out.later (bl2 (bl2 (bl2 (bl2 (bl2 (bl2 (bl2 (bl2 (bl2 (bl2 (bl2 (bl2 (bl2 (bl2 (bl2 (bl2 (bl2 (bl2 HB6.out HB7.out) HB8.out) HB9.out) HB10.out) HB11.out) HB12.out) HB13.out) HB14.out) HB15.out) HB16.out) HB17.out) HB18.out) HB19.out) HB20.out) HB21.out) HB22.out) HB23.out) HB24.out)) (HN.out.later (bl2 (bl2 (bl2 (bl2 (bl2 (bl2 (bl2 (bl2 (bl2 (bl2 (bl2 (bl2 (bl2 (bl2 (bl2 (bl2 (bl2 HB7.out HB8.out) HB9.out) HB10.out) HB11.out) HB12.out) HB13.out) HB14.out) HB15.out) HB16.out) HB17.out) HB18.out) HB19.out) HB20.out) HB21.out) HB22.out) HB23.out) HB24.out)) (by have := HL.out; omega) hX5
      go_wp2_with fail
      refine hc.mono ?_
      rintro e w26_28 ⟨rfl, bk⟩
      have HB25 := show Hid (Below w25_27.heap.size w25_27 w26_28) from bk
      clear hc bk
      have HF := show Hid (Below w.heap.size w w26_28) from (bl2 (bl2 (bl2 (bl2 (bl2 (bl2 (bl2 (bl2 (bl2 (bl2 (bl2 (bl2 (bl2 (bl2 (bl2 (bl2 (bl2 (bl2 (bl2 (bl2 (bl2 (bl2 (bl2 (bl2 (bl2 HB0.out HB1.out) HB2.out) HB3.out) HB4.out) HB5.out) HB6.out) HB7.out) HB8.out) HB9.out) HB10.out) HB11.out) HB12.out) HB13.out) HB14.out) HB15.out) HB16.out) HB17.out) HB18.out) HB19.out) HB20.out) HB21.out) HB22.out) HB23.out) HB24.out) HB25.out)
      go_wp2_with fail
      go_ret
      exact ⟨rfl, HF.out⟩
    · clear HCS hkn
      obtain ⟨_, R, D, K, iR, iE, iD, bR, nR, lR, bD, nD, hK, hinv, hr⟩ := hok
      rw [HLL.out.2.2] at hK hinv
      have hrl := right_len hr
      rw [bR, bD] at hrl
      have hee : numB (bareL E) = ee := by rw [numB_bare, he]
      have k0 : K ≠ 0 := fun h => by
        rw [h, Nat.zero_mul, Nat.zero_mod] at hinv
        cases hinv
      obtain ⟨xr, tr, hxr, nxr⟩ := bare_firstM bR (by rw [nR]; have := HLL.out.2.1; omega)
      obtain ⟨xe, te, hxe, nxe⟩ := bare_firstM (bare_bare E) (by rw [hee]; exact ene)
      obtain ⟨xd, td, hxd, nxd⟩ := bare_firstM bD (by rw [nD]; exact k0)
      have hinv2 : K * ee % l = 1 := by
        rw [← hinv, Nat.mul_mod K (ee % l) l, Nat.mod_mod, ← Nat.mul_mod]
      have iR0 := iR
      have iE0 := iE
      have iD0 := iD
      rw [hxr] at iR0
      rw [hxe] at iE0
      rw [hxd] at iD0
      obtain ⟨b1, o1, rfl, kk1, f1⟩ := isb_first iR0
      obtain ⟨b2, o2, rfl, kk2, f2⟩ := isb_first iE0
      obtain ⟨b3, o3, rfl, kk3, f3⟩ := isb_first iD0
      have u1 : ((xr.toNat : Int) != 0) = true := bne_iff_ne.2 (fun h => nxr (UInt8.toNat_inj.1 (by simpa using h)))
      have u2 : ((xe.toNat : Int) != 0) = true := bne_iff_ne.2 (fun h => nxe (UInt8.toNat_inj.1 (by simpa using h)))
      have u3 : ((xd.toNat : Int) != 0) = true := bne_iff_ne.2 (fun h => nxd (UInt8.toNat_inj.1 (by simpa using h)))
      have j1 : (0 : Int) < (k1 : Int) := by omega
      have j2 : (0 : Int) < (k2 : Int) := by omega
      have j3 : (0 : Int) < (k3 : Int) := by omega
      have HOK := show Hid (∀ u, Below w2_2.heap.size w2_2 u → IsBytes u (.slice (some ⟨b1, o1, none⟩) k1 c1) ⟨R.toArray⟩ ∧ IsBytes u (.slice (some ⟨b2, o2, none⟩) k2 c2) ⟨(bareL E).toArray⟩ ∧ IsBytes u (.slice (some ⟨b3, o3, none⟩) k3 c3) ⟨D.toArray⟩ ∧ u.cell? ⟨b1, o1, none⟩ = some (.int .u8 (xr.toNat : Int)) ∧ u.cell? ⟨b2, o2, none⟩ = some (.int .u8 (xe.toNat : Int)) ∧ u.cell? ⟨b3, o3, none⟩ = some (.int .u8 (xd.toNat : Int))) from fun u hu => ⟨iR.later hu, iE.later hu, iD.later hu, f1 u hu, f2 u hu, f3 u hu⟩
      have HRP := show Hid (rightP R (bareL E) D ∧ K * ee % l = 1 ∧ K < l ∧ R.length ≤ 512 ∧ (bareL E).length ≤ 512 ∧ D.length ≤ 512) from ⟨hr, hinv2, hK, lR.2, by have h9 := hrl.1; rw [bare_bare] at h9; exact Nat.le_trans h9 lR.2, Nat.le_trans hrl.2.1 lR.2⟩
      clear iR iE iD iR0 iE0 iD0 f1 f2 f3 hr hinv hinv2 hK lR hrl kk1 kk2 kk3 nxr nxe nxd hxr hxe hxd bR bD k0
      obtain ⟨g0, g1, g2⟩ := HKB.out.cells (bl2 (bl2 (bl2 (bl2 (bl2 (bl2 (bl2 (bl2 (bl2 (bl2 (bl2 (bl2 (bl2 (bl2 (bl2 (bl2 (bl2 (bl2 HB3.out HB4.out) HB5.out) HB6.out) HB7.out) HB8.out) HB9.out) HB10.out) HB11.out) HB12.out) HB13.out) HB14.out) HB15.out) HB16.out) HB17.out) HB18.out) HB19.out) HB20.out) HB21.out)
      have hc := digOfV D _ w22_24 (HOK.out w22_24 (bl2 (bl2 (bl2 (bl2 (bl2 (bl2 (bl2 (bl2 (bl2 (bl2 (bl2 (bl2 (bl2 (bl2 (bl2 (bl2 (bl2 (bl2 (bl2 HB2.out HB3.out) HB4.out) HB5.out) HB6.out) HB7.out) HB8.out) HB9.out) HB10.out) HB11.out) HB12.out) HB13.out) HB14.out) HB15.out) HB16.out) HB17.out) HB18.out) HB19.out) HB20.out) HB21.out)).2.2.1 (by have := HRP.out; omega)
      go_wp2_with fail
      refine hc.mono ?_
      rintro e w23_29 ⟨⟨yv, kv, cv, rfl, ix, _⟩, bk⟩
      rw [nD] at ix
      have HB22 := show Hid (Below w22_24.heap.size w22_24 w23_29) from bk
      clear hc bk
      have HDD := show Hid (IsD (D.length) w23_29 (.slice yv kv cv) (K)) from ix
      clear ix g0 g1 g2
      have hc := digMul D.length E.length (.slice yv kv cv) (.slice yz kz cz) K ee w23_29 (HDD.out.later (Below.refl _ w23_29)) (HZ.out.later (bl2 (bl2 (bl2 (bl2 (bl2 (bl2 (bl2 (bl2 (bl2 (bl2 (bl2 (bl2 (bl2 (bl2 (bl2 (bl2 HB6.out HB7.out) HB8.out) HB9.out) HB10.out) HB11.out) HB12.out) HB13.out) HB14.out) HB15.out) HB16.out) HB17.out) HB18.out) HB19.out) HB20.out) HB21.out) HB22.out)) (by have := HRP.out; omega) (by have := HL.out; omega)
      go_wp2_with fail
      refine hc.mono ?_
      rintro e w24_30 ⟨⟨vm, rfl, ix⟩, bk⟩
      obtain ⟨ym, km, cm, rfl⟩ := isD_open ix
      have HB23 := show Hid (Below w23_29.heap.size w23_29 w24_30) from bk
      clear hc bk
      have HM := show Hid (IsD (D.length + E.length) w24_30 (.slice ym km cm) (K * ee)) from ix
      clear ix
      have hc := digDiv (D.length + E.length) 160 (.slice ym km cm) (.slice yl kl cl) (K * ee) l w24_30 (HM.out.later (Below.refl _ w24_30)) (HL0.out.later (bl2 (bl2 (bl2 (bl2 HB19.out HB20.out) HB21.out) HB22.out) HB23.out)) (by have := HRP.out; have := HL.out; omega) (by decide) (by have := HLL.out.1; omega)
      go_wp2_with fail
      refine hc.mono ?_
      rintro e w25_31 ⟨vd, vr, rfl, ixq, ix, bk⟩
      obtain ⟨yr, kr, cr, rfl⟩ := isD_open ix
      obtain ⟨yt, kt, ct, rfl⟩ := isD_open ixq
      rw [HRP.out.2.1] at ix
      have HB24 := show Hid (Below w24_30.heap.size w24_30 w25_31) from bk
      clear hc bk
      have HR := show Hid (IsD (160) w25_31 (.slice yr kr cr) (1)) from ix
      clear ix ixq
      obtain ⟨g0, g1, g2⟩ := HKB.out.cells (bl2 (bl2 (bl2 (bl2 (bl2 (bl2 (bl2 (bl2 (bl2 (bl2 (bl2 (bl2 (bl2 (bl2 (bl2 (bl2 (bl2 (bl2 (bl2 (bl2 (bl2 HB3.out HB4.out) HB5.out) HB6.out) HB7.out) HB8.out) HB9.out) HB10.out) HB11.out) HB12.out) HB13.out) HB14.out) HB15.out) HB16.out) HB17.out) HB18.out) HB19.out) HB20.out) HB21.out) HB22.out) HB23.out) HB24.out)
      have hc := rrRightV _ _ _ R (bareL E) D w25_31 (HOK.out w25_31 (bl2 (bl2 (bl2 (bl2 (bl2 (bl2 (bl2 (bl2 (bl2 (bl2 (bl2 (bl2 (bl2 (bl2 (bl2 (bl2 (bl2 (bl2 (bl2 (bl2 (bl2 (bl2 HB2.out HB3.out) HB4.out) HB5.out) HB6.out) HB7.out) HB8.out) HB9.out) HB10.out) HB11.out) HB12.out) HB13.out) HB14.out) HB15.out) HB16.out) HB17.out) HB18.out) HB19.out) HB20.out) HB21.out) HB22.out) HB23.out) HB24.out)).1 (HOK.out w25_31 (bl2 (bl2 (bl2 (bl2 (bl2 (bl2 (bl2 (bl2 (bl2 (bl2 (bl2 (bl2 (bl2 (bl2 (bl2 (bl2 (bl2 (bl2 (bl2 (bl2 (bl2 (bl2 HB2.out HB3.out) HB4.out) HB5.out) HB6.out) HB7.out) HB8.out) HB9.out) HB10.out) HB11.out) HB12.out) HB13.out) HB14.out) HB15.out) HB16.out) HB17.out) HB18.out) HB19.out) HB20.out) HB21.out) HB22.out) HB23.out) HB24.out)).2.1 (HOK.out w25_31 (bl2 (bl2 (bl2 (bl2 (bl2 (bl2 (bl2 (bl2 (bl2 (bl2 (bl2 (bl2 (bl2 (bl2 (bl2 (bl2 (bl2 (bl2 (bl2 (bl2 (bl2 (bl2 HB2.out HB3.out) HB4.out) HB5.out) HB6.out) HB7.out) HB8.out) HB9.out) HB10.out) HB11.out) HB12.out) HB13.out) HB14.out) HB15.out) HB16.out) HB17.out) HB18.out) HB19.out) HB20.out) HB21.out) HB22.out) HB23.out) HB24.out)).2.2.1 (by have := HRP.out; omega) (by have := HRP.out; omega) (by have := HRP.out; omega)
      rw [decide_eq_true HRP.out.1] at hc
      go_wp2_with fail
      refine hc.mono ?_
      rintro e w26_32 ⟨rfl, bk⟩
      have HB25 := show Hid (Below w25_31.heap.size w25_31 w26_32) from bk
      clear hc bk
      clear g0 g1 g2
      obtain ⟨g0, g1, g2⟩ := HKB.out.cells (bl2 (bl2 (bl2 (bl2 (bl2 (bl2 (bl2 (bl2 (bl2 (bl2 (bl2 (bl2 (bl2 (bl2 (bl2 (bl2 (bl2 (bl2 (bl2 (bl2 (bl2 (bl2 HB3.out HB4.out) HB5.out) HB6.out) HB7.out) HB8.out) HB9.out) HB10.out) HB11.out) HB12.out) HB13.out) HB14.out) HB15.out) HB16.out) HB17.out) HB18.out) HB19.out) HB20.out) HB21.out) HB22.out) HB23.out) HB24.out) HB25.out)
      have hc := rightV _ _ _ R (bareL E) D w26_32 (HOK.out w26_32 (bl2 (bl2 (bl2 (bl2 (bl2 (bl2 (bl2 (bl2 (bl2 (bl2 (bl2 (bl2 (bl2 (bl2 (bl2 (bl2 (bl2 (bl2 (bl2 (bl2 (bl2 (bl2 (bl2 HB2.out HB3.out) HB4.out) HB5.out) HB6.out) HB7.out) HB8.out) HB9.out) HB10.out) HB11.out) HB12.out) HB13.out) HB14.out) HB15.out) HB16.out) HB17.out) HB18.out) HB19.out) HB20.out) HB21.out) HB22.out) HB23.out) HB24.out) HB25.out)).1 (HOK.out w26_32 (bl2 (bl2 (bl2 (bl2 (bl2 (bl2 (bl2 (bl2 (bl2 (bl2 (bl2 (bl2 (bl2 (bl2 (bl2 (bl2 (bl2 (bl2 (bl2 (bl2 (bl2 (bl2 (bl2 HB2.out HB3.out) HB4.out) HB5.out) HB6.out) HB7.out) HB8.out) HB9.out) HB10.out) HB11.out) HB12.out) HB13.out) HB14.out) HB15.out) HB16.out) HB17.out) HB18.out) HB19.out) HB20.out) HB21.out) HB22.out) HB23.out) HB24.out) HB25.out)).2.1 (HOK.out w26_32 (bl2 (bl2 (bl2 (bl2 (bl2 (bl2 (bl2 (bl2 (bl2 (bl2 (bl2 (bl2 (bl2 (bl2 (bl2 (bl2 (bl2 (bl2 (bl2 (bl2 (bl2 (bl2 (bl2 HB2.out HB3.out) HB4.out) HB5.out) HB6.out) HB7.out) HB8.out) HB9.out) HB10.out) HB11.out) HB12.out) HB13.out) HB14.out) HB15.out) HB16.out) HB17.out) HB18.out) HB19.out) HB20.out) HB21.out) HB22.out) HB23.out) HB24.out) HB25.out)).2.2.1 (by have := HRP.out; omega) (by have := HRP.out; omega) (by have := HRP.out; omega)
      rw [decide_eq_true HRP.out.1] at hc
      go_wp2_with fail
      refine hc.mono ?_
      rintro e w27_33 ⟨rfl, bk⟩
      have HB26 := show Hid (Below w26_32.heap.size w26_32 w27_33) from bk
      clear hc bk
      clear g0 g1 g2
      obtain ⟨g0, g1, g2⟩ := HKB.out.cells (bl2 (bl2 (bl2 (bl2 (bl2 (bl2 (bl2 (bl2 (bl2 (bl2 (bl2 (bl2 (bl2 (bl2 (bl2 (bl2 (bl2 (bl2 (bl2 (bl2 (bl2 (bl2 (bl2 HB3.out HB4.out) HB5.out) HB6.out) HB7.out) HB8.out) HB9.out) HB10.out) HB11.out) HB12.out) HB13.out) HB14.out) HB15.out) HB16.out) HB17.out) HB18.out) HB19.out) HB20.out) HB21.out) HB22.out) HB23.out) HB24.out) HB25.out) HB26.out)
      have hc := digOfV R _ w27_33 (HOK.out w27_33 (bl2 (bl2 (bl2 (bl2 (bl2 (bl2 (bl2 (bl2 (bl2 (bl2 (bl2 (bl2 (bl2 (bl2 (bl2 (bl2 (bl2 (bl2 (bl2 (bl2 (bl2 (bl2 (bl2 (bl2 HB2.out HB3.out) HB4.out) HB5.out) HB6.out) HB7.out) HB8.out) HB9.out) HB10.out) HB11.out) HB12.out) HB13.out) HB14.out) HB15.out) HB16.out) HB17.out) HB18.out) HB19.out) HB20.out) HB21.out) HB22.out) HB23.out) HB24.out) HB25.out) HB26.out)).1 (by have := HRP.out; omega)
      go_wp2_with fail
      refine hc.mono ?_
      rintro e w28_34 ⟨⟨yv1, kv1, cv1, rfl, ix, _⟩, bk⟩
      rw [nR] at ix
      have HB27 := show Hid (Below w27_33.heap.size w27_33 w28_34) from bk
      clear hc bk
      have HRR := show Hid (IsD (R.length) w28_34 (.slice yv1 kv1 cv1) (p * z)) from ix
      clear ix g0 g1 g2
      have hb3 : R.length ≤ 1000000 := by have := HRP.out; omega
      have hc := cmpV2 (R.length) (P.length + Q.length) (.slice yv1 kv1 cv1) (.slice yn kn cn) (p * z) (p * z) w28_34 (HRR.out.later (Below.refl _ w28_34)) (HN.out.later (bl2 (bl2 (bl2 (bl2 (bl2 (bl2 (bl2 (bl2 (bl2 (bl2 (bl2 (bl2 (bl2 (bl2 (bl2 (bl2 (bl2 (bl2 (bl2 (bl2 HB7.out HB8.out) HB9.out) HB10.out) HB11.out) HB12.out) HB13.out) HB14.out) HB15.out) HB16.out) HB17.out) HB18.out) HB19.out) HB20.out) HB21.out) HB22.out) HB23.out) HB24.out) HB25.out) HB26.out) HB27.out)) hb3 (cmpN_eqM _)
      go_wp2_with fail
      refine hc.mono ?_
      rintro e w29_35 ⟨rfl, bk⟩
      have HB28 := show Hid (Below w28_34.heap.size w28_34 w29_35) from bk
      clear hc bk
      obtain ⟨g0, g1, g2⟩ := HKB.out.cells (bl2 (bl2 (bl2 (bl2 (bl2 (bl2 (bl2 (bl2 (bl2 (bl2 (bl2 (bl2 (bl2 (bl2 (bl2 (bl2 (bl2 (bl2 (bl2 (bl2 (bl2 (bl2 (bl2 (bl2 (bl2 HB3.out HB4.out) HB5.out) HB6.out) HB7.out) HB8.out) HB9.out) HB10.out) HB11.out) HB12.out) HB13.out) HB14.out) HB15.out) HB16.out) HB17.out) HB18.out) HB19.out) HB20.out) HB21.out) HB22.out) HB23.out) HB24.out) HB25.out) HB26.out) HB27.out) HB28.out)
      have hc := digOfV (bareL E) _ w29_35 (HOK.out w29_35 (bl2 (bl2 (bl2 (bl2 (bl2 (bl2 (bl2 (bl2 (bl2 (bl2 (bl2 (bl2 (bl2 (bl2 (bl2 (bl2 (bl2 (bl2 (bl2 (bl2 (bl2 (bl2 (bl2 (bl2 (bl2 (bl2 HB2.out HB3.out) HB4.out) HB5.out) HB6.out) HB7.out) HB8.out) HB9.out) HB10.out) HB11.out) HB12.out) HB13.out) HB14.out) HB15.out) HB16.out) HB17.out) HB18.out) HB19.out) HB20.out) HB21.out) HB22.out) HB23.out) HB24.out) HB25.out) HB26.out) HB27.out) HB28.out)).2.1 (by have := HRP.out; omega)
      go_wp2_with fail
      refine hc.mono ?_
      rintro e w30_36 ⟨⟨yv2, kv2, cv2, rfl, ix, _⟩, bk⟩
      rw [hee] at ix
      have HB29 := show Hid (Below w29_35.heap.size w29_35 w30_36) from bk
      clear hc bk
      have HEE := show Hid (IsD ((bareL E).length) w30_36 (.slice yv2 kv2 cv2) (ee)) from ix
      clear ix g0 g1 g2
      have hb4 : (bareL E).length ≤ 1000000 := by have := HRP.out; omega
      have hc := cmpV2 ((bareL E).length) (E.length) (.slice yv2 kv2 cv2) (.slice yz kz cz) (ee) (ee) w30_36 (HEE.out.later (Below.refl _ w30_36)) (HZ.out.later (bl2 (bl2 (bl2 (bl2 (bl2 (bl2 (bl2 (bl2 (bl2 (bl2 (bl2 (bl2 (bl2 (bl2 (bl2 (bl2 (bl2 (bl2 (bl2 (bl2 (bl2 (bl2 (bl2 HB6.out HB7.out) HB8.out) HB9.out) HB10.out) HB11.out) HB12.out) HB13.out) HB14.out) HB15.out) HB16.out) HB17.out) HB18.out) HB19.out) HB20.out) HB21.out) HB22.out) HB23.out) HB24.out) HB25.out) HB26.out) HB27.out) HB28.out) HB29.out)) hb4 (cmpN_eqM _)
      go_wp2_with fail
      refine hc.mono ?_
      rintro e w31_37 ⟨rfl, bk⟩
      have HB30 := show Hid (Below w30_36.heap.size w30_36 w31_37) from bk
      clear hc bk
      obtain ⟨L32_37, hL32_37⟩ : ∃ W, w31_37.alloc (.cells #[.int .i64 1] 3) = W := ⟨_, rfl⟩
      have iL32_37 : IsD 1 L32_37 (.slice (some ⟨w31_37.heap.size, 0, none⟩) 1 1) 1 := by rw [← hL32_37]; exact isD_k w31_37 1 (by decide) (by decide)
      have HB31 := show Hid (Below w31_37.heap.size w31_37 L32_37) from by rw [← hL32_37]; exact alB _ _
      have IL32_37 := show Hid (IsD 1 L32_37 (.slice (some ⟨w31_37.heap.size, 0, none⟩) 1 1) 1) from iL32_37
      clear iL32_37
      have hc := cmpV2 (160) 1 (.slice yr kr cr) (.slice (some ⟨w31_37.heap.size, 0, none⟩) 1 1) (1) 1 L32_37 (HR.out.later (bl2 (bl2 (bl2 (bl2 (bl2 (bl2 HB25.out HB26.out) HB27.out) HB28.out) HB29.out) HB30.out) HB31.out)) IL32_37.out (by have := HL.out; omega) (cmpN_eqM 1)
      go_wp2_with fail
      refine hc.mono ?_
      rintro e w33_38 ⟨rfl, bk⟩
      have HB32 := show Hid (Below L32_37.heap.size L32_37 w33_38) from bk
      clear hc bk
      obtain ⟨g0, g1, g2⟩ := HKB.out.cells (bl2 (bl2 (bl2 (bl2 (bl2 (bl2 (bl2 (bl2 (bl2 (bl2 (bl2 (bl2 (bl2 (bl2 (bl2 (bl2 (bl2 (bl2 (bl2 (bl2 (bl2 (bl2 (bl2 (bl2 (bl2 (bl2 (bl2 (bl2 (bl2 HB3.out HB4.out) HB5.out) HB6.out) HB7.out) HB8.out) HB9.out) HB10.out) HB11.out) HB12.out) HB13.out) HB14.out) HB15.out) HB16.out) HB17.out) HB18.out) HB19.out) HB20.out) HB21.out) HB22.out) HB23.out) HB24.out) HB25.out) HB26.out) HB27.out) HB28.out) HB29.out) HB30.out) HB31.out) HB32.out)
      have hc := digOfV D _ w33_38 (HOK.out w33_38 (bl2 (bl2 (bl2 (bl2 (bl2 (bl2 (bl2 (bl2 (bl2 (bl2 (bl2 (bl2 (bl2 (bl2 (bl2 (bl2 (bl2 (bl2 (bl2 (bl2 (bl2 (bl2 (bl2 (bl2 (bl2 (bl2 (bl2 (bl2 (bl2 (bl2 HB2.out HB3.out) HB4.out) HB5.out) HB6.out) HB7.out) HB8.out) HB9.out) HB10.out) HB11.out) HB12.out) HB13.out) HB14.out) HB15.out) HB16.out) HB17.out) HB18.out) HB19.out) HB20.out) HB21.out) HB22.out) HB23.out) HB24.out) HB25.out) HB26.out) HB27.out) HB28.out) HB29.out) HB30.out) HB31.out) HB32.out)).2.2.1 (by have := HRP.out; omega)
      go_wp2_with fail
      refine hc.mono ?_
      rintro e w34_39 ⟨⟨yv3, kv3, cv3, rfl, ix, _⟩, bk⟩
      rw [nD] at ix
      have HB33 := show Hid (Below w33_38.heap.size w33_38 w34_39) from bk
      clear hc bk
      have HD2 := show Hid (IsD (D.length) w34_39 (.slice yv3 kv3 cv3) (K)) from ix
      clear ix g0 g1 g2
      have hb5 : D.length ≤ 1000000 := by have := HRP.out; omega
      have hc := cmpV2 (D.length) (160) (.slice yv3 kv3 cv3) (.slice yl kl cl) (K) (l) w34_39 (HD2.out.later (Below.refl _ w34_39)) (HL0.out.later (bl2 (bl2 (bl2 (bl2 (bl2 (bl2 (bl2 (bl2 (bl2 (bl2 (bl2 (bl2 (bl2 (bl2 HB19.out HB20.out) HB21.out) HB22.out) HB23.out) HB24.out) HB25.out) HB26.out) HB27.out) HB28.out) HB29.out) HB30.out) HB31.out) HB32.out) HB33.out)) hb5 (cmpN_ltM HRP.out.2.2.1)
      go_wp2_with fail
      refine hc.mono ?_
      rintro e w35_40 ⟨rfl, bk⟩
      have HB34 := show Hid (Below w34_39.heap.size w34_39 w35_40) from bk
      clear hc bk
      obtain ⟨g0, g1, g2⟩ := HKB.out.cells (bl2 (bl2 (bl2 (bl2 (bl2 (bl2 (bl2 (bl2 (bl2 (bl2 (bl2 (bl2 (bl2 (bl2 (bl2 (bl2 (bl2 (bl2 (bl2 (bl2 (bl2 (bl2 (bl2 (bl2 (bl2 (bl2 (bl2 (bl2 (bl2 (bl2 (bl2 HB3.out HB4.out) HB5.out) HB6.out) HB7.out) HB8.out) HB9.out) HB10.out) HB11.out) HB12.out) HB13.out) HB14.out) HB15.out) HB16.out) HB17.out) HB18.out) HB19.out) HB20.out) HB21.out) HB22.out) HB23.out) HB24.out) HB25.out) HB26.out) HB27.out) HB28.out) HB29.out) HB30.out) HB31.out) HB32.out) HB33.out) HB34.out)
      obtain ⟨_, _, _, f1, f2, f3⟩ := HOK.out w35_40 (bl2 (bl2 (bl2 (bl2 (bl2 (bl2 (bl2 (bl2 (bl2 (bl2 (bl2 (bl2 (bl2 (bl2 (bl2 (bl2 (bl2 (bl2 (bl2 (bl2 (bl2 (bl2 (bl2 (bl2 (bl2 (bl2 (bl2 (bl2 (bl2 (bl2 (bl2 (bl2 HB2.out HB3.out) HB4.out) HB5.out) HB6.out) HB7.out) HB8.out) HB9.out) HB10.out) HB11.out) HB12.out) HB13.out) HB14.out) HB15.out) HB16.out) HB17.out) HB18.out) HB19.out) HB20.out) HB21.out) HB22.out) HB23.out) HB24.out) HB25.out) HB26.out) HB27.out) HB28.out) HB29.out) HB30.out) HB31.out) HB32.out) HB33.out) HB34.out)
      have HF := show Hid (Below w.heap.size w w35_40) from (bl2 (bl2 (bl2 (bl2 (bl2 (bl2 (bl2 (bl2 (bl2 (bl2 (bl2 (bl2 (bl2 (bl2 (bl2 (bl2 (bl2 (bl2 (bl2 (bl2 (bl2 (bl2 (bl2 (bl2 (bl2 (bl2 (bl2 (bl2 (bl2 (bl2 (bl2 (bl2 (bl2 (bl2 HB0.out HB1.out) HB2.out) HB3.out) HB4.out) HB5.out) HB6.out) HB7.out) HB8.out) HB9.out) HB10.out) HB11.out) HB12.out) HB13.out) HB14.out) HB15.out) HB16.out) HB17.out) HB18.out) HB19.out) HB20.out) HB21.out) HB22.out) HB23.out) HB24.out) HB25.out) HB26.out) HB27.out) HB28.out) HB29.out) HB30.out) HB31.out) HB32.out) HB33.out) HB34.out)
      go_wp2_with fail
      go_ret
      exact ⟨rfl, HF.out⟩
  · have hn1 : Nil3 (.slice y1 k1 c1) (.slice y2 k2 c2) (.slice y3 k3 c3) ∧ F = 20 := by
      rcases HCS.out with ⟨h, _⟩ | ⟨_, ⟨R, h1, h2, h3⟩, _⟩ | ⟨_, _, _, h1, h2⟩ | ⟨_, ⟨R, D, K, _, _, _, _, _, _, h, _⟩, _⟩ | ⟨_, _, R, D, K, _, _, _, _, _, _, _, _, _, h, _⟩
      · omega
      · have := hkn R h1 h2; omega
      · exact ⟨h1, h2⟩
      · rw [HLL.out.2.2] at h
        exact absurd (inv_gcd h) hg
      · rw [HLL.out.2.2] at h
        exact absurd (inv_gcd h) hg
    obtain ⟨hnil, rfl⟩ := hn1
    clear HCS hkn
    obtain ⟨q1, q2, q3⟩ := hnil
    simp only [Value.slice.injEq] at q1 q2 q3
    obtain ⟨rfl, rfl, rfl⟩ := q1
    obtain ⟨rfl, rfl, rfl⟩ := q2
    obtain ⟨rfl, rfl, rfl⟩ := q3
    obtain ⟨X6, hX6, n6⟩ := cmpN_neM hg
    obtain ⟨L21_40, hL21_40⟩ : ∃ W, w20_23.alloc (.cells #[.int .i64 1] 3) = W := ⟨_, rfl⟩
    have iL21_40 : IsD 1 L21_40 (.slice (some ⟨w20_23.heap.size, 0, none⟩) 1 1) 1 := by rw [← hL21_40]; exact isD_k w20_23 1 (by decide) (by decide)
    have HB20 := show Hid (Below w20_23.heap.size w20_23 L21_40) from by rw [← hL21_40]; exact alB _ _
    have IL21_40 := show Hid (IsD 1 L21_40 (.slice (some ⟨w20_23.heap.size, 0, none⟩) 1 1) 1) from iL21_40
    clear iL21_40
    have hc := cmpV2 (160) 1 (.slice yh kh ch) (.slice (some ⟨w20_23.heap.size, 0, none⟩) 1 1) (Nat.gcd ee l) 1 L21_40 (HH.out.later HB20.out) IL21_40.out (by have := HL.out; omega) hX6
    go_wp2_with fail
    refine hc.mono ?_
    rintro e w22_41 ⟨rfl, bk⟩
    have HB21 := show Hid (Below L21_40.heap.size L21_40 w22_41) from bk
    clear hc bk
    obtain ⟨g0, g1, g2⟩ := HKB.out.cells (bl2 (bl2 (bl2 (bl2 (bl2 (bl2 (bl2 (bl2 (bl2 (bl2 (bl2 (bl2 (bl2 (bl2 (bl2 (bl2 (bl2 (bl2 HB3.out HB4.out) HB5.out) HB6.out) HB7.out) HB8.out) HB9.out) HB10.out) HB11.out) HB12.out) HB13.out) HB14.out) HB15.out) HB16.out) HB17.out) HB18.out) HB19.out) HB20.out) HB21.out)
    have hc := lqSame_none w22_41
    go_wp2_with fail
    refine hc.mono ?_
    rintro e w23_42 ⟨rfl, bk⟩
    have HB22 := show Hid (Below w22_41.heap.size w22_41 w23_42) from bk
    clear hc bk
    clear g0 g1 g2
    have HF := show Hid (Below w.heap.size w w23_42) from (bl2 (bl2 (bl2 (bl2 (bl2 (bl2 (bl2 (bl2 (bl2 (bl2 (bl2 (bl2 (bl2 (bl2 (bl2 (bl2 (bl2 (bl2 (bl2 (bl2 (bl2 (bl2 HB0.out HB1.out) HB2.out) HB3.out) HB4.out) HB5.out) HB6.out) HB7.out) HB8.out) HB9.out) HB10.out) HB11.out) HB12.out) HB13.out) HB14.out) HB15.out) HB16.out) HB17.out) HB18.out) HB19.out) HB20.out) HB21.out) HB22.out)
    go_wp2_with fail
    go_ret
    exact ⟨rfl, HF.out⟩
theorem isb_selfM {w : World} {v : Value} {s : ByteArray} (h : IsBytes w v s) : IsBytes w v ⟨s.data.toList.toArray⟩ := by
  have e : (⟨s.data.toList.toArray⟩ : ByteArray) = s := by cases s; simp
  rw [e]
  exact h
theorem lqMakesB (vp vq ve : Value) (s t r : ByteArray) (w : World) (h1 : IsBytes w vp s) (h2 : IsBytes w vq t) (h3 : IsBytes w ve r) (hK : KTab w) :
    Calls Tryd.prog 3 #[vp, vq, ve] w fun e w' => e = .returned (.bool true) ∧ Below w.heap.size w w' :=
  lqMakes_any vp vq ve _ _ _ w (isb_selfM h1) (isb_selfM h2) (isb_selfM h3) hK
end Go.Proofs.YtpcmpeeflnlkpaaDoor
