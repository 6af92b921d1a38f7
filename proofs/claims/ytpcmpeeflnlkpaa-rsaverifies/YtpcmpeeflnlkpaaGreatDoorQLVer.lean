
/-
  The law RsaVerifies.
-/
import Derived.Test.YtpcmpeeflnlkpaaGreatDoorQSoundEtc
import Derived.Test.YtpcmpeeflnlkpaaGreatDoorQRVer
import Derived.Test.YtpcmpeeflnlkpaaGreatDoorNCmpIEtc
namespace Go.Proofs.YtpcmpeeflnlkpaaGreatDoor
open Go.RowKit Ch
set_option maxRecDepth 100000

def semLV (y1 y2 y3 yb ys : Option Addr) (k1 k2 k3 c1 c2 c3 kb cb ks cs : Nat) (R E : List UInt8) (Z : Int) : Nat → Value → World → Prop := fun ix v u => match ix with
  | 0 => v = .bool true
  | 1 => v = .bool true
  | 2 => v = .agg #[.slice y1 k1 c1, .slice y2 k2 c2, .slice y3 k3 c3]
  | 3 => qPbK u v R E
  | 4 => v = .slice yb kb cb
  | 5 => v = .slice ys ks cs
  | 6 => v = .int .i64 Z
  | 7 => v = .agg #[.slice y1 k1 c1, .slice y2 k2 c2, .slice y3 k3 c3]
  | 8 => qPbK u v R E
  | 9 => v = .slice yb kb cb
  | 10 => v = .slice ys ks cs
  | 11 => v = .int .i64 Z
  | 12 => v = .bool true
  | 13 => v = .bool true
  | 14 => v = .bool true
  | _ => True
set_option maxHeartbeats 8000000 in
theorem lqVerifies_any (i : Int) (vb vs : Value) (b S : List UInt8) (w : World) (h1 : IsBytes w vb ⟨b.toArray⟩) (h2 : IsBytes w vs ⟨S.toArray⟩) (hK : KTab w) :
    Calls Tryz.prog 4 #[.int .i64 i, vb, vs] w fun e w' => e = .returned (.bool true) ∧ Below w.heap.size w w' := by
  obtain ⟨yb, cb, rfl⟩ := isb_shape h1
  obtain ⟨ys, cs, rfl⟩ := isb_shape h2
  obtain ⟨kb, hkb⟩ : ∃ k, b.length = k := ⟨_, rfl⟩
  obtain ⟨ks, hks⟩ : ∃ k, S.length = k := ⟨_, rfl⟩
  rw [hkb] at h1 ⊢
  rw [hks] at h2 ⊢
  have hAw := lqAwake_any w hK
  have HI := show Hid (∀ u, Below w.heap.size w u → IsBytes u (.slice yb kb cb) ⟨b.toArray⟩ ∧ IsBytes u (.slice ys ks cs) ⟨S.toArray⟩ ∧ KTab u) from fun u hu => ⟨h1.later hu, h2.later hu, hK.later hu⟩
  have HL := show Hid (b.length = kb ∧ S.length = ks) from ⟨hkb, hks⟩
  clear h1 h2 hK hkb hks
  by_cases hg : 300 < kb ∨ 200 < ks
  · have hg2 : (300 : Int) < (kb : Int) ∨ ((kb : Int) ≤ 300 ∧ (200 : Int) < (ks : Int)) := by omega
    rcases hg2 with hg2 | ⟨hg2, hg3⟩
    · go_enter Tryz.func4, Tryz.ntmps4
      go_wp2_with fail
      refine hAw.mono ?_
      rintro e w1 ⟨rfl, b1⟩
      have hA2 := lqAwake_any w1 (HI.out w1 b1).2.2
      have HB := show Hid (Below w.heap.size w w1) from b1
      clear hAw b1
      go_wp2_with fail
      refine hA2.mono ?_
      rintro e w2 ⟨rfl, b2⟩
      have HF := show Hid (Below w.heap.size w w2) from bl2 HB.out b2
      clear hA2 b2
      go_wp2_with fail
      go_ret
      exact ⟨rfl, HF.out⟩
    · go_enter Tryz.func4, Tryz.ntmps4
      have hg4 : ¬ (300 : Int) < (kb : Int) := by omega
      go_wp2_with fail
      refine hAw.mono ?_
      rintro e w1 ⟨rfl, b1⟩
      have hA2 := lqAwake_any w1 (HI.out w1 b1).2.2
      have HB := show Hid (Below w.heap.size w w1) from b1
      clear hAw b1
      go_wp2_with fail
      refine hA2.mono ?_
      rintro e w2 ⟨rfl, b2⟩
      have HF := show Hid (Below w.heap.size w w2) from bl2 HB.out b2
      clear hA2 b2
      go_wp2_with fail
      go_ret
      exact ⟨rfl, HF.out⟩
  · have hg1 : ¬ (300 : Int) < (kb : Int) := by omega
    have hg2 : ¬ (200 : Int) < (ks : Int) := by omega
    have HG := show Hid (kb ≤ 300 ∧ ks ≤ 200) from ⟨by omega, by omega⟩
    clear hg
    go_enter Tryz.func4, Tryz.ntmps4
    go_wp2_with fail
    refine hAw.mono ?_
    rintro e w1 ⟨rfl, b1⟩
    have hKy := lqKey_any i w1
    have HB := show Hid (Below w.heap.size w w1) from b1
    clear hAw b1
    go_wp2_with fail
    refine hKy.mono ?_
    rintro e w2 ⟨⟨v1, v2, v3, rfl, hok⟩, b2⟩
    obtain ⟨R, D, hk⟩ := key_is _ (keyAt_lt i) hok
    obtain ⟨y1, k1, c1, rfl⟩ := isb_open hk.at1
    obtain ⟨y2, k2, c2, rfl⟩ := isb_open hk.at2
    obtain ⟨y3, k3, c3, rfl⟩ := isb_open hk.at3
    clear hKy hok
    have kbx := keyBox w2 (.slice y1 k1 c1) (.slice y2 k2 c2) (.slice y3 k3 c3)
    obtain ⟨q, hq⟩ : ∃ q, w2.heap.size = q := ⟨_, rfl⟩
    obtain ⟨W3, hW3⟩ : ∃ W, w2.alloc (.cells #[.slice y1 k1 c1, .slice y2 k2 c2, .slice y3 k3 c3] 25) = W := ⟨_, rfl⟩
    rw [hW3, hq] at kbx
    have hw2 := bl2 HB.out b2
    obtain ⟨E, hE⟩ : ∃ E : List UInt8, E = [1, 0, 1] := ⟨_, rfl⟩
    rw [← hE] at hk
    obtain ⟨Z, hZ⟩ : ∃ Z, verL R E [] b S = Z := ⟨_, rfl⟩
    have HU := show Hid (∀ u, Below W3.drew.heap.size W3.drew u → u.cell? ⟨q, 0, none⟩ = some (.slice y1 k1 c1) ∧ u.cell? ⟨q, 1, none⟩ = some (.slice y2 k2 c2) ∧ u.cell? ⟨q, 2, none⟩ = some (.slice y3 k3 c3) ∧
        (Calls Tryz.prog 11 #[.agg #[.slice y1 k1 c1, .slice y2 k2 c2, .slice y3 k3 c3]] u fun e w' => (∃ v, e = .returned v ∧ qPbK w' v R E) ∧ Below u.heap.size u w') ∧
        (∀ ya ka ca ye ke ce, IsBytes u (.slice ya ka ca) ⟨R.toArray⟩ → IsBytes u (.slice ye ke ce) ⟨E.toArray⟩ → Calls Tryz.prog 10 #[.agg #[.slice ya ka ca, .slice ye ke ce, .slice none 0 0], .slice yb kb cb, .slice ys ks cs] u fun e w' => e = .returned (.int .i64 Z) ∧ Below u.heap.size u w') ∧
        (∀ ya ka ca ye ke ce, IsBytes u (.slice ya ka ca) ⟨R.toArray⟩ → IsBytes u (.slice ye ke ce) ⟨E.toArray⟩ → Calls Tryz.prog 12 #[.agg #[.slice ya ka ca, .slice ye ke ce, .slice none 0 0], .slice yb kb cb, .slice ys ks cs] u fun e w' => e = .returned (.int .i64 Z) ∧ Below u.heap.size u w') ∧ Below w.heap.size w u) from fun u hu => by
      have hu2 : Below W3.heap.size W3 u := bl2 ((Below.refl _ W3).drew) hu
      obtain ⟨x, y, z⟩ := kbx.cells hu2
      have hku := hk.later (bl2 kbx.below hu2)
      have hbu := bl2 hw2 (bl2 kbx.below hu2)
      have l1 := hku.len
      have l2 := hku.lenE
      have l3 := hku.lenD
      have l4 := hku.size
      have l5 := HL.out
      have l6 := HG.out
      obtain ⟨i1, i2, i3⟩ := HI.out u hbu
      refine ⟨x, y, z, qPublic_any _ _ _ R E D u hku.at1 hku.at2 hku.at3 (by omega) (by omega) (by omega), fun ya ka ca ye ke ce p1 p2 => ?_, fun ya ka ca ye ke ce p1 p2 => ?_, hbu⟩
      · have h := qVerify_any _ _ (.slice none 0 0) _ _ R E [] b S u p1 p2 (isb_none u) i1 i2 i3 (by omega) (by omega) (by decide) (by omega) (by omega)
        rw [hZ] at h
        exact h
      · have h := qrVerify_any _ _ (.slice none 0 0) _ _ R E [] b S u p1 p2 (isb_none u) i1 i2 (by omega) (by omega) (by decide) (by omega) (by omega)
        rw [hZ] at h
        exact h
    obtain ⟨g0, g1, g2⟩ := kbx.cells (Below.refl _ W3)
    clear hk hw2 b2 hE hZ kbx
    go_wp2_with fail
    refine free_walk (Sem := semLV y1 y2 y3 yb ys k1 k2 k3 c1 c2 c3 kb cb ks cs R E Z) rfl (n := 41) (by kernel_rfl) rfl (by kernel_rfl) ?_ ?_ ?_
    · intro ix v u u' h hb
      match ix, h with
      | 0, h => exact h
      | 1, h => exact h
      | 2, h => exact h
      | 3, h => exact qPbK.later h hb
      | 4, h => exact h
      | 5, h => exact h
      | 6, h => exact h
      | 7, h => exact h
      | 8, h => exact qPbK.later h hb
      | 9, h => exact h
      | 10, h => exact h
      | 11, h => exact h
      | 12, h => exact h
      | 13, h => exact h
      | 14, h => exact h
      | _ + 15, _ => exact trivial
    · intro ix o a u ho hF hbu
      match ix, ho, hF with
      | 0, ho, hF =>
        obtain rfl := Option.some.inj ho
        have h8 : a.tmps[8]? = some (.bool true) := (hF.out 8 rfl).trans rfl
        refine free_step rfl (by rfl) (fun K' hK => ?_)
        go_simp
        exact hK.out _ _ rfl (Below.refl _ _)
      | 1, ho, hF =>
        obtain rfl := Option.some.inj ho
        obtain ⟨v27, h27, s27⟩ := hF.dep 0 27 rfl rfl
        obtain rfl : v27 = .bool true := s27
        refine free_step rfl (by rfl) (fun K' hK => ?_)
        go_simp
        exact hK.out _ _ rfl (Below.refl _ _)
      | 2, ho, hF =>
        obtain rfl := Option.some.inj ho
        have h7 : a.tmps[7]? = some (.pointer (some ⟨q, 0, none⟩)) := (hF.out 7 rfl).trans rfl
        obtain ⟨v28, h28, s28⟩ := hF.dep 1 28 rfl rfl
        obtain rfl : v28 = .bool true := s28
        have g0 := (HU.out u hbu).1
        have g1 := (HU.out u hbu).2.1
        have g2 := (HU.out u hbu).2.2.1
        refine free_step rfl (by show (yielded _ a.tmps 1 == some true) = true; unfold yielded; simp [h28]) (fun K' hK => ?_)
        go_simp
        exact hK.out _ _ rfl (Below.refl _ _)
      | 3, ho, hF =>
        obtain rfl := Option.some.inj ho
        obtain ⟨v29, h29, s29⟩ := hF.dep 2 29 rfl rfl
        obtain rfl : v29 = .agg #[.slice y1 k1 c1, .slice y2 k2 c2, .slice y3 k3 c3] := s29
        obtain ⟨v28, h28, s28⟩ := hF.dep 1 28 rfl rfl
        obtain rfl : v28 = .bool true := s28
        have hc := (HU.out u hbu).2.2.2.1
        refine free_step rfl (by show (yielded _ a.tmps 1 == some true) = true; unfold yielded; simp [h28]) (fun K' hK => ?_)
        go_wp2_with fail
        refine hc.mono ?_
        rintro e u' ⟨⟨x, rfl, hI⟩, hb⟩
        go_simp
        exact hK.out _ _ hI hb
      | 4, ho, hF =>
        obtain rfl := Option.some.inj ho
        have h1 : a.tmps[1]? = some (.slice yb kb cb) := (hF.out 1 rfl).trans rfl
        obtain ⟨v28, h28, s28⟩ := hF.dep 1 28 rfl rfl
        obtain rfl : v28 = .bool true := s28
        refine free_step rfl (by show (yielded _ a.tmps 1 == some true) = true; unfold yielded; simp [h28]) (fun K' hK => ?_)
        go_simp
        exact hK.out _ _ rfl (Below.refl _ _)
      | 5, ho, hF =>
        obtain rfl := Option.some.inj ho
        have h2 : a.tmps[2]? = some (.slice ys ks cs) := (hF.out 2 rfl).trans rfl
        obtain ⟨v28, h28, s28⟩ := hF.dep 1 28 rfl rfl
        obtain rfl : v28 = .bool true := s28
        refine free_step rfl (by show (yielded _ a.tmps 1 == some true) = true; unfold yielded; simp [h28]) (fun K' hK => ?_)
        go_simp
        exact hK.out _ _ rfl (Below.refl _ _)
      | 6, ho, hF =>
        obtain rfl := Option.some.inj ho
        obtain ⟨v30, h30, s30⟩ := hF.dep 3 30 rfl rfl
        replace s30 : qPbK u v30 R E := s30
        obtain ⟨v31, h31, s31⟩ := hF.dep 4 31 rfl rfl
        obtain rfl : v31 = .slice yb kb cb := s31
        obtain ⟨v32, h32, s32⟩ := hF.dep 5 32 rfl rfl
        obtain rfl : v32 = .slice ys ks cs := s32
        obtain ⟨v28, h28, s28⟩ := hF.dep 1 28 rfl rfl
        obtain rfl : v28 = .bool true := s28
        obtain ⟨ya, ka, ca, ye, ke, ce, rfl, ia, ie⟩ := s30
        have hc := (HU.out u hbu).2.2.2.2.1 ya ka ca ye ke ce ia ie
        refine free_step rfl (by show (yielded _ a.tmps 1 == some true) = true; unfold yielded; simp [h28]) (fun K' hK => ?_)
        go_wp2_with fail
        refine hc.mono ?_
        rintro e u' ⟨rfl, hb⟩
        go_simp
        exact hK.out _ _ rfl hb
      | 7, ho, hF =>
        obtain rfl := Option.some.inj ho
        have h7 : a.tmps[7]? = some (.pointer (some ⟨q, 0, none⟩)) := (hF.out 7 rfl).trans rfl
        obtain ⟨v28, h28, s28⟩ := hF.dep 1 28 rfl rfl
        obtain rfl : v28 = .bool true := s28
        have g0 := (HU.out u hbu).1
        have g1 := (HU.out u hbu).2.1
        have g2 := (HU.out u hbu).2.2.1
        refine free_step rfl (by show (yielded _ a.tmps 1 == some true) = true; unfold yielded; simp [h28]) (fun K' hK => ?_)
        go_simp
        exact hK.out _ _ rfl (Below.refl _ _)
      | 8, ho, hF =>
        obtain rfl := Option.some.inj ho
        obtain ⟨v34, h34, s34⟩ := hF.dep 7 34 rfl rfl
        obtain rfl : v34 = .agg #[.slice y1 k1 c1, .slice y2 k2 c2, .slice y3 k3 c3] := s34
        obtain ⟨v28, h28, s28⟩ := hF.dep 1 28 rfl rfl
        obtain rfl : v28 = .bool true := s28
        have hc := (HU.out u hbu).2.2.2.1
        refine free_step rfl (by show (yielded _ a.tmps 1 == some true) = true; unfold yielded; simp [h28]) (fun K' hK => ?_)
        go_wp2_with fail
        refine hc.mono ?_
        rintro e u' ⟨⟨x, rfl, hI⟩, hb⟩
        go_simp
        exact hK.out _ _ hI hb
      | 9, ho, hF =>
        obtain rfl := Option.some.inj ho
        have h1 : a.tmps[1]? = some (.slice yb kb cb) := (hF.out 1 rfl).trans rfl
        obtain ⟨v28, h28, s28⟩ := hF.dep 1 28 rfl rfl
        obtain rfl : v28 = .bool true := s28
        refine free_step rfl (by show (yielded _ a.tmps 1 == some true) = true; unfold yielded; simp [h28]) (fun K' hK => ?_)
        go_simp
        exact hK.out _ _ rfl (Below.refl _ _)
      | 10, ho, hF =>
        obtain rfl := Option.some.inj ho
        have h2 : a.tmps[2]? = some (.slice ys ks cs) := (hF.out 2 rfl).trans rfl
        obtain ⟨v28, h28, s28⟩ := hF.dep 1 28 rfl rfl
        obtain rfl : v28 = .bool true := s28
        refine free_step rfl (by show (yielded _ a.tmps 1 == some true) = true; unfold yielded; simp [h28]) (fun K' hK => ?_)
        go_simp
        exact hK.out _ _ rfl (Below.refl _ _)
      | 11, ho, hF =>
        obtain rfl := Option.some.inj ho
        obtain ⟨v35, h35, s35⟩ := hF.dep 8 35 rfl rfl
        replace s35 : qPbK u v35 R E := s35
        obtain ⟨v36, h36, s36⟩ := hF.dep 9 36 rfl rfl
        obtain rfl : v36 = .slice yb kb cb := s36
        obtain ⟨v37, h37, s37⟩ := hF.dep 10 37 rfl rfl
        obtain rfl : v37 = .slice ys ks cs := s37
        obtain ⟨v28, h28, s28⟩ := hF.dep 1 28 rfl rfl
        obtain rfl : v28 = .bool true := s28
        obtain ⟨ya, ka, ca, ye, ke, ce, rfl, ia, ie⟩ := s35
        have hc := (HU.out u hbu).2.2.2.2.2.1 ya ka ca ye ke ce ia ie
        refine free_step rfl (by show (yielded _ a.tmps 1 == some true) = true; unfold yielded; simp [h28]) (fun K' hK => ?_)
        go_wp2_with fail
        refine hc.mono ?_
        rintro e u' ⟨rfl, hb⟩
        go_simp
        exact hK.out _ _ rfl hb
      | 12, ho, hF =>
        obtain rfl := Option.some.inj ho
        obtain ⟨v33, h33, s33⟩ := hF.dep 6 33 rfl rfl
        obtain rfl : v33 = .int .i64 Z := s33
        obtain ⟨v38, h38, s38⟩ := hF.dep 11 38 rfl rfl
        obtain rfl : v38 = .int .i64 Z := s38
        obtain ⟨v28, h28, s28⟩ := hF.dep 1 28 rfl rfl
        obtain rfl : v28 = .bool true := s28
        refine free_step rfl (by show (yielded _ a.tmps 1 == some true) = true; unfold yielded; simp [h28]) (fun K' hK => ?_)
        go_simp
        exact hK.out _ _ rfl (Below.refl _ _)
      | 13, ho, hF =>
        obtain rfl := Option.some.inj ho
        obtain ⟨v28, h28, s28⟩ := hF.dep 1 28 rfl rfl
        obtain rfl : v28 = .bool true := s28
        obtain ⟨v39, h39, s39⟩ := hF.dep 12 39 rfl rfl
        obtain rfl : v39 = .bool true := s39
        refine free_step rfl (by rfl) (fun K' hK => ?_)
        go_simp
        exact hK.out _ _ rfl (Below.refl _ _)
      | 14, ho, hF =>
        obtain rfl := Option.some.inj ho
        obtain ⟨v40, h40, s40⟩ := hF.dep 13 40 rfl rfl
        obtain rfl : v40 = .bool true := s40
        refine free_step rfl (by rfl) (fun K' hK => ?_)
        go_simp
        exact hK.out _ _ rfl (Below.refl _ _)
      | n + 15, ho, _ => exact absurd (Array.getElem?_eq_some_iff.1 ho).1 (by show ¬ n + 15 < 15; omega)
    · intro vs u hS hbu
      have e14 : vs 14 = (.bool true) := hS 14 6 rfl
      simp only [putFrom, Act.put, List.setIfInBounds_toArray, List.set_cons_succ, List.set_cons_zero, Nat.reduceAdd]
      rw [e14]
      clear hS e14
      generalize vs 0 = z0
      generalize vs 1 = z1
      generalize vs 2 = z2
      generalize vs 3 = z3
      generalize vs 4 = z4
      generalize vs 5 = z5
      generalize vs 6 = z6
      generalize vs 7 = z7
      generalize vs 8 = z8
      generalize vs 9 = z9
      generalize vs 10 = z10
      generalize vs 11 = z11
      generalize vs 12 = z12
      generalize vs 13 = z13
      have HF := show Hid (Below w.heap.size w u) from (HU.out u hbu).2.2.2.2.2.2
      clear hbu HU
      go_wp2_with fail
      go_ret
      exact ⟨rfl, HF.out⟩
theorem isb_self {w : World} {v : Value} {s : ByteArray} (h : IsBytes w v s) : IsBytes w v ⟨s.data.toList.toArray⟩ := by
  have e : (⟨s.data.toList.toArray⟩ : ByteArray) = s := by cases s; simp
  rw [e]
  exact h
theorem lqVerifiesB (i : Int) (vb vs : Value) (s t : ByteArray) (w : World) (h1 : IsBytes w vb s) (h2 : IsBytes w vs t) (hK : KTab w) :
    Calls Tryz.prog 4 #[.int .i64 i, vb, vs] w fun e w' => e = .returned (.bool true) ∧ Below w.heap.size w w' :=
  lqVerifies_any i vb vs _ _ w (isb_self h1) (isb_self h2) hK
end Go.Proofs.YtpcmpeeflnlkpaaGreatDoor
