/-
  DerKeys, walked.
-/
import Derived.Test.YthdoginhbhdmbaaXKeyL
namespace Go.Proofs.Ythdoginhbhdmbaa
open Go.RowKit Ch
set_option maxRecDepth 100000

theorem isb_size {w : World} {x : Option Addr} {n c : Nat} {s : ByteArray} (h : IsBytes w (.slice x n c) s) : s.size = n := by
  obtain ⟨a, cap, hv, _⟩ := h
  simp only [Value.slice.injEq] at hv
  exact hv.2.1.symm
def semK8 (x y z yb : Option Addr) (cx cy cz nN nE nD kb cb : Nat) (SI : ByteArray) : Nat → Value → World → Prop := fun ix v u => match ix with
  | 0 => v = .int .i64 0
  | 1 => v = .bool false
  | 2 => v = .bool false
  | 3 => v = .slice yb kb cb
  | 4 => v = .string SI
  | 5 => v = .agg #[.slice x nN cx, .slice y nE cy, .slice z nD cz]
  | 6 => IsBytes u v SI
  | 7 => v = .string SI
  | 8 => v = .bool false
  | 9 => v = .bool false
  | _ => True
def semK16 (x y z yc yP yQ : Option Addr) (cx cy cz nN nE nD kc cc kP cP kQ cQ : Nat) (s SC : ByteArray) : Nat → Value → World → Prop := fun ix v u => match ix with
  | 0 => v = .int .i64 0
  | 1 => v = .bool true
  | 2 => v = .bool true
  | 3 => v = .slice yc kc cc
  | 4 => v = .string SC
  | 5 => v = .agg #[.slice x nN cx, .slice y nE cy, .slice z nD cz]
  | 6 => v = .string s
  | 7 => IsBytes u v SC
  | 8 => v = .string SC
  | 9 => v = .bool true
  | 10 => v = .bool true
  | 11 => v = .bool true
  | 12 => v = .int .i64 0
  | 13 => v = .bool true
  | 14 => v = .bool true
  | 15 => v = .bool true
  | 16 => v = .agg #[.slice yP kP cP, .slice yQ kQ cQ, .slice none 0 0]
  | 17 => v = .agg #[.slice x nN cx, .slice y nE cy, .slice z nD cz]
  | 18 => v = .bool true
  | 19 => v = .bool true
  | 20 => v = .bool true
  | _ => True
set_option maxHeartbeats 32000000 in
theorem lxKeys_any (x y z : Option Addr) (cx cy cz nN nE nD : Nat) (sN sE sD s : ByteArray) (w : World) (hN : IsBytes w (.slice x nN cx) sN) (hE : IsBytes w (.slice y nE cy) sE) (hD : IsBytes w (.slice z nD cz) sD) :
    Calls Try.prog 4 #[.agg #[.slice x nN cx, .slice y nE cy, .slice z nD cz], .string s] w fun e w' => e = .returned (.bool true) ∧ Below w.heap.size w w' := by
  have eN : sN.size = nN := isb_size hN
  have eE : sE.size = nE := isb_size hE
  have eD : sD.size = nD := isb_size hD
  obtain ⟨W1, hW1⟩ : ∃ W, w.alloc (.cells #[.slice x nN cx, .slice y nE cy, .slice z nD cz] 36) = W := ⟨_, rfl⟩
  have hK := keyBox w (.slice x nN cx) (.slice y nE cy) (.slice z nD cz)
  rw [hW1] at hK
  obtain ⟨q, hq⟩ : ∃ q, w.heap.size = q := ⟨_, rfl⟩
  rw [hq] at hK
  have HK := show Hid (KeyBox w W1 q (.slice x nN cx) (.slice y nE cy) (.slice z nD cz)) from hK
  clear hK
  by_cases c1 : nN ≤ 600
  · have i1 : ¬ (600 : Int) < (nN : Int) := by omega
    by_cases c2 : nE ≤ 600
    · have i2 : ¬ (600 : Int) < (nE : Int) := by omega
      by_cases c3 : nD ≤ 600
      · have i3 : ¬ (600 : Int) < (nD : Int) := by omega
        by_cases c4 : s.size ≤ 500
        · have i4 : ¬ (500 : Int) < (s.size : Int) := by omega
          obtain ⟨INF, hINF⟩ : ∃ l, infoL sN.data.toList sE.data.toList = l := ⟨_, rfl⟩
          obtain ⟨CERT, hCERT⟩ : ∃ l, certOf (kindL 11) (holdL s.data.toList) (infoL sN.data.toList sE.data.toList) = l := ⟨_, rfl⟩
          have lN : sN.data.toList.length ≤ 10000 := by rw [len_eq]; omega
          have lE : sE.data.toList.length ≤ 10000 := by rw [len_eq]; omega
          have lD : sD.data.toList.length ≤ 10000 := by rw [len_eq]; omega
          have tN : ∀ S : ByteArray, (⟨S.data.toList.toArray⟩ : ByteArray) = S := fun S => by cases S; simp
          have HC := show Hid (∀ u, Below W1.heap.size W1 u → Calls Try.prog 13 #[.agg #[.slice x nN cx, .slice y nE cy, .slice z nD cz]] u (fun e w' => e = .returned (.bool (decide (rightP sN.data.toList sE.data.toList sD.data.toList))) ∧ Below u.heap.size u w') ∧ Calls Try.prog 14 #[.agg #[.slice x nN cx, .slice y nE cy, .slice z nD cz]] u (Gives u INF) ∧ (s.data.toList.length ≤ 200 → Calls Try.prog 18 #[.agg #[.slice x nN cx, .slice y nE cy, .slice z nD cz], .string s] u (Gives u CERT)) ∧ (∀ (yP yQ : Option Addr) (kP kQ cP cQ : Nat), IsBytes u (.slice yP kP cP) ⟨(bareL sN.data.toList).toArray⟩ → IsBytes u (.slice yQ kQ cQ) ⟨(bareL sE.data.toList).toArray⟩ → Calls Try.prog 16 #[.agg #[.slice yP kP cP, .slice yQ kQ cQ, .slice none 0 0], .agg #[.slice x nN cx, .slice y nE cy, .slice z nD cz]] u (fun e w' => e = .returned (.bool true) ∧ Below u.heap.size u w'))) from fun u hu => by
            have hw := bl2 HK.out.below hu
            have jN := hN.later hw
            have jE := hE.later hw
            have jD := hD.later hw
            have mN : IsBytes u (.slice x nN cx) ⟨sN.data.toList.toArray⟩ := by rw [tN]; exact jN
            have mE : IsBytes u (.slice y nE cy) ⟨sE.data.toList.toArray⟩ := by rw [tN]; exact jE
            refine ⟨?_, ?_, fun h => ?_, fun yP yQ kP kQ cP cQ h1 h2 => lxKey_any x y z yP yQ cx cy cz nN nE nD kP kQ cP cQ sN.data.toList sE.data.toList u mN mE h1 h2 (by omega) (by omega)⟩
            · subst eN eE eD
              exact rrRight_any x y z cx cy cz sN sE sD u jN jE jD (by omega) (by omega) (by omega)
            · rw [← hINF]
              exact rxInfo_any x y z cx cy cz nN nE nD _ _ u mN mE lN lE
            · rw [← hCERT]
              exact rxCert_any x y z cx cy cz nN nE nD _ _ s u mN mE lN lE (by rw [← len_eq]; exact h)
          by_cases hp : rightP sN.data.toList sE.data.toList sD.data.toList
          · have HS := show Hid (sN.data.toList.length ≤ 10000 ∧ sE.data.toList.length ≤ 10000 ∧ bareL sN.data.toList ≠ [] ∧ bareL sE.data.toList ≠ [] ∧ rightP (bareL sN.data.toList) (bareL sE.data.toList) []) from ⟨lN, lE, (right_bare hp).1, (right_bare hp).2, right_pub hp⟩
            have HCI := show Hid (∀ u, Below W1.heap.size W1 u → Calls Try.prog 11 #[.agg #[.slice x nN cx, .slice y nE cy, .slice z nD cz]] u (fun e w' => (∃ v, e = .returned (.tuple #[v, .int .i64 0]) ∧ IsBytes w' v ⟨INF.toArray⟩) ∧ Below u.heap.size u w')) from fun u hu => by
              have hw := bl2 HK.out.below hu
              subst eN eE eD
              refine (dInfoE_any x y z cx cy cz sN sE sD u (hN.later hw) (hE.later hw) (hD.later hw) (by omega) (by omega) (by omega)).mono ?_
              rintro e w' ⟨⟨_, v, h1, h2⟩ | ⟨h1, _⟩, h3⟩
              · exact ⟨⟨v, h1, hINF ▸ h2⟩, h3⟩
              · exact absurd hp h1
            have hd : decide (rightP sN.data.toList sE.data.toList sD.data.toList) = true := decide_eq_true hp
            rw [hd] at HC
            by_cases c5 : s.size ≤ 200
            · have i5 : ¬ (200 : Int) < (s.size : Int) := by omega
              have HS2 := show Hid (s.data.toList.length ≤ 200) from by show s.data.toList.length ≤ 200; rw [len_eq]; exact c5
              have HCC := show Hid (∀ u, Below W1.heap.size W1 u → Calls Try.prog 12 #[.agg #[.slice x nN cx, .slice y nE cy, .slice z nD cz], .string s] u (fun e w' => (∃ v, e = .returned (.tuple #[v, .int .i64 0]) ∧ IsBytes w' v ⟨CERT.toArray⟩) ∧ Below u.heap.size u w')) from fun u hu => by
                have hw := bl2 HK.out.below hu
                subst eN eE eD
                refine (dCert_any x y z cx cy cz sN sE sD s u (hN.later hw) (hE.later hw) (hD.later hw) (by omega) (by omega) (by omega) (by omega)).mono ?_
                rintro e w' ⟨⟨_, _, v, h1, h2⟩ | ⟨h1, _⟩, h3⟩
                · exact ⟨⟨v, h1, hCERT ▸ h2⟩, h3⟩
                · exact absurd ⟨hp, c5⟩ h1
              obtain ⟨SI, hSI⟩ : ∃ S : ByteArray, (⟨INF.toArray⟩ : ByteArray) = S := ⟨_, rfl⟩
              obtain ⟨SC, hSC⟩ : ∃ S : ByteArray, (⟨CERT.toArray⟩ : ByteArray) = S := ⟨_, rfl⟩
              have HT := show Hid ((SI.toList == SI.toList) = true ∧ SI = ⟨INF.toArray⟩ ∧ (SC.toList == SC.toList) = true ∧ SC = ⟨CERT.toArray⟩) from ⟨by simp, hSI.symm, by simp, hSC.symm⟩
              clear hSI hSC
              have HCert := show Hid (certOf (kindL 11) (holdL s.data.toList) (infoL sN.data.toList sE.data.toList) = CERT ∧ infoL sN.data.toList sE.data.toList = INF) from ⟨hCERT, hINF⟩
              clear hN hE hD eN eE eD lN lE lD tN hp hd c1 c2 c3 c4 c5 hINF hCERT
              go_enter Try.func4, Try.ntmps4
              go_wp2_with fail
              refine (lxAwake_any W1).mono ?_
              rintro e w1 ⟨rfl, b1⟩
              obtain ⟨⟨k0, k1, k2⟩, _⟩ := And.intro (HK.out.cells b1) trivial
              have hI := HCI.out w1 b1
              have HB1 := show Hid (Below W1.heap.size W1 w1) from b1
              clear b1 hW1
              go_wp2_with fail
              refine hI.mono ?_
              rintro e w2 ⟨⟨v2, rfl, i2⟩, b2⟩
              obtain ⟨yb, kb, cb, rfl⟩ := isb_open i2
              clear hI k0 k1 k2
              obtain ⟨⟨k0, k1, k2⟩, _⟩ := And.intro (HK.out.cells (bl2 HB1.out b2)) trivial
              have hCt := HCC.out w2 (bl2 HB1.out b2)
              have HB2 := show Hid (Below W1.heap.size W1 w2 ∧ IsBytes w2 (.slice yb kb cb) ⟨INF.toArray⟩) from ⟨bl2 HB1.out b2, i2⟩
              clear b2 i2 HB1
              go_wp2_with fail
              refine hCt.mono ?_
              rintro e w3 ⟨⟨v3, rfl, i3⟩, b3⟩
              obtain ⟨yc, kc, cc, rfl⟩ := isb_open i3
              clear hCt k0 k1 k2
              obtain ⟨⟨k0, k1, k2⟩, _⟩ := And.intro (HK.out.cells (bl2 HB2.out.1 b3)) trivial
              have hRr := (HC.out w3 (bl2 HB2.out.1 b3)).1
              have HB3 := show Hid (Below W1.heap.size W1 w3 ∧ IsBytes w3 (.slice yb kb cb) ⟨INF.toArray⟩ ∧ IsBytes w3 (.slice yc kc cc) ⟨CERT.toArray⟩) from ⟨bl2 HB2.out.1 b3, HB2.out.2.later b3, i3⟩
              clear b3 HB2 i3
              go_wp2_with fail
              refine hRr.mono ?_
              rintro e w4 ⟨rfl, b4⟩
              clear hRr k0 k1 k2
              have HU := show Hid (∀ u, Below w4.heap.size w4 u → (u.cell? ⟨q, 0, none⟩ = some (.slice x nN cx) ∧ u.cell? ⟨q, 1, none⟩ = some (.slice y nE cy) ∧ u.cell? ⟨q, 2, none⟩ = some (.slice z nD cz)) ∧ IsBytes u (.slice yb kb cb) SI ∧ Calls Try.prog 14 #[.agg #[.slice x nN cx, .slice y nE cy, .slice z nD cz]] u (Gives u INF) ∧ Below W1.heap.size W1 u ∧ IsBytes u (.slice yc kc cc) SC) from fun u hu => by
                have h3 := bl2 b4 hu
                have h1 := bl2 HB3.out.1 h3
                refine ⟨HK.out.cells h1, ?_, (HC.out u h1).2.1, h1, ?_⟩
                · rw [HT.out.2.1]
                  exact HB3.out.2.1.later h3
                · rw [HT.out.2.2.2]
                  exact HB3.out.2.2.later h3
              clear b4 HB3
              go_wp2_with fail
              refine free_walk (Sem := semK8 x y z yb cx cy cz nN nE nD kb cb SI) rfl (n := 129) (by kernel_rfl) rfl (by kernel_rfl) ?_ ?_ ?_
              · intro ix v u u' h hb
                match ix, h with
                | 0, h => exact h
                | 1, h => exact h
                | 2, h => exact h
                | 3, h => exact h
                | 4, h => exact h
                | 5, h => exact h
                | 6, h => exact IsBytes.later h hb
                | 7, h => exact h
                | 8, h => exact h
                | 9, h => exact h
                | _ + 10, _ => exact trivial
              · intro ix o a u ho hF hbu
                match ix, ho, hF with
                | 0, ho, hF =>
                  obtain rfl := Option.some.inj ho
                  have h6 : a.tmps[6]? = some (.int .i64 0) := (hF.out 6 rfl).trans rfl
                  refine free_step rfl (by rfl) (fun K' hK => ?_)
                  go_simp
                  exact hK.out _ _ rfl (Below.refl _ _)
                | 1, ho, hF =>
                  obtain rfl := Option.some.inj ho
                  obtain ⟨v71, h71, s71⟩ := hF.dep 0 71 rfl rfl
                  obtain rfl : v71 = .int .i64 0 := s71
                  refine free_step rfl (by rfl) (fun K' hK => ?_)
                  go_simp
                  exact hK.out _ _ rfl (Below.refl _ _)
                | 2, ho, hF =>
                  obtain rfl := Option.some.inj ho
                  obtain ⟨v72, h72, s72⟩ := hF.dep 1 72 rfl rfl
                  obtain rfl : v72 = .bool false := s72
                  refine free_step rfl (by rfl) (fun K' hK => ?_)
                  go_simp
                  exact hK.out _ _ rfl (Below.refl _ _)
                | 3, ho, hF =>
                  obtain rfl := Option.some.inj ho
                  have h5 : a.tmps[5]? = some (.slice yb kb cb) := (hF.out 5 rfl).trans rfl
                  obtain ⟨v73, h73, s73⟩ := hF.dep 2 73 rfl rfl
                  obtain rfl : v73 = .bool false := s73
                  refine free_step rfl (by show (yielded _ a.tmps 2 == some false) = true; unfold yielded; simp [h73]) (fun K' hK => ?_)
                  go_simp
                  exact hK.out _ _ rfl (Below.refl _ _)
                | 4, ho, hF =>
                  obtain rfl := Option.some.inj ho
                  obtain ⟨v74, h74, s74⟩ := hF.dep 3 74 rfl rfl
                  obtain rfl : v74 = .slice yb kb cb := s74
                  obtain ⟨v73, h73, s73⟩ := hF.dep 2 73 rfl rfl
                  obtain rfl : v73 = .bool false := s73
                  have cv := (HU.out u (below_drewA hbu)).2.1.convert
                  refine free_step rfl (by show (yielded _ a.tmps 2 == some false) = true; unfold yielded; simp [h73]) (fun K' hK => ?_)
                  go_simp
                  exact hK.out _ _ rfl (Below.refl _ _)
                | 5, ho, hF =>
                  obtain rfl := Option.some.inj ho
                  have h2 : a.tmps[2]? = some (.pointer (some ⟨q, 0, none⟩)) := (hF.out 2 rfl).trans rfl
                  obtain ⟨v73, h73, s73⟩ := hF.dep 2 73 rfl rfl
                  obtain rfl : v73 = .bool false := s73
                  have g0 := (HU.out u (below_drewA hbu)).1.1
                  have g1 := (HU.out u (below_drewA hbu)).1.2.1
                  have g2 := (HU.out u (below_drewA hbu)).1.2.2
                  refine free_step rfl (by show (yielded _ a.tmps 2 == some false) = true; unfold yielded; simp [h73]) (fun K' hK => ?_)
                  go_simp
                  exact hK.out _ _ rfl (Below.refl _ _)
                | 6, ho, hF =>
                  obtain rfl := Option.some.inj ho
                  obtain ⟨v76, h76, s76⟩ := hF.dep 5 76 rfl rfl
                  obtain rfl : v76 = .agg #[.slice x nN cx, .slice y nE cy, .slice z nD cz] := s76
                  obtain ⟨v73, h73, s73⟩ := hF.dep 2 73 rfl rfl
                  obtain rfl : v73 = .bool false := s73
                  have hc := (HU.out u (below_drewA hbu)).2.2.1
                  refine free_step rfl (by show (yielded _ a.tmps 2 == some false) = true; unfold yielded; simp [h73]) (fun K' hK => ?_)
                  go_wp2_with fail
                  refine hc.mono ?_
                  rintro e u' ⟨⟨v, rfl, ho⟩, hb⟩
                  go_simp
                  exact hK.out _ _ (by rw [HT.out.2.1]; exact ho) hb
                | 7, ho, hF =>
                  obtain rfl := Option.some.inj ho
                  obtain ⟨v77, h77, s77⟩ := hF.dep 6 77 rfl rfl
                  replace s77 : IsBytes u v77 SI := s77
                  obtain ⟨v73, h73, s73⟩ := hF.dep 2 73 rfl rfl
                  obtain rfl : v73 = .bool false := s73
                  have cv := IsBytes.convert s77
                  refine free_step rfl (by show (yielded _ a.tmps 2 == some false) = true; unfold yielded; simp [h73]) (fun K' hK => ?_)
                  go_simp
                  exact hK.out _ _ rfl (Below.refl _ _)
                | 8, ho, hF =>
                  obtain rfl := Option.some.inj ho
                  obtain ⟨v75, h75, s75⟩ := hF.dep 4 75 rfl rfl
                  obtain rfl : v75 = .string SI := s75
                  obtain ⟨v78, h78, s78⟩ := hF.dep 7 78 rfl rfl
                  obtain rfl : v78 = .string SI := s78
                  obtain ⟨v73, h73, s73⟩ := hF.dep 2 73 rfl rfl
                  obtain rfl : v73 = .bool false := s73
                  have tS := HT.out.1
                  refine free_step rfl (by show (yielded _ a.tmps 2 == some false) = true; unfold yielded; simp [h73]) (fun K' hK => ?_)
                  go_simp
                  exact hK.out _ _ rfl (Below.refl _ _)
                | 9, ho, hF =>
                  obtain rfl := Option.some.inj ho
                  obtain ⟨v73, h73, s73⟩ := hF.dep 2 73 rfl rfl
                  obtain rfl : v73 = .bool false := s73
                  obtain ⟨v79, h79, s79⟩ := hF.dep 8 79 rfl rfl
                  obtain rfl : v79 = .bool false := s79
                  refine free_step rfl (by rfl) (fun K' hK => ?_)
                  go_simp
                  exact hK.out _ _ rfl (Below.refl _ _)
                | n + 10, ho, _ => exact absurd (Array.getElem?_eq_some_iff.1 ho).1 (by show ¬ n + 10 < 10; omega)
              · intro vs u hS hbu
                have e9 : vs 9 = (.bool false) := hS 9 80 rfl
                simp only [putFrom, Act.put, List.setIfInBounds_toArray, List.set_cons_succ, List.set_cons_zero, Nat.reduceAdd]
                rw [e9]
                clear hS e9
                generalize vs 0 = z0
                generalize vs 1 = z1
                generalize vs 2 = z2
                generalize vs 3 = z3
                generalize vs 4 = z4
                generalize vs 5 = z5
                generalize vs 6 = z6
                generalize vs 7 = z7
                generalize vs 8 = z8
                have HX2 := show Hid (IsBytes u (.slice yb kb cb) SI ∧ Below W1.heap.size W1 u ∧ IsBytes u (.slice yc kc cc) SC) from ⟨(HU.out u (below_drewA hbu)).2.1, (HU.out u (below_drewA hbu)).2.2.2.1, (HU.out u (below_drewA hbu)).2.2.2.2⟩
                clear hbu HU
                have hPI := xParseInfo_ok (.slice yb kb cb) sN.data.toList sE.data.toList u (by rw [HCert.out.2, ← HT.out.2.1]; exact HX2.out.1) HS.out.1 HS.out.2.1 HS.out.2.2.1 HS.out.2.2.2.1 HS.out.2.2.2.2
                go_wp2_with fail
                refine hPI.mono ?_
                rintro e w6 ⟨⟨yP1, kP1, cP1, yQ1, kQ1, cQ1, rfl, iP, iQ⟩, b6⟩
                clear hPI
                obtain ⟨q2, hq2⟩ : ∃ q, w6.heap.size = q := ⟨_, rfl⟩
                obtain ⟨WA2, hWA2⟩ : ∃ W, w6.alloc (.cells #[.slice yP1 kP1 cP1, .slice yQ1 kQ1 cQ1, .slice none 0 0] 36) = W := ⟨_, rfl⟩
                have kbA2 := keyBox w6 (.slice yP1 kP1 cP1) (.slice yQ1 kQ1 cQ1) (.slice none 0 0)
                rw [hWA2, hq2] at kbA2
                obtain ⟨WB2, hWB2⟩ : ∃ W, WA2.setCell ⟨q2, 2, none⟩ (.slice none 0 0) = W := ⟨_, rfl⟩
                have kbB2 : KeyBox w6 WB2 q2 (.slice yP1 kP1 cP1) (.slice yQ1 kQ1 cQ1) (.slice none 0 0) := by
                  rw [← hWB2]
                  exact ⟨kbA2.below.trans ((keptX_at (ps := [q2]) WA2 (by simp)).below kbA2.below.size (fun p hp => by simp at hp; omega)), kbA2.size, setCell_block (i := 2) (u := .slice none 0 0) kbA2.at0⟩
                have gf2 := block_free 2 kbA2.at0
                have gc2 := block_cell (v := .slice none 0 0) 2 kbA2.at0 rfl
                clear kbA2
                obtain ⟨⟨p0, p1, p2⟩, _⟩ := And.intro (kbB2.cells (Below.refl _ WB2)) trivial
                obtain ⟨⟨k0, k1, k2⟩, _⟩ := And.intro (HK.out.cells (bl2 HX2.out.2.1 (bl2 b6 kbB2.below))) trivial
                have hKy := (HC.out WB2 (bl2 HX2.out.2.1 (bl2 b6 kbB2.below))).2.2.2 yP1 yQ1 kP1 kQ1 cP1 cQ1 (iP.later kbB2.below) (iQ.later kbB2.below)
                have HX3 := show Hid (Below W1.heap.size W1 WB2 ∧ IsBytes WB2 (.slice yc kc cc) SC) from ⟨bl2 HX2.out.2.1 (bl2 b6 kbB2.below), HX2.out.2.2.later (bl2 b6 kbB2.below)⟩
                clear iP iQ b6 kbB2 HX2
                go_wp2_with fail
                refine hKy.mono ?_
                rintro e w7 ⟨rfl, b7⟩
                clear hKy hWA2 hWB2 gf2 gc2 p0 p1 p2 k0 k1 k2
                have HX4 := show Hid (Below W1.heap.size W1 w7 ∧ IsBytes w7 (.slice yc kc cc) SC) from ⟨bl2 HX3.out.1 b7, HX3.out.2.later b7⟩
                clear b7 HX3
                have hFC := xFromCert_ok (.slice yc kc cc) sN.data.toList sE.data.toList s.data.toList w7 (by rw [← certOf_eq, HCert.out.1, ← HT.out.2.2.2]; exact HX4.out.2) HS.out.1 HS.out.2.1 HS.out.2.2.1 HS.out.2.2.2.1 HS.out.2.2.2.2 HS2.out
                go_wp2_with fail
                refine hFC.mono ?_
                rintro e w8 ⟨⟨yP, kP, cP, yQ, kQ, cQ, rfl, iP, iQ⟩, b8⟩
                clear hFC
                obtain ⟨q3, hq3⟩ : ∃ q, w8.heap.size = q := ⟨_, rfl⟩
                obtain ⟨WA3, hWA3⟩ : ∃ W, w8.alloc (.cells #[.slice yP kP cP, .slice yQ kQ cQ, .slice none 0 0] 36) = W := ⟨_, rfl⟩
                have kbA3 := keyBox w8 (.slice yP kP cP) (.slice yQ kQ cQ) (.slice none 0 0)
                rw [hWA3, hq3] at kbA3
                obtain ⟨WB3, hWB3⟩ : ∃ W, WA3.setCell ⟨q3, 2, none⟩ (.slice none 0 0) = W := ⟨_, rfl⟩
                have kbB3 : KeyBox w8 WB3 q3 (.slice yP kP cP) (.slice yQ kQ cQ) (.slice none 0 0) := by
                  rw [← hWB3]
                  exact ⟨kbA3.below.trans ((keptX_at (ps := [q3]) WA3 (by simp)).below kbA3.below.size (fun p hp => by simp at hp; omega)), kbA3.size, setCell_block (i := 2) (u := .slice none 0 0) kbA3.at0⟩
                have gf3 := block_free 2 kbA3.at0
                have gc3 := block_cell (v := .slice none 0 0) 2 kbA3.at0 rfl
                clear kbA3
                obtain ⟨⟨p0, p1, p2⟩, _⟩ := And.intro (kbB3.cells (Below.refl _ WB3)) trivial
                have HU := show Hid (∀ u, Below WB3.heap.size WB3 u → (u.cell? ⟨q, 0, none⟩ = some (.slice x nN cx) ∧ u.cell? ⟨q, 1, none⟩ = some (.slice y nE cy) ∧ u.cell? ⟨q, 2, none⟩ = some (.slice z nD cz)) ∧ IsBytes u (.slice yc kc cc) SC ∧ (u.cell? ⟨q3, 0, none⟩ = some (.slice yP kP cP) ∧ u.cell? ⟨q3, 1, none⟩ = some (.slice yQ kQ cQ) ∧ u.cell? ⟨q3, 2, none⟩ = some (.slice none 0 0)) ∧ Calls Try.prog 18 #[.agg #[.slice x nN cx, .slice y nE cy, .slice z nD cz], .string s] u (Gives u CERT) ∧ Calls Try.prog 16 #[.agg #[.slice yP kP cP, .slice yQ kQ cQ, .slice none 0 0], .agg #[.slice x nN cx, .slice y nE cy, .slice z nD cz]] u (fun e w' => e = .returned (.bool true) ∧ Below u.heap.size u w') ∧ Below w.heap.size w u) from fun u hu => by
                  have h8 := bl2 kbB3.below hu
                  have h1 := bl2 HX4.out.1 (bl2 b8 h8)
                  exact ⟨HK.out.cells h1, HX4.out.2.later (bl2 b8 h8), kbB3.cells hu, (HC.out u h1).2.2.1 HS2.out, (HC.out u h1).2.2.2 yP yQ kP kQ cP cQ (iP.later h8) (iQ.later h8), bl2 HK.out.below h1⟩
                clear iP iQ b8 kbB3 HX4
                go_wp2_with fail
                refine free_walk (Sem := semK16 x y z yc yP yQ cx cy cz nN nE nD kc cc kP cP kQ cQ s SC) rfl (n := 129) (by kernel_rfl) rfl (by kernel_rfl) ?_ ?_ ?_
                · intro ix v u u' h hb
                  match ix, h with
                  | 0, h => exact h
                  | 1, h => exact h
                  | 2, h => exact h
                  | 3, h => exact h
                  | 4, h => exact h
                  | 5, h => exact h
                  | 6, h => exact h
                  | 7, h => exact IsBytes.later h hb
                  | 8, h => exact h
                  | 9, h => exact h
                  | 10, h => exact h
                  | 11, h => exact h
                  | 12, h => exact h
                  | 13, h => exact h
                  | 14, h => exact h
                  | 15, h => exact h
                  | 16, h => exact h
                  | 17, h => exact h
                  | 18, h => exact h
                  | 19, h => exact h
                  | 20, h => exact h
                  | _ + 21, _ => exact trivial
                · intro ix o a u ho hF hbu
                  match ix, ho, hF with
                  | 0, ho, hF =>
                    obtain rfl := Option.some.inj ho
                    have h8 : a.tmps[8]? = some (.int .i64 0) := (hF.out 8 rfl).trans rfl
                    refine free_step rfl (by rfl) (fun K' hK => ?_)
                    go_simp
                    exact hK.out _ _ rfl (Below.refl _ _)
                  | 1, ho, hF =>
                    obtain rfl := Option.some.inj ho
                    obtain ⟨v109, h109, s109⟩ := hF.dep 0 109 rfl rfl
                    obtain rfl : v109 = .int .i64 0 := s109
                    refine free_step rfl (by rfl) (fun K' hK => ?_)
                    go_simp
                    exact hK.out _ _ rfl (Below.refl _ _)
                  | 2, ho, hF =>
                    obtain rfl := Option.some.inj ho
                    obtain ⟨v110, h110, s110⟩ := hF.dep 1 110 rfl rfl
                    obtain rfl : v110 = .bool true := s110
                    refine free_step rfl (by rfl) (fun K' hK => ?_)
                    go_simp
                    exact hK.out _ _ rfl (Below.refl _ _)
                  | 3, ho, hF =>
                    obtain rfl := Option.some.inj ho
                    have h7 : a.tmps[7]? = some (.slice yc kc cc) := (hF.out 7 rfl).trans rfl
                    obtain ⟨v111, h111, s111⟩ := hF.dep 2 111 rfl rfl
                    obtain rfl : v111 = .bool true := s111
                    refine free_step rfl (by show (yielded _ a.tmps 2 == some true) = true; unfold yielded; simp [h111]) (fun K' hK => ?_)
                    go_simp
                    exact hK.out _ _ rfl (Below.refl _ _)
                  | 4, ho, hF =>
                    obtain rfl := Option.some.inj ho
                    obtain ⟨v112, h112, s112⟩ := hF.dep 3 112 rfl rfl
                    obtain rfl : v112 = .slice yc kc cc := s112
                    obtain ⟨v111, h111, s111⟩ := hF.dep 2 111 rfl rfl
                    obtain rfl : v111 = .bool true := s111
                    have cv := (HU.out u (below_drewA hbu)).2.1.convert
                    refine free_step rfl (by show (yielded _ a.tmps 2 == some true) = true; unfold yielded; simp [h111]) (fun K' hK => ?_)
                    go_simp
                    exact hK.out _ _ rfl (Below.refl _ _)
                  | 5, ho, hF =>
                    obtain rfl := Option.some.inj ho
                    have h2 : a.tmps[2]? = some (.pointer (some ⟨q, 0, none⟩)) := (hF.out 2 rfl).trans rfl
                    obtain ⟨v111, h111, s111⟩ := hF.dep 2 111 rfl rfl
                    obtain rfl : v111 = .bool true := s111
                    have g0 := (HU.out u (below_drewA hbu)).1.1
                    have g1 := (HU.out u (below_drewA hbu)).1.2.1
                    have g2 := (HU.out u (below_drewA hbu)).1.2.2
                    refine free_step rfl (by show (yielded _ a.tmps 2 == some true) = true; unfold yielded; simp [h111]) (fun K' hK => ?_)
                    go_simp
                    exact hK.out _ _ rfl (Below.refl _ _)
                  | 6, ho, hF =>
                    obtain rfl := Option.some.inj ho
                    have h1 : a.tmps[1]? = some (.string s) := (hF.out 1 rfl).trans rfl
                    obtain ⟨v111, h111, s111⟩ := hF.dep 2 111 rfl rfl
                    obtain rfl : v111 = .bool true := s111
                    refine free_step rfl (by show (yielded _ a.tmps 2 == some true) = true; unfold yielded; simp [h111]) (fun K' hK => ?_)
                    go_simp
                    exact hK.out _ _ rfl (Below.refl _ _)
                  | 7, ho, hF =>
                    obtain rfl := Option.some.inj ho
                    obtain ⟨v114, h114, s114⟩ := hF.dep 5 114 rfl rfl
                    obtain rfl : v114 = .agg #[.slice x nN cx, .slice y nE cy, .slice z nD cz] := s114
                    obtain ⟨v115, h115, s115⟩ := hF.dep 6 115 rfl rfl
                    obtain rfl : v115 = .string s := s115
                    obtain ⟨v111, h111, s111⟩ := hF.dep 2 111 rfl rfl
                    obtain rfl : v111 = .bool true := s111
                    have hc := (HU.out u (below_drewA hbu)).2.2.2.1
                    refine free_step rfl (by show (yielded _ a.tmps 2 == some true) = true; unfold yielded; simp [h111]) (fun K' hK => ?_)
                    go_wp2_with fail
                    refine hc.mono ?_
                    rintro e u' ⟨⟨v, rfl, ho⟩, hb⟩
                    go_simp
                    exact hK.out _ _ (by rw [HT.out.2.2.2]; exact ho) hb
                  | 8, ho, hF =>
                    obtain rfl := Option.some.inj ho
                    obtain ⟨v116, h116, s116⟩ := hF.dep 7 116 rfl rfl
                    replace s116 : IsBytes u v116 SC := s116
                    obtain ⟨v111, h111, s111⟩ := hF.dep 2 111 rfl rfl
                    obtain rfl : v111 = .bool true := s111
                    have cv := IsBytes.convert s116
                    refine free_step rfl (by show (yielded _ a.tmps 2 == some true) = true; unfold yielded; simp [h111]) (fun K' hK => ?_)
                    go_simp
                    exact hK.out _ _ rfl (Below.refl _ _)
                  | 9, ho, hF =>
                    obtain rfl := Option.some.inj ho
                    obtain ⟨v113, h113, s113⟩ := hF.dep 4 113 rfl rfl
                    obtain rfl : v113 = .string SC := s113
                    obtain ⟨v117, h117, s117⟩ := hF.dep 8 117 rfl rfl
                    obtain rfl : v117 = .string SC := s117
                    obtain ⟨v111, h111, s111⟩ := hF.dep 2 111 rfl rfl
                    obtain rfl : v111 = .bool true := s111
                    have tS := HT.out.2.2.1
                    refine free_step rfl (by show (yielded _ a.tmps 2 == some true) = true; unfold yielded; simp [h111]) (fun K' hK => ?_)
                    go_simp
                    exact hK.out _ _ rfl (Below.refl _ _)
                  | 10, ho, hF =>
                    obtain rfl := Option.some.inj ho
                    obtain ⟨v111, h111, s111⟩ := hF.dep 2 111 rfl rfl
                    obtain rfl : v111 = .bool true := s111
                    obtain ⟨v118, h118, s118⟩ := hF.dep 9 118 rfl rfl
                    obtain rfl : v118 = .bool true := s118
                    refine free_step rfl (by rfl) (fun K' hK => ?_)
                    go_simp
                    exact hK.out _ _ rfl (Below.refl _ _)
                  | 11, ho, hF =>
                    obtain rfl := Option.some.inj ho
                    obtain ⟨v119, h119, s119⟩ := hF.dep 10 119 rfl rfl
                    obtain rfl : v119 = .bool true := s119
                    refine free_step rfl (by rfl) (fun K' hK => ?_)
                    go_simp
                    exact hK.out _ _ rfl (Below.refl _ _)
                  | 12, ho, hF =>
                    obtain rfl := Option.some.inj ho
                    have h13 : a.tmps[13]? = some (.int .i64 0) := (hF.out 13 rfl).trans rfl
                    obtain ⟨v120, h120, s120⟩ := hF.dep 11 120 rfl rfl
                    obtain rfl : v120 = .bool true := s120
                    refine free_step rfl (by show (yielded _ a.tmps 11 == some true) = true; unfold yielded; simp [h120]) (fun K' hK => ?_)
                    go_simp
                    exact hK.out _ _ rfl (Below.refl _ _)
                  | 13, ho, hF =>
                    obtain rfl := Option.some.inj ho
                    obtain ⟨v121, h121, s121⟩ := hF.dep 12 121 rfl rfl
                    obtain rfl : v121 = .int .i64 0 := s121
                    obtain ⟨v120, h120, s120⟩ := hF.dep 11 120 rfl rfl
                    obtain rfl : v120 = .bool true := s120
                    refine free_step rfl (by show (yielded _ a.tmps 11 == some true) = true; unfold yielded; simp [h120]) (fun K' hK => ?_)
                    go_simp
                    exact hK.out _ _ rfl (Below.refl _ _)
                  | 14, ho, hF =>
                    obtain rfl := Option.some.inj ho
                    obtain ⟨v120, h120, s120⟩ := hF.dep 11 120 rfl rfl
                    obtain rfl : v120 = .bool true := s120
                    obtain ⟨v122, h122, s122⟩ := hF.dep 13 122 rfl rfl
                    obtain rfl : v122 = .bool true := s122
                    refine free_step rfl (by rfl) (fun K' hK => ?_)
                    go_simp
                    exact hK.out _ _ rfl (Below.refl _ _)
                  | 15, ho, hF =>
                    obtain rfl := Option.some.inj ho
                    obtain ⟨v123, h123, s123⟩ := hF.dep 14 123 rfl rfl
                    obtain rfl : v123 = .bool true := s123
                    refine free_step rfl (by rfl) (fun K' hK => ?_)
                    go_simp
                    exact hK.out _ _ rfl (Below.refl _ _)
                  | 16, ho, hF =>
                    obtain rfl := Option.some.inj ho
                    have h12 : a.tmps[12]? = some (.pointer (some ⟨q3, 0, none⟩)) := (hF.out 12 rfl).trans rfl
                    obtain ⟨v124, h124, s124⟩ := hF.dep 15 124 rfl rfl
                    obtain rfl : v124 = .bool true := s124
                    have g0 := (HU.out u (below_drewA hbu)).2.2.1.1
                    have g1 := (HU.out u (below_drewA hbu)).2.2.1.2.1
                    have g2 := (HU.out u (below_drewA hbu)).2.2.1.2.2
                    refine free_step rfl (by show (yielded _ a.tmps 15 == some true) = true; unfold yielded; simp [h124]) (fun K' hK => ?_)
                    go_simp
                    exact hK.out _ _ rfl (Below.refl _ _)
                  | 17, ho, hF =>
                    obtain rfl := Option.some.inj ho
                    have h2 : a.tmps[2]? = some (.pointer (some ⟨q, 0, none⟩)) := (hF.out 2 rfl).trans rfl
                    obtain ⟨v124, h124, s124⟩ := hF.dep 15 124 rfl rfl
                    obtain rfl : v124 = .bool true := s124
                    have g0 := (HU.out u (below_drewA hbu)).1.1
                    have g1 := (HU.out u (below_drewA hbu)).1.2.1
                    have g2 := (HU.out u (below_drewA hbu)).1.2.2
                    refine free_step rfl (by show (yielded _ a.tmps 15 == some true) = true; unfold yielded; simp [h124]) (fun K' hK => ?_)
                    go_simp
                    exact hK.out _ _ rfl (Below.refl _ _)
                  | 18, ho, hF =>
                    obtain rfl := Option.some.inj ho
                    obtain ⟨v125, h125, s125⟩ := hF.dep 16 125 rfl rfl
                    obtain rfl : v125 = .agg #[.slice yP kP cP, .slice yQ kQ cQ, .slice none 0 0] := s125
                    obtain ⟨v126, h126, s126⟩ := hF.dep 17 126 rfl rfl
                    obtain rfl : v126 = .agg #[.slice x nN cx, .slice y nE cy, .slice z nD cz] := s126
                    obtain ⟨v124, h124, s124⟩ := hF.dep 15 124 rfl rfl
                    obtain rfl : v124 = .bool true := s124
                    have hc := (HU.out u (below_drewA hbu)).2.2.2.2.1
                    refine free_step rfl (by show (yielded _ a.tmps 15 == some true) = true; unfold yielded; simp [h124]) (fun K' hK => ?_)
                    go_wp2_with fail
                    refine hc.mono ?_
                    rintro e u' ⟨rfl, hb⟩
                    go_simp
                    exact hK.out _ _ rfl hb
                  | 19, ho, hF =>
                    obtain rfl := Option.some.inj ho
                    obtain ⟨v124, h124, s124⟩ := hF.dep 15 124 rfl rfl
                    obtain rfl : v124 = .bool true := s124
                    obtain ⟨v127, h127, s127⟩ := hF.dep 18 127 rfl rfl
                    obtain rfl : v127 = .bool true := s127
                    refine free_step rfl (by rfl) (fun K' hK => ?_)
                    go_simp
                    exact hK.out _ _ rfl (Below.refl _ _)
                  | 20, ho, hF =>
                    obtain rfl := Option.some.inj ho
                    obtain ⟨v128, h128, s128⟩ := hF.dep 19 128 rfl rfl
                    obtain rfl : v128 = .bool true := s128
                    refine free_step rfl (by rfl) (fun K' hK => ?_)
                    go_simp
                    exact hK.out _ _ rfl (Below.refl _ _)
                  | n + 21, ho, _ => exact absurd (Array.getElem?_eq_some_iff.1 ho).1 (by show ¬ n + 21 < 21; omega)
                · intro vs u hS hbu
                  have e20 : vs 20 = (.bool true) := hS 20 4 rfl
                  simp only [putFrom, Act.put, List.setIfInBounds_toArray, List.set_cons_succ, List.set_cons_zero, Nat.reduceAdd]
                  rw [e20]
                  clear hS e20
                  generalize vs 0 = z0
                  generalize vs 1 = z1
                  generalize vs 2 = z2
                  generalize vs 3 = z3
                  generalize vs 4 = z4
                  generalize vs 5 = z5
                  generalize vs 6 = z6
                  generalize vs 7 = z7
                  generalize vs 8 = z8
                  generalize vs 9 = z9
                  generalize vs 10 = z10
                  generalize vs 11 = z11
                  generalize vs 12 = z12
                  generalize vs 13 = z13
                  generalize vs 14 = z14
                  generalize vs 15 = z15
                  generalize vs 16 = z16
                  generalize vs 17 = z17
                  generalize vs 18 = z18
                  generalize vs 19 = z19
                  have HF := show Hid (Below w.heap.size w u) from (HU.out u (below_drewA hbu)).2.2.2.2.2
                  clear hbu HU
                  go_wp2_with fail
                  go_ret
                  exact ⟨rfl, HF.out⟩
            · have i5 : (200 : Int) < (s.size : Int) := by omega
              have HCC := show Hid (∀ u, Below W1.heap.size W1 u → Calls Try.prog 12 #[.agg #[.slice x nN cx, .slice y nE cy, .slice z nD cz], .string s] u (fun e w' => e = .returned (.tuple #[.slice none 0 0, .int .i64 2]) ∧ Below u.heap.size u w')) from fun u hu => by
                have hw := bl2 HK.out.below hu
                subst eN eE eD
                refine (dCert_any x y z cx cy cz sN sE sD s u (hN.later hw) (hE.later hw) (hD.later hw) (by omega) (by omega) (by omega) (by omega)).mono ?_
                rintro e w' ⟨⟨_, h0, _⟩ | ⟨_, h1⟩, h3⟩
                · exact absurd h0 c5
                · exact ⟨h1, h3⟩
              obtain ⟨SI, hSI⟩ : ∃ S : ByteArray, (⟨INF.toArray⟩ : ByteArray) = S := ⟨_, rfl⟩
              obtain ⟨SC, hSC⟩ : ∃ S : ByteArray, (⟨CERT.toArray⟩ : ByteArray) = S := ⟨_, rfl⟩
              have HT := show Hid ((SI.toList == SI.toList) = true ∧ SI = ⟨INF.toArray⟩ ∧ (SC.toList == SC.toList) = true ∧ SC = ⟨CERT.toArray⟩) from ⟨by simp, hSI.symm, by simp, hSC.symm⟩
              clear hSI hSC
              have HCert := show Hid (certOf (kindL 11) (holdL s.data.toList) (infoL sN.data.toList sE.data.toList) = CERT ∧ infoL sN.data.toList sE.data.toList = INF) from ⟨hCERT, hINF⟩
              clear hN hE hD eN eE eD lN lE lD tN hp hd c1 c2 c3 c4 c5 hINF hCERT
              go_enter Try.func4, Try.ntmps4
              go_wp2_with fail
              refine (lxAwake_any W1).mono ?_
              rintro e w1 ⟨rfl, b1⟩
              obtain ⟨⟨k0, k1, k2⟩, _⟩ := And.intro (HK.out.cells b1) trivial
              have hI := HCI.out w1 b1
              have HB1 := show Hid (Below W1.heap.size W1 w1) from b1
              clear b1 hW1
              go_wp2_with fail
              refine hI.mono ?_
              rintro e w2 ⟨⟨v2, rfl, i2⟩, b2⟩
              obtain ⟨yb, kb, cb, rfl⟩ := isb_open i2
              clear hI k0 k1 k2
              obtain ⟨⟨k0, k1, k2⟩, _⟩ := And.intro (HK.out.cells (bl2 HB1.out b2)) trivial
              have hCt := HCC.out w2 (bl2 HB1.out b2)
              have HB2 := show Hid (Below W1.heap.size W1 w2 ∧ IsBytes w2 (.slice yb kb cb) ⟨INF.toArray⟩) from ⟨bl2 HB1.out b2, i2⟩
              clear b2 i2 HB1
              go_wp2_with fail
              refine hCt.mono ?_
              rintro e w3 ⟨rfl, b3⟩
              clear hCt k0 k1 k2
              obtain ⟨⟨k0, k1, k2⟩, _⟩ := And.intro (HK.out.cells (bl2 HB2.out.1 b3)) trivial
              have hRr := (HC.out w3 (bl2 HB2.out.1 b3)).1
              have HB3 := show Hid (Below W1.heap.size W1 w3 ∧ IsBytes w3 (.slice yb kb cb) ⟨INF.toArray⟩) from ⟨bl2 HB2.out.1 b3, HB2.out.2.later b3⟩
              clear b3 HB2
              go_wp2_with fail
              refine hRr.mono ?_
              rintro e w4 ⟨rfl, b4⟩
              clear hRr k0 k1 k2
              have HU := show Hid (∀ u, Below w4.heap.size w4 u → (u.cell? ⟨q, 0, none⟩ = some (.slice x nN cx) ∧ u.cell? ⟨q, 1, none⟩ = some (.slice y nE cy) ∧ u.cell? ⟨q, 2, none⟩ = some (.slice z nD cz)) ∧ IsBytes u (.slice yb kb cb) SI ∧ Calls Try.prog 14 #[.agg #[.slice x nN cx, .slice y nE cy, .slice z nD cz]] u (Gives u INF) ∧ Below W1.heap.size W1 u) from fun u hu => by
                have h3 := bl2 b4 hu
                have h1 := bl2 HB3.out.1 h3
                refine ⟨HK.out.cells h1, ?_, (HC.out u h1).2.1, h1⟩
                · rw [HT.out.2.1]
                  exact HB3.out.2.later h3
              clear b4 HB3
              go_wp2_with fail
              refine free_walk (Sem := semK8 x y z yb cx cy cz nN nE nD kb cb SI) rfl (n := 129) (by kernel_rfl) rfl (by kernel_rfl) ?_ ?_ ?_
              · intro ix v u u' h hb
                match ix, h with
                | 0, h => exact h
                | 1, h => exact h
                | 2, h => exact h
                | 3, h => exact h
                | 4, h => exact h
                | 5, h => exact h
                | 6, h => exact IsBytes.later h hb
                | 7, h => exact h
                | 8, h => exact h
                | 9, h => exact h
                | _ + 10, _ => exact trivial
              · intro ix o a u ho hF hbu
                match ix, ho, hF with
                | 0, ho, hF =>
                  obtain rfl := Option.some.inj ho
                  have h6 : a.tmps[6]? = some (.int .i64 0) := (hF.out 6 rfl).trans rfl
                  refine free_step rfl (by rfl) (fun K' hK => ?_)
                  go_simp
                  exact hK.out _ _ rfl (Below.refl _ _)
                | 1, ho, hF =>
                  obtain rfl := Option.some.inj ho
                  obtain ⟨v71, h71, s71⟩ := hF.dep 0 71 rfl rfl
                  obtain rfl : v71 = .int .i64 0 := s71
                  refine free_step rfl (by rfl) (fun K' hK => ?_)
                  go_simp
                  exact hK.out _ _ rfl (Below.refl _ _)
                | 2, ho, hF =>
                  obtain rfl := Option.some.inj ho
                  obtain ⟨v72, h72, s72⟩ := hF.dep 1 72 rfl rfl
                  obtain rfl : v72 = .bool false := s72
                  refine free_step rfl (by rfl) (fun K' hK => ?_)
                  go_simp
                  exact hK.out _ _ rfl (Below.refl _ _)
                | 3, ho, hF =>
                  obtain rfl := Option.some.inj ho
                  have h5 : a.tmps[5]? = some (.slice yb kb cb) := (hF.out 5 rfl).trans rfl
                  obtain ⟨v73, h73, s73⟩ := hF.dep 2 73 rfl rfl
                  obtain rfl : v73 = .bool false := s73
                  refine free_step rfl (by show (yielded _ a.tmps 2 == some false) = true; unfold yielded; simp [h73]) (fun K' hK => ?_)
                  go_simp
                  exact hK.out _ _ rfl (Below.refl _ _)
                | 4, ho, hF =>
                  obtain rfl := Option.some.inj ho
                  obtain ⟨v74, h74, s74⟩ := hF.dep 3 74 rfl rfl
                  obtain rfl : v74 = .slice yb kb cb := s74
                  obtain ⟨v73, h73, s73⟩ := hF.dep 2 73 rfl rfl
                  obtain rfl : v73 = .bool false := s73
                  have cv := (HU.out u (below_drewA hbu)).2.1.convert
                  refine free_step rfl (by show (yielded _ a.tmps 2 == some false) = true; unfold yielded; simp [h73]) (fun K' hK => ?_)
                  go_simp
                  exact hK.out _ _ rfl (Below.refl _ _)
                | 5, ho, hF =>
                  obtain rfl := Option.some.inj ho
                  have h2 : a.tmps[2]? = some (.pointer (some ⟨q, 0, none⟩)) := (hF.out 2 rfl).trans rfl
                  obtain ⟨v73, h73, s73⟩ := hF.dep 2 73 rfl rfl
                  obtain rfl : v73 = .bool false := s73
                  have g0 := (HU.out u (below_drewA hbu)).1.1
                  have g1 := (HU.out u (below_drewA hbu)).1.2.1
                  have g2 := (HU.out u (below_drewA hbu)).1.2.2
                  refine free_step rfl (by show (yielded _ a.tmps 2 == some false) = true; unfold yielded; simp [h73]) (fun K' hK => ?_)
                  go_simp
                  exact hK.out _ _ rfl (Below.refl _ _)
                | 6, ho, hF =>
                  obtain rfl := Option.some.inj ho
                  obtain ⟨v76, h76, s76⟩ := hF.dep 5 76 rfl rfl
                  obtain rfl : v76 = .agg #[.slice x nN cx, .slice y nE cy, .slice z nD cz] := s76
                  obtain ⟨v73, h73, s73⟩ := hF.dep 2 73 rfl rfl
                  obtain rfl : v73 = .bool false := s73
                  have hc := (HU.out u (below_drewA hbu)).2.2.1
                  refine free_step rfl (by show (yielded _ a.tmps 2 == some false) = true; unfold yielded; simp [h73]) (fun K' hK => ?_)
                  go_wp2_with fail
                  refine hc.mono ?_
                  rintro e u' ⟨⟨v, rfl, ho⟩, hb⟩
                  go_simp
                  exact hK.out _ _ (by rw [HT.out.2.1]; exact ho) hb
                | 7, ho, hF =>
                  obtain rfl := Option.some.inj ho
                  obtain ⟨v77, h77, s77⟩ := hF.dep 6 77 rfl rfl
                  replace s77 : IsBytes u v77 SI := s77
                  obtain ⟨v73, h73, s73⟩ := hF.dep 2 73 rfl rfl
                  obtain rfl : v73 = .bool false := s73
                  have cv := IsBytes.convert s77
                  refine free_step rfl (by show (yielded _ a.tmps 2 == some false) = true; unfold yielded; simp [h73]) (fun K' hK => ?_)
                  go_simp
                  exact hK.out _ _ rfl (Below.refl _ _)
                | 8, ho, hF =>
                  obtain rfl := Option.some.inj ho
                  obtain ⟨v75, h75, s75⟩ := hF.dep 4 75 rfl rfl
                  obtain rfl : v75 = .string SI := s75
                  obtain ⟨v78, h78, s78⟩ := hF.dep 7 78 rfl rfl
                  obtain rfl : v78 = .string SI := s78
                  obtain ⟨v73, h73, s73⟩ := hF.dep 2 73 rfl rfl
                  obtain rfl : v73 = .bool false := s73
                  have tS := HT.out.1
                  refine free_step rfl (by show (yielded _ a.tmps 2 == some false) = true; unfold yielded; simp [h73]) (fun K' hK => ?_)
                  go_simp
                  exact hK.out _ _ rfl (Below.refl _ _)
                | 9, ho, hF =>
                  obtain rfl := Option.some.inj ho
                  obtain ⟨v73, h73, s73⟩ := hF.dep 2 73 rfl rfl
                  obtain rfl : v73 = .bool false := s73
                  obtain ⟨v79, h79, s79⟩ := hF.dep 8 79 rfl rfl
                  obtain rfl : v79 = .bool false := s79
                  refine free_step rfl (by rfl) (fun K' hK => ?_)
                  go_simp
                  exact hK.out _ _ rfl (Below.refl _ _)
                | n + 10, ho, _ => exact absurd (Array.getElem?_eq_some_iff.1 ho).1 (by show ¬ n + 10 < 10; omega)
              · intro vs u hS hbu
                have e9 : vs 9 = (.bool false) := hS 9 80 rfl
                simp only [putFrom, Act.put, List.setIfInBounds_toArray, List.set_cons_succ, List.set_cons_zero, Nat.reduceAdd]
                rw [e9]
                clear hS e9
                generalize vs 0 = z0
                generalize vs 1 = z1
                generalize vs 2 = z2
                generalize vs 3 = z3
                generalize vs 4 = z4
                generalize vs 5 = z5
                generalize vs 6 = z6
                generalize vs 7 = z7
                generalize vs 8 = z8
                have HX2 := show Hid (IsBytes u (.slice yb kb cb) SI ∧ Below W1.heap.size W1 u) from ⟨(HU.out u (below_drewA hbu)).2.1, (HU.out u (below_drewA hbu)).2.2.2⟩
                clear hbu HU
                have hPI := xParseInfo_ok (.slice yb kb cb) sN.data.toList sE.data.toList u (by rw [HCert.out.2, ← HT.out.2.1]; exact HX2.out.1) HS.out.1 HS.out.2.1 HS.out.2.2.1 HS.out.2.2.2.1 HS.out.2.2.2.2
                go_wp2_with fail
                refine hPI.mono ?_
                rintro e w6 ⟨⟨yP1, kP1, cP1, yQ1, kQ1, cQ1, rfl, iP, iQ⟩, b6⟩
                clear hPI
                obtain ⟨q2, hq2⟩ : ∃ q, w6.heap.size = q := ⟨_, rfl⟩
                obtain ⟨WA2, hWA2⟩ : ∃ W, w6.alloc (.cells #[.slice yP1 kP1 cP1, .slice yQ1 kQ1 cQ1, .slice none 0 0] 36) = W := ⟨_, rfl⟩
                have kbA2 := keyBox w6 (.slice yP1 kP1 cP1) (.slice yQ1 kQ1 cQ1) (.slice none 0 0)
                rw [hWA2, hq2] at kbA2
                obtain ⟨WB2, hWB2⟩ : ∃ W, WA2.setCell ⟨q2, 2, none⟩ (.slice none 0 0) = W := ⟨_, rfl⟩
                have kbB2 : KeyBox w6 WB2 q2 (.slice yP1 kP1 cP1) (.slice yQ1 kQ1 cQ1) (.slice none 0 0) := by
                  rw [← hWB2]
                  exact ⟨kbA2.below.trans ((keptX_at (ps := [q2]) WA2 (by simp)).below kbA2.below.size (fun p hp => by simp at hp; omega)), kbA2.size, setCell_block (i := 2) (u := .slice none 0 0) kbA2.at0⟩
                have gf2 := block_free 2 kbA2.at0
                have gc2 := block_cell (v := .slice none 0 0) 2 kbA2.at0 rfl
                clear kbA2
                obtain ⟨⟨p0, p1, p2⟩, _⟩ := And.intro (kbB2.cells (Below.refl _ WB2)) trivial
                obtain ⟨⟨k0, k1, k2⟩, _⟩ := And.intro (HK.out.cells (bl2 HX2.out.2 (bl2 b6 kbB2.below))) trivial
                have hKy := (HC.out WB2 (bl2 HX2.out.2 (bl2 b6 kbB2.below))).2.2.2 yP1 yQ1 kP1 kQ1 cP1 cQ1 (iP.later kbB2.below) (iQ.later kbB2.below)
                have HX3 := show Hid (Below W1.heap.size W1 WB2) from bl2 HX2.out.2 (bl2 b6 kbB2.below)
                clear iP iQ b6 kbB2 HX2
                go_wp2_with fail
                refine hKy.mono ?_
                rintro e w7 ⟨rfl, b7⟩
                clear hKy hWA2 hWB2 gf2 gc2 p0 p1 p2 k0 k1 k2
                have HX4 := show Hid (Below W1.heap.size W1 w7) from bl2 HX3.out b7
                clear b7 HX3
                go_wp2_with fail
                go_ret
                exact ⟨rfl, bl2 HK.out.below HX4.out⟩
          · have hd : decide (rightP sN.data.toList sE.data.toList sD.data.toList) = false := decide_eq_false hp
            rw [hd] at HC
            have HCI := show Hid (∀ u, Below W1.heap.size W1 u → Calls Try.prog 11 #[.agg #[.slice x nN cx, .slice y nE cy, .slice z nD cz]] u (fun e w' => e = .returned (.tuple #[.slice none 0 0, .int .i64 2]) ∧ Below u.heap.size u w')) from fun u hu => by
              have hw := bl2 HK.out.below hu
              subst eN eE eD
              refine (dInfoE_any x y z cx cy cz sN sE sD u (hN.later hw) (hE.later hw) (hD.later hw) (by omega) (by omega) (by omega)).mono ?_
              rintro e w' ⟨⟨h0, _⟩ | ⟨_, h1⟩, h3⟩
              · exact absurd h0 hp
              · exact ⟨h1, h3⟩
            have HCC := show Hid (∀ u, Below W1.heap.size W1 u → Calls Try.prog 12 #[.agg #[.slice x nN cx, .slice y nE cy, .slice z nD cz], .string s] u (fun e w' => e = .returned (.tuple #[.slice none 0 0, .int .i64 2]) ∧ Below u.heap.size u w')) from fun u hu => by
              have hw := bl2 HK.out.below hu
              subst eN eE eD
              refine (dCert_any x y z cx cy cz sN sE sD s u (hN.later hw) (hE.later hw) (hD.later hw) (by omega) (by omega) (by omega) (by omega)).mono ?_
              rintro e w' ⟨⟨h0, _⟩ | ⟨_, h1⟩, h3⟩
              · exact absurd h0 hp
              · exact ⟨h1, h3⟩
            clear hN hE hD eN eE eD lN lE lD tN hp hd c1 c2 c3 c4 hINF hCERT
            go_enter Try.func4, Try.ntmps4
            go_wp2_with fail
            refine (lxAwake_any W1).mono ?_
            rintro e w1 ⟨rfl, b1⟩
            obtain ⟨⟨k0, k1, k2⟩, _⟩ := And.intro (HK.out.cells b1) trivial
            have hI := HCI.out w1 b1
            have HB1 := show Hid (Below W1.heap.size W1 w1) from b1
            clear b1 hW1
            go_wp2_with fail
            refine hI.mono ?_
            rintro e w2 ⟨rfl, b2⟩
            clear hI k0 k1 k2
            obtain ⟨⟨k0, k1, k2⟩, _⟩ := And.intro (HK.out.cells (bl2 HB1.out b2)) trivial
            have hCt := HCC.out w2 (bl2 HB1.out b2)
            have HB2 := show Hid (Below W1.heap.size W1 w2) from bl2 HB1.out b2
            clear b2 HB1
            go_wp2_with fail
            refine hCt.mono ?_
            rintro e w3 ⟨rfl, b3⟩
            clear hCt k0 k1 k2
            obtain ⟨⟨k0, k1, k2⟩, _⟩ := And.intro (HK.out.cells (bl2 HB2.out b3)) trivial
            have hRr := (HC.out w3 (bl2 HB2.out b3)).1
            have HB3 := show Hid (Below W1.heap.size W1 w3) from bl2 HB2.out b3
            clear b3 HB2
            go_wp2_with fail
            refine hRr.mono ?_
            rintro e w4 ⟨rfl, b4⟩
            have HF := show Hid (Below w.heap.size w w4) from bl2 HK.out.below (bl2 HB3.out b4)
            clear hRr k0 k1 k2 b4
            go_wp2_with fail
            go_ret
            exact ⟨rfl, HF.out⟩
        · have i4 : (500 : Int) < (s.size : Int) := by omega
          clear eN eE eD c1 c2 c3 c4
          clear hN hE hD
          go_enter Try.func4, Try.ntmps4
          go_wp2_with fail
          refine (lxAwake_any W1).mono ?_
          rintro e w1 ⟨rfl, b1⟩
          obtain ⟨⟨k0, k1, k2⟩, _⟩ := And.intro (HK.out.cells b1) trivial
          have HB := show Hid (Below w.heap.size w w1) from bl2 HK.out.below b1
          clear b1 hW1
          go_wp2_with fail
          refine (lxAwake_any w1).mono ?_
          rintro e w2 ⟨rfl, b2⟩
          have HF := show Hid (Below w.heap.size w w2) from bl2 HB.out b2
          clear b2
          go_wp2_with fail
          go_ret
          exact ⟨rfl, HF.out⟩
      · have i3 : (600 : Int) < (nD : Int) := by omega
        clear eN eE eD c1 c2 c3
        clear hN hE hD
        go_enter Try.func4, Try.ntmps4
        go_wp2_with fail
        refine (lxAwake_any W1).mono ?_
        rintro e w1 ⟨rfl, b1⟩
        obtain ⟨⟨k0, k1, k2⟩, _⟩ := And.intro (HK.out.cells b1) trivial
        have HB := show Hid (Below w.heap.size w w1) from bl2 HK.out.below b1
        clear b1 hW1
        go_wp2_with fail
        refine (lxAwake_any w1).mono ?_
        rintro e w2 ⟨rfl, b2⟩
        have HF := show Hid (Below w.heap.size w w2) from bl2 HB.out b2
        clear b2
        go_wp2_with fail
        go_ret
        exact ⟨rfl, HF.out⟩
    · have i2 : (600 : Int) < (nE : Int) := by omega
      clear eN eE eD c1 c2
      clear hN hE hD
      go_enter Try.func4, Try.ntmps4
      go_wp2_with fail
      refine (lxAwake_any W1).mono ?_
      rintro e w1 ⟨rfl, b1⟩
      obtain ⟨⟨k0, k1, k2⟩, _⟩ := And.intro (HK.out.cells b1) trivial
      have HB := show Hid (Below w.heap.size w w1) from bl2 HK.out.below b1
      clear b1 hW1
      go_wp2_with fail
      refine (lxAwake_any w1).mono ?_
      rintro e w2 ⟨rfl, b2⟩
      have HF := show Hid (Below w.heap.size w w2) from bl2 HB.out b2
      clear b2
      go_wp2_with fail
      go_ret
      exact ⟨rfl, HF.out⟩
  · have i1 : (600 : Int) < (nN : Int) := by omega
    clear eN eE eD c1
    clear hN hE hD
    go_enter Try.func4, Try.ntmps4
    go_wp2_with fail
    refine (lxAwake_any W1).mono ?_
    rintro e w1 ⟨rfl, b1⟩
    obtain ⟨⟨k0, k1, k2⟩, _⟩ := And.intro (HK.out.cells b1) trivial
    have HB := show Hid (Below w.heap.size w w1) from bl2 HK.out.below b1
    clear b1 hW1
    go_wp2_with fail
    refine (lxAwake_any w1).mono ?_
    rintro e w2 ⟨rfl, b2⟩
    have HF := show Hid (Below w.heap.size w w2) from bl2 HB.out b2
    clear b2
    go_wp2_with fail
    go_ret
    exact ⟨rfl, HF.out⟩
end Go.Proofs.Ythdoginhbhdmbaa
