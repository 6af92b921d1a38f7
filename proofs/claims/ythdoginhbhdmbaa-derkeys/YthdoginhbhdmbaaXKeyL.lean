/-
  Package der's Info; the law's key.
-/
import Derived.Test.YthdoginhbhdmbaaXParseEtc
import Derived.Test.YthdoginhbhdmbaaXRInf
namespace Go.Proofs.Ythdoginhbhdmbaa
open Go.RowKit Ch
set_option maxRecDepth 100000

theorem digOfV (l : List UInt8) (v : Value) (w : World) (h : IsBytes w v ⟨l.toArray⟩) (hl : l.length ≤ 1000000) : Calls Try.prog 31 #[v] w fun e w' => (∃ v, e = .returned v ∧ IsD l.length w' v (numB l)) ∧ Below w.heap.size w w' := by
  obtain ⟨y, c, rfl⟩ := isb_shape h
  have hz : (⟨l.toArray⟩ : ByteArray).size = l.length := size_of_list l
  have := digOf y c ⟨l.toArray⟩ w (by rw [hz]; exact h) (by rw [hz]; exact hl)
  rw [hz] at this
  exact this
theorem dBytesV (l : List UInt8) (v : Value) (w : World) (h : IsD l.length w v (numB l)) (hl : l.length ≤ 1000000) : Calls Try.prog 39 #[v] w (Gives w (bareL l)) := by
  refine (dBytes_any l.length v (numB l) w h hl).mono ?_
  rintro e w' ⟨⟨x, rfl, R, y, c, rfl, hI, hR, hN⟩, hb⟩
  have e1 : R = bareL l := numB_inj hR (bare_bare _) (hN.trans (numB_bare _).symm)
  subst e1
  exact ⟨⟨_, rfl, hI⟩, hb⟩
theorem right_bare {N E D : List UInt8} (h : rightP N E D) : bareL N ≠ [] ∧ bareL E ≠ [] := by
  refine ⟨fun h0 => ?_, fun h0 => ?_⟩
  · have := h.1.1
    rw [h0] at this
    simp at this
  · have h9 := h.2.2.2.1
    rw [← numB_bare, h0] at h9
    exact h9 (by decide)
theorem bare_bareR (l : List UInt8) : bareL (bareL l) = bareL l := bare_bare l
theorem right_pub {N E D : List UInt8} (h : rightP N E D) : rightP (bareL N) (bareL E) [] := by
  obtain ⟨h1, h2, h3, h4, h5, _⟩ := h
  refine ⟨by rw [bare_bareR]; exact h1, by rw [numB_bare]; exact h2, by rw [numB_bare]; exact h3, by rw [numB_bare]; exact h4, by rw [numB_bare, numB_bare]; exact h5, ?_⟩
  rw [numB_bare]
  have : numB ([] : List UInt8) = 0 := rfl
  omega
set_option maxHeartbeats 4000000 in
theorem dInfoE_any (x y z : Option Addr) (cx cy cz : Nat) (sN sE sD : ByteArray) (w : World) (hN : IsBytes w (.slice x sN.size cx) sN) (hE : IsBytes w (.slice y sE.size cy) sE) (hD : IsBytes w (.slice z sD.size cz) sD) (lN : sN.size ≤ 10000) (lE : sE.size ≤ 10000) (lD : sD.size ≤ 10000) :
    Calls Try.prog 11 #[.agg #[.slice x sN.size cx, .slice y sE.size cy, .slice z sD.size cz]] w fun e w' => ((rightP sN.data.toList sE.data.toList sD.data.toList ∧ ∃ v, e = .returned (.tuple #[v, .int .i64 0]) ∧ IsBytes w' v ⟨(infoL sN.data.toList sE.data.toList).toArray⟩) ∨ (¬ rightP sN.data.toList sE.data.toList sD.data.toList ∧ e = .returned (.tuple #[.slice none 0 0, .int .i64 2]))) ∧ Below w.heap.size w w' := by
  obtain ⟨W1, hW1⟩ : ∃ W, w.alloc (.cells #[.slice x sN.size cx, .slice y sE.size cy, .slice z sD.size cz] 36) = W := ⟨_, rfl⟩
  have hK := keyBox w (.slice x sN.size cx) (.slice y sE.size cy) (.slice z sD.size cz)
  rw [hW1] at hK
  obtain ⟨q, hq⟩ : ∃ q, w.heap.size = q := ⟨_, rfl⟩
  rw [hq] at hK
  have hR := rRight_any x y z cx cy cz sN sE sD W1 (hN.later hK.below) (hE.later hK.below) (hD.later hK.below) (by omega) (by omega) (by omega)
  have HK := show Hid (KeyBox w W1 q (.slice x sN.size cx) (.slice y sE.size cy) (.slice z sD.size cz)) from hK
  obtain ⟨⟨k0, k1, k2⟩, _⟩ := And.intro (hK.cells (Below.refl _ W1)) trivial
  by_cases hp : rightP sN.data.toList sE.data.toList sD.data.toList
  · rw [decide_eq_true hp] at hR
    have HP := show Hid (rightP sN.data.toList sE.data.toList sD.data.toList) from hp
    have HS := show Hid (∀ u, Below W1.heap.size W1 u → Calls Try.prog 27 #[.agg #[.slice x sN.size cx, .slice y sE.size cy, .slice z sD.size cz]] u (Gives u (infoL sN.data.toList sE.data.toList))) from fun u hu => by
      have huw := bl2 hK.below hu
      exact dInfo_any x y z cx cy cz _ _ _ sN.data.toList sE.data.toList u (hN.later huw) (hE.later huw) (by rw [len_eq]; exact lN) (by rw [len_eq]; exact lE) (right_bare hp).1 (right_bare hp).2
    clear hK hN hE hD lN lE lD hp
    go_enter Try.func11, Try.ntmps11
    go_wp2_with fail
    refine hR.mono ?_
    rintro e w1 ⟨rfl, b1⟩
    clear hR hW1 k0 k1 k2
    obtain ⟨⟨k0, k1, k2⟩, _⟩ := And.intro (HK.out.cells b1) trivial
    have hI := HS.out w1 b1
    have HB := show Hid (Below w.heap.size w w1) from bl2 HK.out.below b1
    clear b1
    go_wp2_with fail
    refine hI.mono ?_
    rintro e w2 ⟨⟨v2, rfl, i2⟩, b2⟩
    have HF := show Hid (IsBytes w2 v2 ⟨(infoL sN.data.toList sE.data.toList).toArray⟩ ∧ Below w.heap.size w w2) from ⟨i2, bl2 HB.out b2⟩
    clear hI i2 b2
    go_wp2_with fail
    go_ret2
    exact ⟨.inl ⟨HP.out, _, rfl, HF.out.1⟩, HF.out.2⟩
  · rw [decide_eq_false hp] at hR
    have HP := show Hid (¬ rightP sN.data.toList sE.data.toList sD.data.toList) from hp
    clear hK hN hE hD hp
    go_enter Try.func11, Try.ntmps11
    go_wp2_with fail
    refine hR.mono ?_
    rintro e w1 ⟨rfl, b1⟩
    have HF := show Hid (Below w.heap.size w w1) from bl2 HK.out.below b1
    clear hR b1 hW1
    go_wp2_with fail
    go_ret2
    exact ⟨.inr ⟨HP.out, rfl⟩, HF.out⟩
def semLK (x y yN yE : Option Addr) (cx cy nN nE kN kE cN cE q r : Nat) (N E : List UInt8) (SN SE : ByteArray) : Nat → Value → World → Prop := fun ix v u => match ix with
  | 0 => v = .pointer (some ⟨q, 0, none⟩)
  | 1 => v = .slice yN kN cN
  | 2 => v = .string SN
  | 3 => v = .pointer (some ⟨r, 0, none⟩)
  | 4 => v = .slice x nN cx
  | 5 => IsD (N.length) u v (numB N)
  | 6 => IsBytes u v SN
  | 7 => v = .string SN
  | 8 => v = .bool true
  | 9 => v = .bool true
  | 10 => v = .pointer (some ⟨q, 1, none⟩)
  | 11 => v = .slice yE kE cE
  | 12 => v = .string SE
  | 13 => v = .pointer (some ⟨r, 1, none⟩)
  | 14 => v = .slice y nE cy
  | 15 => IsD (E.length) u v (numB E)
  | 16 => IsBytes u v SE
  | 17 => v = .string SE
  | 18 => v = .bool true
  | 19 => v = .bool true
  | 20 => v = .bool true
  | 21 => v = .pointer (some ⟨q, 2, none⟩)
  | 22 => v = .slice none 0 0
  | 23 => v = .int .i64 0
  | 24 => v = .bool true
  | 25 => v = .bool true
  | 26 => v = .bool true
  | _ => True
set_option maxHeartbeats 8000000 in
theorem lxKey_any (x y z yN yE : Option Addr) (cx cy cz nN nE nD kN kE cN cE : Nat) (N E : List UInt8) (w : World) (hN : IsBytes w (.slice x nN cx) ⟨N.toArray⟩) (hE : IsBytes w (.slice y nE cy) ⟨E.toArray⟩) (bN : IsBytes w (.slice yN kN cN) ⟨(bareL N).toArray⟩) (bE : IsBytes w (.slice yE kE cE) ⟨(bareL E).toArray⟩) (lN : N.length ≤ 1000000) (lE : E.length ≤ 1000000) :
    Calls Try.prog 16 #[.agg #[.slice yN kN cN, .slice yE kE cE, .slice none 0 0], .agg #[.slice x nN cx, .slice y nE cy, .slice z nD cz]] w fun e w' => e = .returned (.bool true) ∧ Below w.heap.size w w' := by
  obtain ⟨W1, hW1⟩ : ∃ W, w.alloc (.cells #[.slice yN kN cN, .slice yE kE cE, .slice none 0 0] 36) = W := ⟨_, rfl⟩
  have hK := keyBox w (.slice yN kN cN) (.slice yE kE cE) (.slice none 0 0)
  rw [hW1] at hK
  obtain ⟨W2, hW2⟩ : ∃ W, W1.alloc (.cells #[.slice x nN cx, .slice y nE cy, .slice z nD cz] 36) = W := ⟨_, rfl⟩
  have hK2 := keyBox W1 (.slice x nN cx) (.slice y nE cy) (.slice z nD cz)
  rw [hW2] at hK2
  obtain ⟨q, hq⟩ : ∃ q, w.heap.size = q := ⟨_, rfl⟩
  obtain ⟨r, hr⟩ : ∃ q, W1.heap.size = q := ⟨_, rfl⟩
  rw [hq] at hK
  rw [hr] at hK2
  obtain ⟨SN, hSN⟩ : ∃ S : ByteArray, (⟨(bareL N).toArray⟩ : ByteArray) = S := ⟨_, rfl⟩
  obtain ⟨SE, hSE⟩ : ∃ S : ByteArray, (⟨(bareL E).toArray⟩ : ByteArray) = S := ⟨_, rfl⟩
  have HL := show Hid (N.length ≤ 1000000 ∧ E.length ≤ 1000000 ∧ (SN.toList == SN.toList) = true ∧ (SE.toList == SE.toList) = true ∧ SN = ⟨(bareL N).toArray⟩ ∧ SE = ⟨(bareL E).toArray⟩) from ⟨lN, lE, by simp, by simp, hSN.symm, hSE.symm⟩
  have HU := show Hid (∀ u, Below W2.heap.size W2 u → (u.cell? ⟨q, 0, none⟩ = some (.slice yN kN cN) ∧ u.cell? ⟨q, 1, none⟩ = some (.slice yE kE cE) ∧ u.cell? ⟨q, 2, none⟩ = some (.slice none 0 0)) ∧ (u.cell? ⟨r, 0, none⟩ = some (.slice x nN cx) ∧ u.cell? ⟨r, 1, none⟩ = some (.slice y nE cy)) ∧ (IsBytes u (.slice yN kN cN) SN ∧ IsBytes u (.slice yE kE cE) SE) ∧ (IsBytes u (.slice x nN cx) ⟨N.toArray⟩ ∧ IsBytes u (.slice y nE cy) ⟨E.toArray⟩) ∧ Below w.heap.size w u) from fun u hu => by
    have h1 := bl2 hK2.below hu
    have h2 := bl2 hK.below h1
    refine ⟨hK.cells h1, ⟨(hK2.cells hu).1, (hK2.cells hu).2.1⟩, ⟨?_, ?_⟩, ⟨hN.later h2, hE.later h2⟩, h2⟩
    · rw [← hSN]
      exact bN.later h2
    · rw [← hSE]
      exact bE.later h2
  clear hK hK2 hSN hSE hN hE bN bE lN lE
  go_enter Try.func16, Try.ntmps16
  go_wp2_with fail
  refine free_walk (Sem := semLK x y yN yE cx cy nN nE kN kE cN cE q r N E SN SE) rfl (n := 31) (by kernel_rfl) rfl (by kernel_rfl) ?_ ?_ ?_
  · intro ix v u u' h hb
    match ix, h with
    | 0, h => exact h
    | 1, h => exact h
    | 2, h => exact h
    | 3, h => exact h
    | 4, h => exact h
    | 5, h => exact IsD.later h hb
    | 6, h => exact IsBytes.later h hb
    | 7, h => exact h
    | 8, h => exact h
    | 9, h => exact h
    | 10, h => exact h
    | 11, h => exact h
    | 12, h => exact h
    | 13, h => exact h
    | 14, h => exact h
    | 15, h => exact IsD.later h hb
    | 16, h => exact IsBytes.later h hb
    | 17, h => exact h
    | 18, h => exact h
    | 19, h => exact h
    | 20, h => exact h
    | 21, h => exact h
    | 22, h => exact h
    | 23, h => exact h
    | 24, h => exact h
    | 25, h => exact h
    | 26, h => exact h
    | _ + 27, _ => exact trivial
  · intro ix o a u ho hF hbu
    match ix, ho, hF with
    | 0, ho, hF =>
      obtain rfl := Option.some.inj ho
      have h2 : a.tmps[2]? = some (.pointer (some ⟨q, 0, none⟩)) := (hF.out 2 rfl).trans rfl
      refine free_step rfl (by rfl) (fun K' hK => ?_)
      go_simp
      exact hK.out _ _ rfl (Below.refl _ _)
    | 1, ho, hF =>
      obtain rfl := Option.some.inj ho
      obtain ⟨v5, h5, s5⟩ := hF.dep 0 5 rfl rfl
      obtain rfl : v5 = .pointer (some ⟨q, 0, none⟩) := s5
      have g0 := (HU.out u (below_drewA hbu)).1.1
      refine free_step rfl (by rfl) (fun K' hK => ?_)
      go_simp
      exact hK.out _ _ rfl (Below.refl _ _)
    | 2, ho, hF =>
      obtain rfl := Option.some.inj ho
      obtain ⟨v6, h6, s6⟩ := hF.dep 1 6 rfl rfl
      obtain rfl : v6 = .slice yN kN cN := s6
      have cv := (HU.out u (below_drewA hbu)).2.2.1.1.convert
      refine free_step rfl (by rfl) (fun K' hK => ?_)
      go_simp
      exact hK.out _ _ rfl (Below.refl _ _)
    | 3, ho, hF =>
      obtain rfl := Option.some.inj ho
      have h3 : a.tmps[3]? = some (.pointer (some ⟨r, 0, none⟩)) := (hF.out 3 rfl).trans rfl
      refine free_step rfl (by rfl) (fun K' hK => ?_)
      go_simp
      exact hK.out _ _ rfl (Below.refl _ _)
    | 4, ho, hF =>
      obtain rfl := Option.some.inj ho
      obtain ⟨v8, h8, s8⟩ := hF.dep 3 8 rfl rfl
      obtain rfl : v8 = .pointer (some ⟨r, 0, none⟩) := s8
      have g0 := (HU.out u (below_drewA hbu)).2.1.1
      refine free_step rfl (by rfl) (fun K' hK => ?_)
      go_simp
      exact hK.out _ _ rfl (Below.refl _ _)
    | 5, ho, hF =>
      obtain rfl := Option.some.inj ho
      obtain ⟨v9, h9, s9⟩ := hF.dep 4 9 rfl rfl
      obtain rfl : v9 = .slice x nN cx := s9
      have hc := digOfV N _ u (HU.out u (below_drewA hbu)).2.2.2.1.1 HL.out.1
      refine free_step rfl (by rfl) (fun K' hK => ?_)
      go_wp2_with fail
      refine hc.mono ?_
      rintro e u' ⟨⟨v, rfl, ho⟩, hb⟩
      go_simp
      exact hK.out _ _ ho hb
    | 6, ho, hF =>
      obtain rfl := Option.some.inj ho
      obtain ⟨v10, h10, s10⟩ := hF.dep 5 10 rfl rfl
      replace s10 : IsD (N.length) u v10 (numB N) := s10
      have hc := dBytesV N _ u s10 HL.out.1
      refine free_step rfl (by rfl) (fun K' hK => ?_)
      go_wp2_with fail
      refine hc.mono ?_
      rintro e u' ⟨⟨v, rfl, ho⟩, hb⟩
      go_simp
      exact hK.out _ _ (by rw [HL.out.2.2.2.2.1]; exact ho) hb
    | 7, ho, hF =>
      obtain rfl := Option.some.inj ho
      obtain ⟨v11, h11, s11⟩ := hF.dep 6 11 rfl rfl
      replace s11 : IsBytes u v11 SN := s11
      have cv := IsBytes.convert s11
      refine free_step rfl (by rfl) (fun K' hK => ?_)
      go_simp
      exact hK.out _ _ rfl (Below.refl _ _)
    | 8, ho, hF =>
      obtain rfl := Option.some.inj ho
      obtain ⟨v7, h7, s7⟩ := hF.dep 2 7 rfl rfl
      obtain rfl : v7 = .string SN := s7
      obtain ⟨v12, h12, s12⟩ := hF.dep 7 12 rfl rfl
      obtain rfl : v12 = .string SN := s12
      have tS := HL.out.2.2.1
      refine free_step rfl (by rfl) (fun K' hK => ?_)
      go_simp
      exact hK.out _ _ rfl (Below.refl _ _)
    | 9, ho, hF =>
      obtain rfl := Option.some.inj ho
      obtain ⟨v13, h13, s13⟩ := hF.dep 8 13 rfl rfl
      obtain rfl : v13 = .bool true := s13
      refine free_step rfl (by rfl) (fun K' hK => ?_)
      go_simp
      exact hK.out _ _ rfl (Below.refl _ _)
    | 10, ho, hF =>
      obtain rfl := Option.some.inj ho
      have h2 : a.tmps[2]? = some (.pointer (some ⟨q, 0, none⟩)) := (hF.out 2 rfl).trans rfl
      obtain ⟨v14, h14, s14⟩ := hF.dep 9 14 rfl rfl
      obtain rfl : v14 = .bool true := s14
      refine free_step rfl (by show (yielded _ a.tmps 9 == some true) = true; unfold yielded; simp [h14]) (fun K' hK => ?_)
      go_simp
      exact hK.out _ _ rfl (Below.refl _ _)
    | 11, ho, hF =>
      obtain rfl := Option.some.inj ho
      obtain ⟨v15, h15, s15⟩ := hF.dep 10 15 rfl rfl
      obtain rfl : v15 = .pointer (some ⟨q, 1, none⟩) := s15
      obtain ⟨v14, h14, s14⟩ := hF.dep 9 14 rfl rfl
      obtain rfl : v14 = .bool true := s14
      have g0 := (HU.out u (below_drewA hbu)).1.2.1
      refine free_step rfl (by show (yielded _ a.tmps 9 == some true) = true; unfold yielded; simp [h14]) (fun K' hK => ?_)
      go_simp
      exact hK.out _ _ rfl (Below.refl _ _)
    | 12, ho, hF =>
      obtain rfl := Option.some.inj ho
      obtain ⟨v16, h16, s16⟩ := hF.dep 11 16 rfl rfl
      obtain rfl : v16 = .slice yE kE cE := s16
      obtain ⟨v14, h14, s14⟩ := hF.dep 9 14 rfl rfl
      obtain rfl : v14 = .bool true := s14
      have cv := (HU.out u (below_drewA hbu)).2.2.1.2.convert
      refine free_step rfl (by show (yielded _ a.tmps 9 == some true) = true; unfold yielded; simp [h14]) (fun K' hK => ?_)
      go_simp
      exact hK.out _ _ rfl (Below.refl _ _)
    | 13, ho, hF =>
      obtain rfl := Option.some.inj ho
      have h3 : a.tmps[3]? = some (.pointer (some ⟨r, 0, none⟩)) := (hF.out 3 rfl).trans rfl
      obtain ⟨v14, h14, s14⟩ := hF.dep 9 14 rfl rfl
      obtain rfl : v14 = .bool true := s14
      refine free_step rfl (by show (yielded _ a.tmps 9 == some true) = true; unfold yielded; simp [h14]) (fun K' hK => ?_)
      go_simp
      exact hK.out _ _ rfl (Below.refl _ _)
    | 14, ho, hF =>
      obtain rfl := Option.some.inj ho
      obtain ⟨v18, h18, s18⟩ := hF.dep 13 18 rfl rfl
      obtain rfl : v18 = .pointer (some ⟨r, 1, none⟩) := s18
      obtain ⟨v14, h14, s14⟩ := hF.dep 9 14 rfl rfl
      obtain rfl : v14 = .bool true := s14
      have g0 := (HU.out u (below_drewA hbu)).2.1.2
      refine free_step rfl (by show (yielded _ a.tmps 9 == some true) = true; unfold yielded; simp [h14]) (fun K' hK => ?_)
      go_simp
      exact hK.out _ _ rfl (Below.refl _ _)
    | 15, ho, hF =>
      obtain rfl := Option.some.inj ho
      obtain ⟨v19, h19, s19⟩ := hF.dep 14 19 rfl rfl
      obtain rfl : v19 = .slice y nE cy := s19
      obtain ⟨v14, h14, s14⟩ := hF.dep 9 14 rfl rfl
      obtain rfl : v14 = .bool true := s14
      have hc := digOfV E _ u (HU.out u (below_drewA hbu)).2.2.2.1.2 HL.out.2.1
      refine free_step rfl (by show (yielded _ a.tmps 9 == some true) = true; unfold yielded; simp [h14]) (fun K' hK => ?_)
      go_wp2_with fail
      refine hc.mono ?_
      rintro e u' ⟨⟨v, rfl, ho⟩, hb⟩
      go_simp
      exact hK.out _ _ ho hb
    | 16, ho, hF =>
      obtain rfl := Option.some.inj ho
      obtain ⟨v20, h20, s20⟩ := hF.dep 15 20 rfl rfl
      replace s20 : IsD (E.length) u v20 (numB E) := s20
      obtain ⟨v14, h14, s14⟩ := hF.dep 9 14 rfl rfl
      obtain rfl : v14 = .bool true := s14
      have hc := dBytesV E _ u s20 HL.out.2.1
      refine free_step rfl (by show (yielded _ a.tmps 9 == some true) = true; unfold yielded; simp [h14]) (fun K' hK => ?_)
      go_wp2_with fail
      refine hc.mono ?_
      rintro e u' ⟨⟨v, rfl, ho⟩, hb⟩
      go_simp
      exact hK.out _ _ (by rw [HL.out.2.2.2.2.2]; exact ho) hb
    | 17, ho, hF =>
      obtain rfl := Option.some.inj ho
      obtain ⟨v21, h21, s21⟩ := hF.dep 16 21 rfl rfl
      replace s21 : IsBytes u v21 SE := s21
      obtain ⟨v14, h14, s14⟩ := hF.dep 9 14 rfl rfl
      obtain rfl : v14 = .bool true := s14
      have cv := IsBytes.convert s21
      refine free_step rfl (by show (yielded _ a.tmps 9 == some true) = true; unfold yielded; simp [h14]) (fun K' hK => ?_)
      go_simp
      exact hK.out _ _ rfl (Below.refl _ _)
    | 18, ho, hF =>
      obtain rfl := Option.some.inj ho
      obtain ⟨v17, h17, s17⟩ := hF.dep 12 17 rfl rfl
      obtain rfl : v17 = .string SE := s17
      obtain ⟨v22, h22, s22⟩ := hF.dep 17 22 rfl rfl
      obtain rfl : v22 = .string SE := s22
      obtain ⟨v14, h14, s14⟩ := hF.dep 9 14 rfl rfl
      obtain rfl : v14 = .bool true := s14
      have tS := HL.out.2.2.2.1
      refine free_step rfl (by show (yielded _ a.tmps 9 == some true) = true; unfold yielded; simp [h14]) (fun K' hK => ?_)
      go_simp
      exact hK.out _ _ rfl (Below.refl _ _)
    | 19, ho, hF =>
      obtain rfl := Option.some.inj ho
      obtain ⟨v14, h14, s14⟩ := hF.dep 9 14 rfl rfl
      obtain rfl : v14 = .bool true := s14
      obtain ⟨v23, h23, s23⟩ := hF.dep 18 23 rfl rfl
      obtain rfl : v23 = .bool true := s23
      refine free_step rfl (by rfl) (fun K' hK => ?_)
      go_simp
      exact hK.out _ _ rfl (Below.refl _ _)
    | 20, ho, hF =>
      obtain rfl := Option.some.inj ho
      obtain ⟨v24, h24, s24⟩ := hF.dep 19 24 rfl rfl
      obtain rfl : v24 = .bool true := s24
      refine free_step rfl (by rfl) (fun K' hK => ?_)
      go_simp
      exact hK.out _ _ rfl (Below.refl _ _)
    | 21, ho, hF =>
      obtain rfl := Option.some.inj ho
      have h2 : a.tmps[2]? = some (.pointer (some ⟨q, 0, none⟩)) := (hF.out 2 rfl).trans rfl
      obtain ⟨v25, h25, s25⟩ := hF.dep 20 25 rfl rfl
      obtain rfl : v25 = .bool true := s25
      refine free_step rfl (by show (yielded _ a.tmps 20 == some true) = true; unfold yielded; simp [h25]) (fun K' hK => ?_)
      go_simp
      exact hK.out _ _ rfl (Below.refl _ _)
    | 22, ho, hF =>
      obtain rfl := Option.some.inj ho
      obtain ⟨v26, h26, s26⟩ := hF.dep 21 26 rfl rfl
      obtain rfl : v26 = .pointer (some ⟨q, 2, none⟩) := s26
      obtain ⟨v25, h25, s25⟩ := hF.dep 20 25 rfl rfl
      obtain rfl : v25 = .bool true := s25
      have g0 := (HU.out u (below_drewA hbu)).1.2.2
      refine free_step rfl (by show (yielded _ a.tmps 20 == some true) = true; unfold yielded; simp [h25]) (fun K' hK => ?_)
      go_simp
      exact hK.out _ _ rfl (Below.refl _ _)
    | 23, ho, hF =>
      obtain rfl := Option.some.inj ho
      obtain ⟨v27, h27, s27⟩ := hF.dep 22 27 rfl rfl
      obtain rfl : v27 = .slice none 0 0 := s27
      obtain ⟨v25, h25, s25⟩ := hF.dep 20 25 rfl rfl
      obtain rfl : v25 = .bool true := s25
      refine free_step rfl (by show (yielded _ a.tmps 20 == some true) = true; unfold yielded; simp [h25]) (fun K' hK => ?_)
      go_simp
      exact hK.out _ _ rfl (Below.refl _ _)
    | 24, ho, hF =>
      obtain rfl := Option.some.inj ho
      obtain ⟨v28, h28, s28⟩ := hF.dep 23 28 rfl rfl
      obtain rfl : v28 = .int .i64 0 := s28
      obtain ⟨v25, h25, s25⟩ := hF.dep 20 25 rfl rfl
      obtain rfl : v25 = .bool true := s25
      refine free_step rfl (by show (yielded _ a.tmps 20 == some true) = true; unfold yielded; simp [h25]) (fun K' hK => ?_)
      go_simp
      exact hK.out _ _ rfl (Below.refl _ _)
    | 25, ho, hF =>
      obtain rfl := Option.some.inj ho
      obtain ⟨v25, h25, s25⟩ := hF.dep 20 25 rfl rfl
      obtain rfl : v25 = .bool true := s25
      obtain ⟨v29, h29, s29⟩ := hF.dep 24 29 rfl rfl
      obtain rfl : v29 = .bool true := s29
      refine free_step rfl (by rfl) (fun K' hK => ?_)
      go_simp
      exact hK.out _ _ rfl (Below.refl _ _)
    | 26, ho, hF =>
      obtain rfl := Option.some.inj ho
      obtain ⟨v30, h30, s30⟩ := hF.dep 25 30 rfl rfl
      obtain rfl : v30 = .bool true := s30
      refine free_step rfl (by rfl) (fun K' hK => ?_)
      go_simp
      exact hK.out _ _ rfl (Below.refl _ _)
    | n + 27, ho, _ => exact absurd (Array.getElem?_eq_some_iff.1 ho).1 (by show ¬ n + 27 < 27; omega)
  · intro vs u hS hbu
    have e26 : vs 26 = (.bool true) := hS 26 4 rfl
    simp only [putFrom, Act.put, List.setIfInBounds_toArray, List.set_cons_succ, List.set_cons_zero, Nat.reduceAdd]
    rw [e26]
    clear hS e26
    generalize vs 0 = z0
    generalize vs 1 = z1
    generalize vs 2 = z2
    generalize vs 3 = z3
    generalize vs 4 = z4
    generalize vs 5 = z5
    generalize vs 6 = z6
    generalize vs 7 = z7
    generalize vs 8 = z8
    generalize vs 9 = z9
    generalize vs 10 = z10
    generalize vs 11 = z11
    generalize vs 12 = z12
    generalize vs 13 = z13
    generalize vs 14 = z14
    generalize vs 15 = z15
    generalize vs 16 = z16
    generalize vs 17 = z17
    generalize vs 18 = z18
    generalize vs 19 = z19
    generalize vs 20 = z20
    generalize vs 21 = z21
    generalize vs 22 = z22
    generalize vs 23 = z23
    generalize vs 24 = z24
    generalize vs 25 = z25
    have HF := show Hid (Below w.heap.size w u) from (HU.out u (below_drewA hbu)).2.2.2.2
    clear hbu HU
    go_wp2_with fail
    go_ret
    exact ⟨rfl, HF.out⟩
end Go.Proofs.Ythdoginhbhdmbaa
