/-
  Package moment: fraction, zone.
-/
import Derived.Test.YtbepjlhknmhmeaaDoorMRead
namespace Go.Proofs.YtbepjlhknmhmeaaDoor
open Go.RowKit Ch
set_option maxRecDepth 100000

theorem frac_no {s : List UInt8} (h : ∀ t, s ≠ 46 :: t) : fracM s = some ([], s) := by
  unfold fracM
  split
  · exact absurd rfl (h _)
  · rfl
theorem frac_yes (t : List UInt8) : fracM (46 :: t) = if 1 ≤ (t.takeWhile isDig).length ∧ (t.takeWhile isDig).length ≤ 9 then some (t.takeWhile isDig, t.dropWhile isDig) else none := rfl
/-- What fraction answers. -/
def FracSays (q : Nat) (R : ByteArray) (e : Ending) (w w' : World) : Prop :=
  (∃ (f S : ByteArray), fracM R.data.toList = some (f.data.toList, S.data.toList) ∧ S.size ≤ R.size ∧ ((∀ c ∈ f.data.toList, isDig c = true) ∧ f.size ≤ 9) ∧ e = .returned (.string f) ∧ Rd q S w' ∧ KeptX [q] w w') ∨
  (fracM R.data.toList = none ∧ e = .panicked (PE 10) ∧ KeptX [q] w w')
set_option maxHeartbeats 4000000 in
theorem mFrac_any (q : Nat) (R : ByteArray) (w : World) (h : Rd q R w) (hs : R.size ≤ 1000) :
    Calls Tryd.prog 59 #[.pointer (some ⟨q, 0, none⟩)] w fun e w' => FracSays q R e w w' := by
  have hH : Calls Tryd.prog 58 #[.pointer (some ⟨q, 0, none⟩), .int .u8 46] w fun e w' => HasSays q R 46 e w w' := mHas_any q R 46 w h
  have H0 := show Hid (Rd q R w ∧ R.size ≤ 1000) from ⟨h, hs⟩
  clear h hs
  go_enter Tryd.func59, Tryd.ntmps59
  go_wp2_with fail
  refine hH.mono ?_
  rintro e w1 (⟨S, hS, rfl, hr, hk⟩ | ⟨hS, rfl, rfl⟩)
  rotate_left
  · have HF := show Hid (FracSays q R (.returned (.string ⟨#[]⟩)) w1 w1) from .inl ⟨⟨#[]⟩, R, frac_no hS, Nat.le_refl _, ⟨fun c h => by simp at h, Nat.zero_le _⟩, rfl, H0.out.1, KeptX.refl _ _⟩
    clear hH hS
    go_wp2_with fail
    go_ret
    exact HF.out
  have z : S.size ≤ R.size := by
    have h1 := congrArg List.length hS
    rw [List.length_cons, len_eq, len_eq] at h1
    omega
  have hD := mDigits_any q S w1 hr (by have := H0.out.2; omega)
  have H1 := show Hid (R.data.toList = 46 :: S.data.toList ∧ S.size ≤ R.size ∧ KeptX [q] w w1) from ⟨hS, z, hk⟩
  clear hH hS hr hk z
  go_wp2_with fail
  refine hD.mono ?_
  rintro e w2 ⟨⟨D, rfl, hDd⟩, ⟨T, hTd, hr⟩, hk⟩
  have hl : (S.data.toList.takeWhile isDig).length = D.size := by rw [← hDd, len_eq]
  clear hD
  by_cases c1 : 1 ≤ D.size
  case neg =>
    have i1 : ¬ (1 : Int) ≤ (D.size : Int) := by omega
    have HF := show Hid (FracSays q R (.panicked (PE 10)) w w2) from .inr ⟨by rw [H1.out.1, frac_yes, if_neg (by rw [hl]; exact fun h => c1 h.1)], rfl, H1.out.2.2.trans hk⟩
    have hN := mNeed_err 10 w2
    clear hl hDd hTd hr hk c1
    go_wp2_with fail
    refine hN.mono ?_
    rintro e w3 ⟨rfl, rfl⟩
    exact ⟨rfl, HF.out⟩
  have i1 : (1 : Int) ≤ (D.size : Int) := by omega
  by_cases c2 : D.size ≤ 9
  case neg =>
    have i2 : decide ((D.size : Int) ≤ 9) = false := decide_eq_false (by omega)
    have HF := show Hid (FracSays q R (.panicked (PE 10)) w w2) from .inr ⟨by rw [H1.out.1, frac_yes, if_neg (by rw [hl]; exact fun h => c2 h.2)], rfl, H1.out.2.2.trans hk⟩
    have hN := mNeed_err 10 w2
    clear hl hDd hTd hr hk c1 c2
    go_wp2_with fail
    refine hN.mono ?_
    rintro e w3 ⟨rfl, rfl⟩
    exact ⟨rfl, HF.out⟩
  have i2 : decide ((D.size : Int) ≤ 9) = true := decide_eq_true (by omega)
  have HF := show Hid (FracSays q R (.returned (.string D)) w w2) from .inl ⟨D, T, by rw [H1.out.1, frac_yes, if_pos (by rw [hl]; exact ⟨c1, c2⟩), hDd, hTd], Nat.le_trans (drop_size hTd) H1.out.2.1, ⟨by rw [hDd]; exact take_dig _, c2⟩, rfl, hr, H1.out.2.2.trans hk⟩
  have hN := mNeed_ok 10 w2
  clear hl hDd hTd hr hk c1 c2
  go_wp2_with fail
  refine hN.mono ?_
  rintro e w3 ⟨rfl, rfl⟩
  clear hN
  go_wp2_with fail
  go_ret
  exact HF.out
theorem zone_z (t : List UInt8) : zoneM (90 :: t) = some (0, t) := rfl
theorem zone_m (t : List UInt8) : zoneM (45 :: t) = (offM t).bind fun a => some (-(a.1 : Int), a.2) := rfl
theorem zone_o {s : List UInt8} (h1 : ∀ t, s ≠ 90 :: t) (h2 : ∀ t, s ≠ 45 :: t) : zoneM s = (signM 43 s).bind fun t => (offM t).bind fun a => some ((a.1 : Int), a.2) := by
  unfold zoneM
  split
  · exact absurd rfl (h1 _)
  · exact absurd rfl (h2 _)
  · rfl
/-- What zone answers. -/
def ZoneSays (q : Nat) (R : ByteArray) (e : Ending) (w w' : World) : Prop :=
  (∃ (z : Int) (S : ByteArray), zoneM R.data.toList = some (z, S.data.toList) ∧ (-50400000 ≤ z ∧ z ≤ 50400000) ∧ S.size ≤ R.size ∧ e = .returned (.int .i64 z) ∧ Rd q S w' ∧ KeptX [q] w w') ∨
  (zoneM R.data.toList = none ∧ e = .panicked (PE 10) ∧ KeptX [q] w w')
theorem offM_le {s t : List UInt8} {n : Nat} (h : offM s = some (n, t)) : n ≤ 50400000 := by
  unfold offM at h
  cases h1 : numM 2 s with
  | none => rw [h1] at h; cases h
  | some a =>
    rw [h1] at h
    simp only [Option.bind_some] at h
    cases h2 : signM 58 a.2 with
    | none => rw [h2] at h; cases h
    | some b =>
      rw [h2] at h
      simp only [Option.bind_some] at h
      cases h3 : numM 2 b with
      | none => rw [h3] at h; cases h
      | some c =>
        rw [h3] at h
        simp only [Option.bind_some] at h
        split at h
        · rename_i hc
          have := (Prod.mk.inj (Option.some.inj h)).1
          omega
        · cases h
theorem has_size {c : UInt8} {R S : ByteArray} (h : R.data.toList = c :: S.data.toList) : S.size ≤ R.size := by
  have h1 := congrArg List.length h
  rw [List.length_cons, len_eq, len_eq] at h1
  omega
set_option maxHeartbeats 4000000 in
theorem mZone_any (q : Nat) (R : ByteArray) (w : World) (h : Rd q R w) (hs : R.size ≤ 1000) :
    Calls Tryd.prog 45 #[.pointer (some ⟨q, 0, none⟩)] w fun e w' => ZoneSays q R e w w' := by
  have hH : Calls Tryd.prog 58 #[.pointer (some ⟨q, 0, none⟩), .int .u8 90] w fun e w' => HasSays q R 90 e w w' := mHas_any q R 90 w h
  have hH2 : Calls Tryd.prog 58 #[.pointer (some ⟨q, 0, none⟩), .int .u8 45] w fun e w' => HasSays q R 45 e w w' := mHas_any q R 45 w h
  have hG : Calls Tryd.prog 43 #[.pointer (some ⟨q, 0, none⟩), .int .u8 43] w fun e w' => SignSays q R 43 e w w' := mSign_any q R 43 w h
  have H0 := show Hid (Rd q R w ∧ R.size ≤ 1000) from ⟨h, hs⟩
  clear h hs
  go_enter Tryd.func45, Tryd.ntmps45
  go_wp2_with fail
  refine hH.mono ?_
  rintro e w1 (⟨S, hS, rfl, hr, hk⟩ | ⟨hS1, rfl, rfl⟩)
  · have HF := show Hid (ZoneSays q R (.returned (.int .i64 0)) w w1) from .inl ⟨0, S, by rw [hS, zone_z], by decide, has_size hS, rfl, hr, hk⟩
    clear hH hH2 hG hS hr hk
    go_wp2_with fail
    go_ret
    exact HF.out
  clear hH
  go_wp2_with fail
  refine hH2.mono ?_
  rintro e w2 (⟨S, hS, rfl, hr, hk⟩ | ⟨hS2, rfl, rfl⟩)
  · have hO := mOff_any q S w2 hr (by have := has_size hS; have := H0.out.2; omega)
    have H1 := show Hid (R.data.toList = 45 :: S.data.toList ∧ KeptX [q] w1 w2) from ⟨hS, hk⟩
    clear hH2 hG hS hr hk hS1
    go_wp2_with fail
    refine hO.mono ?_
    rintro e w3 (⟨n, T, m, z, rfl, hr, hk⟩ | ⟨m, rfl, hk⟩)
    rotate_left
    · exact ⟨rfl, .inr ⟨by rw [H1.out.1, zone_m, m]; rfl, rfl, H1.out.2.trans hk⟩⟩
    have hn := offM_le m
    have HF := show Hid (ZoneSays q R (.returned (.int .i64 (-(n : Int)))) w1 w3) from .inl ⟨_, T, by rw [H1.out.1, zone_m, m]; rfl, ⟨by omega, by omega⟩, Nat.le_trans z (has_size H1.out.1), rfl, hr, H1.out.2.trans hk⟩
    have wn : IntKind.i64.wrap (-(n : Int)) = -(n : Int) := by rw [IntKind.wrap_i64]; omega
    clear hO m z hr hk hn
    go_wp2_with fail
    go_ret
    exact HF.out
  have H2 := show Hid (zoneM R.data.toList = (signM 43 R.data.toList).bind fun t => (offM t).bind fun a => some ((a.1 : Int), a.2)) from zone_o hS1 hS2
  clear hH2 hS1 hS2
  go_wp2_with fail
  refine hG.mono ?_
  rintro e w3 (⟨S, m, rfl, hr, hk⟩ | ⟨m, rfl, hk⟩)
  rotate_left
  · exact ⟨rfl, .inr ⟨by rw [H2.out, m]; rfl, rfl, hk⟩⟩
  have hO := mOff_any q S w3 hr (by have := sign_size m; have := H0.out.2; omega)
  have H3 := show Hid (signM 43 R.data.toList = some S.data.toList ∧ S.size ≤ R.size ∧ KeptX [q] w2 w3) from ⟨m, sign_size m, hk⟩
  clear hG m hr hk
  go_wp2_with fail
  refine hO.mono ?_
  rintro e w4 (⟨n, T, m, z, rfl, hr, hk⟩ | ⟨m, rfl, hk⟩)
  rotate_left
  · exact ⟨rfl, .inr ⟨by rw [H2.out, H3.out.1]; show ((offM S.data.toList).bind _) = _; rw [m]; rfl, rfl, H3.out.2.2.trans hk⟩⟩
  have hn := offM_le m
  have HF := show Hid (ZoneSays q R (.returned (.int .i64 (n : Int))) w2 w4) from .inl ⟨_, T, by rw [H2.out, H3.out.1]; show ((offM S.data.toList).bind _) = _; rw [m]; rfl, ⟨by omega, by omega⟩, Nat.le_trans z H3.out.2.1, rfl, hr, H3.out.2.2.trans hk⟩
  clear hO m z hr hk hn
  go_wp2_with fail
  go_ret
  exact HF.out
end Go.Proofs.YtbepjlhknmhmeaaDoor
