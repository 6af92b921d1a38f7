/-
  Package moment: timeOfDay.
-/
import Derived.Test.YtbepjlhknmhmeaaDoorMZone
namespace Go.Proofs.YtbepjlhknmhmeaaDoor
open Go.RowKit Ch
set_option maxRecDepth 100000

theorem drop_nil {p : UInt8 → Bool} : ∀ l : List UInt8, l.dropWhile p = [] ↔ ∀ x ∈ l, p x = true
  | [] => by simp
  | x :: l => by
    rw [List.dropWhile_cons]
    split
    · rename_i h
      rw [drop_nil l]
      simp [h]
    · rename_i h
      simp [h]
theorem trim_nil (l : List UInt8) : Lib.trimB l 48 = [] ↔ ∀ x ∈ l, x = 48 := by
  unfold Lib.trimB Lib.trimLeftB Lib.trimRightB
  rw [drop_nil]
  constructor
  · intro h
    by_cases h0 : (l.reverse.dropWhile (· == 48)) = []
    · intro x hx
      have := (drop_nil _).1 h0 x (by simpa using hx)
      simpa using this
    · exfalso
      cases hd : l.reverse.dropWhile (· == 48) with
      | nil => exact h0 hd
      | cons a t =>
        have h1 := h a (by rw [hd]; simp)
        have h2 : (l.reverse.dropWhile (· == 48)).head? = some a := by rw [hd]; rfl
        have h3 := List.head?_dropWhile_not (· == 48) l.reverse
        rw [h2] at h3
        simp at h3
        simp at h1
        exact h3 h1
  · intro h x hx
    have h1 : x ∈ l.reverse := (List.dropWhile_suffix _).subset (by simpa using hx)
    simpa using h x (by simpa using h1)
set_option maxHeartbeats 4000000 in
theorem mClock_any (q : Nat) (R : ByteArray) (w : World) (h : Rd q R w) (hs : R.size ≤ 1000) :
    Calls Tryd.prog 44 #[.pointer (some ⟨q, 0, none⟩)] w fun e w' => PartSays q (clockM R.data.toList) R e w w' := by
  have HS := show Hid (R.size ≤ 1000) from hs
  have HR0 := show Hid (Rd q R w ∧ R.size ≤ R.size ∧ KeptX [q] w w) from ⟨h, Nat.le_refl _, KeptX.refl _ _⟩
  clear h hs
  go_enter Tryd.func44, Tryd.ntmps44
  have hC := mNumber_any q 2 R w HR0.out.1 (by have := HR0.out.2.1; have := HS.out; omega) (by decide)
  go_wp2_with fail
  refine hC.mono ?_
  rintro e w1 (⟨n0, R1, m, z, rfl, hr, hk⟩ | ⟨m, rfl, hk⟩)
  rotate_left
  · exact ⟨rfl, .inr ⟨by simp [clockM, m], rfl, HR0.out.2.2.trans hk⟩⟩
  have HE0 := show Hid (numM 2 R.data.toList = some (n0, R1.data.toList)) from m
  have HL0 := show Hid (n0 < 10 ^ 2) from numM_lt m
  have HR1 := show Hid (Rd q R1 w1 ∧ R1.size ≤ R.size ∧ KeptX [q] w w1) from ⟨hr, Nat.le_trans z HR0.out.2.1, HR0.out.2.2.trans hk⟩
  clear hC m z hr hk
  have hC : Calls Tryd.prog 43 #[.pointer (some ⟨q, 0, none⟩), .int .u8 58] w1 fun e w' => SignSays q R1 58 e w1 w' := mSign_any q R1 58 w1 HR1.out.1
  go_wp2_with fail
  refine hC.mono ?_
  rintro e w2 (⟨R2, m, rfl, hr, hk⟩ | ⟨m, rfl, hk⟩)
  rotate_left
  · exact ⟨rfl, .inr ⟨by simp [clockM, HE0.out, m], rfl, HR1.out.2.2.trans hk⟩⟩
  have z := sign_size m
  have HE1 := show Hid (signM 58 R1.data.toList = some R2.data.toList) from m
  have HR2 := show Hid (Rd q R2 w2 ∧ R2.size ≤ R.size ∧ KeptX [q] w w2) from ⟨hr, Nat.le_trans z HR1.out.2.1, HR1.out.2.2.trans hk⟩
  clear hC m z hr hk
  have hC := mNumber_any q 2 R2 w2 HR2.out.1 (by have := HR2.out.2.1; have := HS.out; omega) (by decide)
  go_wp2_with fail
  refine hC.mono ?_
  rintro e w3 (⟨n2, R3, m, z, rfl, hr, hk⟩ | ⟨m, rfl, hk⟩)
  rotate_left
  · exact ⟨rfl, .inr ⟨by simp [clockM, HE0.out, HE1.out, m], rfl, HR2.out.2.2.trans hk⟩⟩
  have HE2 := show Hid (numM 2 R2.data.toList = some (n2, R3.data.toList)) from m
  have HL2 := show Hid (n2 < 10 ^ 2) from numM_lt m
  have HR3 := show Hid (Rd q R3 w3 ∧ R3.size ≤ R.size ∧ KeptX [q] w w3) from ⟨hr, Nat.le_trans z HR2.out.2.1, HR2.out.2.2.trans hk⟩
  clear hC m z hr hk
  have hC : Calls Tryd.prog 43 #[.pointer (some ⟨q, 0, none⟩), .int .u8 58] w3 fun e w' => SignSays q R3 58 e w3 w' := mSign_any q R3 58 w3 HR3.out.1
  go_wp2_with fail
  refine hC.mono ?_
  rintro e w4 (⟨R4, m, rfl, hr, hk⟩ | ⟨m, rfl, hk⟩)
  rotate_left
  · exact ⟨rfl, .inr ⟨by simp [clockM, HE0.out, HE1.out, HE2.out, m], rfl, HR3.out.2.2.trans hk⟩⟩
  have z := sign_size m
  have HE3 := show Hid (signM 58 R3.data.toList = some R4.data.toList) from m
  have HR4 := show Hid (Rd q R4 w4 ∧ R4.size ≤ R.size ∧ KeptX [q] w w4) from ⟨hr, Nat.le_trans z HR3.out.2.1, HR3.out.2.2.trans hk⟩
  clear hC m z hr hk
  have hC := mNumber_any q 2 R4 w4 HR4.out.1 (by have := HR4.out.2.1; have := HS.out; omega) (by decide)
  go_wp2_with fail
  refine hC.mono ?_
  rintro e w5 (⟨n4, R5, m, z, rfl, hr, hk⟩ | ⟨m, rfl, hk⟩)
  rotate_left
  · exact ⟨rfl, .inr ⟨by simp [clockM, HE0.out, HE1.out, HE2.out, HE3.out, m], rfl, HR4.out.2.2.trans hk⟩⟩
  have HE4 := show Hid (numM 2 R4.data.toList = some (n4, R5.data.toList)) from m
  have HL4 := show Hid (n4 < 10 ^ 2) from numM_lt m
  have HR5 := show Hid (Rd q R5 w5 ∧ R5.size ≤ R.size ∧ KeptX [q] w w5) from ⟨hr, Nat.le_trans z HR4.out.2.1, HR4.out.2.2.trans hk⟩
  clear hC m z hr hk
  have hC := mFrac_any q R5 w5 HR5.out.1 (by have := HR5.out.2.1; have := HS.out; omega)
  go_wp2_with fail
  refine hC.mono ?_
  rintro e w6 (⟨f, S, m, z, hf, rfl, hr, hk⟩ | ⟨m, rfl, hk⟩)
  rotate_left
  · exact ⟨rfl, .inr ⟨by simp [clockM, HE0.out, HE1.out, HE2.out, HE3.out, HE4.out, m], rfl, HR5.out.2.2.trans hk⟩⟩
  have HE5 := show Hid (fracM R5.data.toList = some (f.data.toList, S.data.toList)) from m
  have HR6 := show Hid (Rd q S w6 ∧ S.size ≤ R.size ∧ KeptX [q] w w6) from ⟨hr, Nat.le_trans z HR5.out.2.1, HR5.out.2.2.trans hk⟩
  have HFD := show Hid ((∀ c ∈ f.data.toList, isDig c = true) ∧ f.size ≤ 9) from hf
  clear hC m z hr hk hf
  have HN := show Hid (∀ P : Prop, (clockM R.data.toList = if n2 ≤ 59 ∧ n4 ≤ 59 ∧ (n0 ≤ 23 ∨ (n0 = 24 ∧ n2 = 0 ∧ n4 = 0 ∧ (∀ x ∈ f.data.toList, x = 48))) then some (n0 * 3600000 + n2 * 60000 + n4 * 1000 + thousM f.data.toList, S.data.toList) else none) ∨ P) from fun P => .inl (by simp [clockM, HE0.out, HE1.out, HE2.out, HE3.out, HE4.out, HE5.out])
  have HNo := show Hid (¬ (n2 ≤ 59 ∧ n4 ≤ 59 ∧ (n0 ≤ 23 ∨ (n0 = 24 ∧ n2 = 0 ∧ n4 = 0 ∧ (∀ x ∈ f.data.toList, x = 48)))) → clockM R.data.toList = none) from fun h => by
    rcases HN.out False with e | e
    · rw [e, if_neg h]
    · exact e.elim
  have HYes := show Hid ((n2 ≤ 59 ∧ n4 ≤ 59 ∧ (n0 ≤ 23 ∨ (n0 = 24 ∧ n2 = 0 ∧ n4 = 0 ∧ (∀ x ∈ f.data.toList, x = 48)))) → clockM R.data.toList = some (n0 * 3600000 + n2 * 60000 + n4 * 1000 + thousM f.data.toList, S.data.toList)) from fun h => by
    rcases HN.out False with e | e
    · rw [e, if_pos h]
    · exact e.elim
  clear HN
  by_cases c1 : n2 ≤ 59
  case neg =>
    have i1 : ¬ (n2 : Int) ≤ 59 := by omega
    have HF := show Hid (clockM R.data.toList = none) from HNo.out (fun h => c1 h.1)
    have hN := mNeed_err 10 w6
    go_wp2_with fail
    refine hN.mono ?_
    rintro e wz ⟨rfl, rfl⟩
    exact ⟨rfl, .inr ⟨HF.out, rfl, HR6.out.2.2⟩⟩
  have i1 : (n2 : Int) ≤ 59 := by omega
  by_cases c2 : n4 ≤ 59
  case neg =>
    have i2 : decide ((n4 : Int) ≤ 59) = false := decide_eq_false (by omega)
    have HF := show Hid (clockM R.data.toList = none) from HNo.out (fun h => c2 h.2.1)
    have hN := mNeed_err 10 w6
    go_wp2_with fail
    refine hN.mono ?_
    rintro e wz ⟨rfl, rfl⟩
    exact ⟨rfl, .inr ⟨HF.out, rfl, HR6.out.2.2⟩⟩
  have i2 : decide ((n4 : Int) ≤ 59) = true := decide_eq_true (by omega)
  have hN1 := mNeed_ok 10 w6
  obtain ⟨g, hg⟩ : ∃ g : ByteArray, (f ++ ⟨#[48, 48, 48]⟩ : ByteArray).extract 0 3 = g := ⟨_, rfl⟩
  have hz : (f ++ ⟨#[48, 48, 48]⟩ : ByteArray).size = f.size + 3 := by rw [ByteArray.size_append]; rfl
  have hc1 : ¬ (9223372036854775807 : Int) < (f.size : Int) + 3 := by have := HFD.out.2; omega
  have hc2 : (f.size : Int) + 3 ≤ 9223372036854775807 := by have := HFD.out.2; omega
  have hc3 : (3 : Int) ≤ (f.size : Int) + 3 := by omega
  have hgd : g.data.toList = (f.data.toList ++ [48, 48, 48]).take 3 := by
    rw [← hg, Lib.extract_data]
    simp
  have HG := show Hid (valL g.data.toList = thousM f.data.toList ∧ valL g.data.toList < 1000) from by
    have h1 : (∀ c ∈ g.data.toList, isDig c = true) := fun c hc => by
      rw [hgd] at hc
      rcases List.mem_append.1 (List.mem_of_mem_take hc) with h2 | h2
      · exact HFD.out.1 c h2
      · have h3 : ∀ x ∈ ([48, 48, 48] : List UInt8), isDig x = true := by decide
        exact h3 c h2
    have h4 := valL_lt _ h1
    have h5 : g.data.toList.length ≤ 3 := by rw [hgd, List.length_take]; omega
    have h6 : 10 ^ g.data.toList.length ≤ 10 ^ 3 := Nat.pow_le_pow_right (by decide) h5
    refine ⟨by unfold thousM; rw [hgd], by omega⟩
  have hV : ∀ u, Calls Tryd.prog 61 #[.string g] u fun e w' => e = .returned (.int .i64 (valL g.data.toList : Int)) ∧ w' = u := fun u => mVal_any g u (fun c hc => by
      rw [hgd] at hc
      rcases List.mem_append.1 (List.mem_of_mem_take hc) with h2 | h2
      · exact HFD.out.1 c h2
      · have h3 : ∀ x ∈ ([48, 48, 48] : List UInt8), isDig x = true := by decide
        exact h3 c h2) (by rw [← len_eq, hgd, List.length_take]; omega)
  have HV := show Hid (∀ u, Calls Tryd.prog 61 #[.string g] u fun e w' => e = .returned (.int .i64 (valL g.data.toList : Int)) ∧ w' = u) from hV
  obtain ⟨v, hv⟩ : ∃ v, valL g.data.toList = v := ⟨_, rfl⟩
  rw [hv] at HG HV
  obtain ⟨t, ht⟩ : ∃ t, n0 * 3600000 + n2 * 60000 + n4 * 1000 + v = t := ⟨_, rfl⟩
  have HT := show Hid (n0 * 3600000 + n2 * 60000 + n4 * 1000 + thousM f.data.toList = t) from by rw [← HG.out.1]; exact ht
  have b0 := HL0.out
  have b2 := HL2.out
  have b4 := HL4.out
  have bv := HG.out.2
  obtain ⟨p, hp⟩ : ∃ p, n0 * 3600000 = p := ⟨_, rfl⟩
  obtain ⟨r, hr⟩ : ∃ p, n2 * 60000 = p := ⟨_, rfl⟩
  obtain ⟨s, hs⟩ : ∃ p, n4 * 1000 = p := ⟨_, rfl⟩
  have v1 : IntKind.i64.wrap ((n0 : Int) * 3600000) = (p : Int) := by rw [IntKind.wrap_i64]; omega
  have v2 : IntKind.i64.wrap ((n2 : Int) * 60000) = (r : Int) := by rw [IntKind.wrap_i64]; omega
  have v3 : IntKind.i64.wrap ((n4 : Int) * 1000) = (s : Int) := by rw [IntKind.wrap_i64]; omega
  have bp : p ≤ 360000000 := by omega
  have br : r ≤ 6000000 := by omega
  have bs : s ≤ 100000 := by omega
  rw [hp, hr, hs] at ht
  have v4 : IntKind.i64.wrap ((p : Int) + (r : Int)) = (p : Int) + (r : Int) := by rw [IntKind.wrap_i64]; omega
  have v5 : IntKind.i64.wrap ((p : Int) + (r : Int) + (s : Int)) = (p : Int) + (r : Int) + (s : Int) := by rw [IntKind.wrap_i64]; omega
  have v6 : IntKind.i64.wrap ((p : Int) + (r : Int) + (s : Int) + (v : Int)) = (t : Int) := by rw [IntKind.wrap_i64]; omega
  clear b0 b2 b4 bv hp hr hs bp br bs ht hV hgd
  go_wp2_with fail
  refine hN1.mono ?_
  rintro e w7 ⟨rfl, rfl⟩
  clear hN1
  by_cases c3 : n0 ≤ 23
  case pos =>
    have i3 : (n0 : Int) ≤ 23 := by omega
    have e3 : ((n0 : Int) == 24) = false := beq_eq_false_iff_ne.2 (by omega)
    have KK := And.intro HR6.out.1 HR6.out.2.2
    have HF := show Hid (clockM R.data.toList = some (t, S.data.toList)) from by show clockM R.data.toList = some (t, S.data.toList); rw [HYes.out (⟨c1, c2, .inl c3⟩), HT.out]
    have hN := mNeed_ok 10 w7
    have hW := HV.out w7
    go_wp2_with fail
    refine hN.mono ?_
    rintro e wz ⟨rfl, rfl⟩
    clear hN
    go_wp2_with fail
    refine hW.mono ?_
    rintro e wy ⟨rfl, rfl⟩
    clear hW
    go_wp2_with fail
    go_ret
    exact .inl ⟨t, S, HF.out, HR6.out.2.1, rfl, KK.1, KK.2⟩
  have i3 : decide ((n0 : Int) ≤ 23) = false := decide_eq_false (by omega)
  have j3 : ¬ (n0 : Int) ≤ 23 := by omega
  by_cases c4 : n0 = 24
  case neg =>
    have e3 : ((n0 : Int) == 24) = false := beq_eq_false_iff_ne.2 (by omega)
    have HF := show Hid (clockM R.data.toList = none) from HNo.out (fun h => by rcases h.2.2 with h | h; exact c3 h; exact c4 h.1)
    have hN := mNeed_err 10 w7
    go_wp2_with fail
    refine hN.mono ?_
    rintro e wz ⟨rfl, rfl⟩
    exact ⟨rfl, .inr ⟨HF.out, rfl, HR6.out.2.2⟩⟩
  have e3 : ((n0 : Int) == 24) = true := by rw [c4]; rfl
  by_cases c5 : n2 = 0
  case neg =>
    have e4 : ((n2 : Int) == 0) = false := beq_eq_false_iff_ne.2 (by omega)
    have HF := show Hid (clockM R.data.toList = none) from HNo.out (fun h => by rcases h.2.2 with h | h; exact c3 h; exact c5 h.2.1)
    have hN := mNeed_err 10 w7
    go_wp2_with fail
    refine hN.mono ?_
    rintro e wz ⟨rfl, rfl⟩
    exact ⟨rfl, .inr ⟨HF.out, rfl, HR6.out.2.2⟩⟩
  have e4 : ((n2 : Int) == 0) = true := by rw [c5]; rfl
  by_cases c6 : n4 = 0
  case neg =>
    have e5 : ((n4 : Int) == 0) = false := beq_eq_false_iff_ne.2 (by omega)
    have HF := show Hid (clockM R.data.toList = none) from HNo.out (fun h => by rcases h.2.2 with h | h; exact c3 h; exact c6 h.2.2.1)
    have hN := mNeed_err 10 w7
    go_wp2_with fail
    refine hN.mono ?_
    rintro e wz ⟨rfl, rfl⟩
    exact ⟨rfl, .inr ⟨HF.out, rfl, HR6.out.2.2⟩⟩
  have e5 : ((n4 : Int) == 0) = true := by rw [c6]; rfl
  have hTr : Calls Tryd.prog 60 #[.string f, .string ⟨#[48]⟩] w7 fun e w' => e = .returned (.string ⟨(Lib.trimB f.data.toList 48).toArray⟩) ∧ (w' = w7 ∨ w' = w7.drew) := Tryd.strings_Trim_one f 48 (by decide) w7 (by have := HFD.out.2; omega)
  obtain ⟨T, hT⟩ : ∃ T : ByteArray, (⟨(Lib.trimB f.data.toList 48).toArray⟩ : ByteArray) = T := ⟨_, rfl⟩
  have hTd : T.data.toList = Lib.trimB f.data.toList 48 := by rw [← hT]
  rw [hT] at hTr
  have HTd := show Hid (T.data.toList = Lib.trimB f.data.toList 48) from hTd
  clear hT hTd
  go_wp2_with fail
  refine hTr.mono ?_
  rintro e w8 ⟨rfl, hw⟩
  have KK : Rd q S w8 ∧ KeptX [q] w w8 := by
    rcases hw with rfl | rfl
    · exact ⟨HR6.out.1, HR6.out.2.2⟩
    · exact ⟨HR6.out.1, HR6.out.2.2.trans (KeptX.of (Below.refl _ _).drew)⟩
  clear hTr hw
  by_cases c7 : ∀ x ∈ f.data.toList, x = 48
  case neg =>
    have hne : T.toList.isEmpty = false := by
      rw [Lib.toList_data, HTd.out]
      cases h : Lib.trimB f.data.toList 48 with
      | nil => exact absurd ((trim_nil _).1 h) c7
      | cons a b => rfl
    have HF := show Hid (clockM R.data.toList = none) from HNo.out (fun h => by rcases h.2.2 with h | h; exact c3 h; exact c7 h.2.2.2)
    have hN := mNeed_err 10 w8
    go_wp2_with fail
    refine hN.mono ?_
    rintro e wz ⟨rfl, rfl⟩
    exact ⟨rfl, .inr ⟨HF.out, rfl, KK.2⟩⟩
  have wl : IntKind.i64.wrap (86400000 + (v : Int)) = (t : Int) := by
    have h1 := HT.out
    have h2 := HG.out
    rw [c4, c5, c6, ← h2.1] at h1
    rw [IntKind.wrap_i64]
    omega
  have hne : T.toList.isEmpty = true := by rw [Lib.toList_data, HTd.out, (trim_nil _).2 c7]; rfl
  have HF := show Hid (clockM R.data.toList = some (t, S.data.toList)) from by show clockM R.data.toList = some (t, S.data.toList); rw [HYes.out (⟨c1, c2, .inr ⟨c4, c5, c6, c7⟩⟩), HT.out]
  have hN := mNeed_ok 10 w8
  have hW := HV.out w8
  go_wp2_with fail
  refine hN.mono ?_
  rintro e wz ⟨rfl, rfl⟩
  clear hN
  go_wp2_with fail
  refine hW.mono ?_
  rintro e wy ⟨rfl, rfl⟩
  clear hW
  go_wp2_with fail
  go_ret
  exact .inl ⟨t, S, HF.out, HR6.out.2.1, rfl, KK.1, KK.2⟩
end Go.Proofs.YtbepjlhknmhmeaaDoor
