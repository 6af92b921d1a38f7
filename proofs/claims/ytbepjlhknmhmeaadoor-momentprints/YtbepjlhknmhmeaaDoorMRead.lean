/-
  Package moment: the reader's parts: offset, days, fraction.
-/
import Derived.Test.YtbepjlhknmhmeaaDoorMNumR
import Derived.Test.YtbepjlhknmhmeaaDoorMDayN
namespace Go.Proofs.YtbepjlhknmhmeaaDoor
open Go.RowKit Ch
set_option maxRecDepth 100000

theorem numM_lt {k n : Nat} {s t : List UInt8} (h : numM k s = some (n, t)) : n < 10 ^ k := by
  unfold numM at h
  split at h
  · rename_i hl
    have h1 := (Prod.mk.inj (Option.some.inj h)).1
    rw [← h1, ← hl]
    exact valL_lt _ (take_dig s)
  · cases h
theorem MTab.keptX {q : Nat} {w w' : World} (h : MTab w) (hq : q ≠ 0) (hk : KeptX [q] w w') : MTab w' := by
  obtain ⟨t, mk, h⟩ := h
  exact ⟨t, mk, (hk.block 0 (block_lt h) (by simpa using Ne.symm hq)).trans h⟩
/-- What days answers. -/
def DaySays (q : Nat) (R : ByteArray) (e : Ending) (w w' : World) : Prop :=
  (∃ (n : Nat) (S : ByteArray), dateM R.data.toList = some (n, S.data.toList) ∧ S.size ≤ R.size ∧ e = .returned (.int .i64 ((n : Int) - 719162)) ∧ Rd q S w' ∧ KeptX [q] w w') ∨
  (dateM R.data.toList = none ∧ e = .panicked (PE 10) ∧ KeptX [q] w w')
set_option maxHeartbeats 4000000 in
theorem mOff_any (q : Nat) (R : ByteArray) (w : World) (h : Rd q R w) (hs : R.size ≤ 1000) :
    Calls Tryd.prog 62 #[.pointer (some ⟨q, 0, none⟩)] w fun e w' => PartSays q (offM R.data.toList) R e w w' := by
  have HS := show Hid (R.size ≤ 1000) from hs
  have HR0 := show Hid (Rd q R w ∧ R.size ≤ R.size ∧ KeptX [q] w w) from ⟨h, Nat.le_refl _, KeptX.refl _ _⟩
  clear h hs
  go_enter Tryd.func62, Tryd.ntmps62
  have hC := mNumber_any q 2 R w HR0.out.1 (by have := HR0.out.2.1; have := HS.out; omega) (by decide)
  go_wp2_with fail
  refine hC.mono ?_
  rintro e w1 (⟨n0, R1, m, z, rfl, hr, hk⟩ | ⟨m, rfl, hk⟩)
  rotate_left
  · exact ⟨rfl, .inr ⟨by simp [offM, m], rfl, HR0.out.2.2.trans hk⟩⟩
  have HE0 := show Hid (numM 2 R.data.toList = some (n0, R1.data.toList)) from m
  have HL0 := show Hid (n0 < 10 ^ 2) from numM_lt m
  have HR1 := show Hid (Rd q R1 w1 ∧ R1.size ≤ R.size ∧ KeptX [q] w w1) from ⟨hr, Nat.le_trans z HR0.out.2.1, HR0.out.2.2.trans hk⟩
  clear hC m z hr hk
  have hC : Calls Tryd.prog 43 #[.pointer (some ⟨q, 0, none⟩), .int .u8 58] w1 fun e w' => SignSays q R1 58 e w1 w' := mSign_any q R1 58 w1 HR1.out.1
  go_wp2_with fail
  refine hC.mono ?_
  rintro e w2 (⟨R2, m, rfl, hr, hk⟩ | ⟨m, rfl, hk⟩)
  rotate_left
  · exact ⟨rfl, .inr ⟨by simp [offM, HE0.out, m], rfl, HR1.out.2.2.trans hk⟩⟩
  have z := sign_size m
  have HE1 := show Hid (signM 58 R1.data.toList = some R2.data.toList) from m
  have HR2 := show Hid (Rd q R2 w2 ∧ R2.size ≤ R.size ∧ KeptX [q] w w2) from ⟨hr, Nat.le_trans z HR1.out.2.1, HR1.out.2.2.trans hk⟩
  clear hC m z hr hk
  have hC := mNumber_any q 2 R2 w2 HR2.out.1 (by have := HR2.out.2.1; have := HS.out; omega) (by decide)
  go_wp2_with fail
  refine hC.mono ?_
  rintro e w3 (⟨n2, R3, m, z, rfl, hr, hk⟩ | ⟨m, rfl, hk⟩)
  rotate_left
  · exact ⟨rfl, .inr ⟨by simp [offM, HE0.out, HE1.out, m], rfl, HR2.out.2.2.trans hk⟩⟩
  have HE2 := show Hid (numM 2 R2.data.toList = some (n2, R3.data.toList)) from m
  have HL2 := show Hid (n2 < 10 ^ 2) from numM_lt m
  have HR3 := show Hid (Rd q R3 w3 ∧ R3.size ≤ R.size ∧ KeptX [q] w w3) from ⟨hr, Nat.le_trans z HR2.out.2.1, HR2.out.2.2.trans hk⟩
  clear hC m z hr hk
  have b0 := HL0.out
  have b2 := HL2.out
  obtain ⟨t, ht⟩ : ∃ t, n0 * 3600000 + n2 * 60000 = t := ⟨_, rfl⟩
  have v1 : IntKind.i64.wrap ((n0 : Int) * 3600000) = (n0 : Int) * 3600000 := by rw [IntKind.wrap_i64]; omega
  have v2 : IntKind.i64.wrap ((n2 : Int) * 60000) = (n2 : Int) * 60000 := by rw [IntKind.wrap_i64]; omega
  have v3 : IntKind.i64.wrap ((n0 : Int) * 3600000 + (n2 : Int) * 60000) = (t : Int) := by rw [IntKind.wrap_i64]; omega
  clear b0 b2
  by_cases c1 : n2 ≤ 59
  case neg =>
    have i1 : ¬ (n2 : Int) ≤ 59 := by omega
    have HF := show Hid (offM R.data.toList = none) from by show offM R.data.toList = none; simp [offM, HE0.out, HE1.out, HE2.out, c1]
    have hN := mNeed_err 10 w3
    go_wp2_with fail
    refine hN.mono ?_
    rintro e w4 ⟨rfl, rfl⟩
    exact ⟨rfl, .inr ⟨HF.out, rfl, HR3.out.2.2⟩⟩
  have i1 : (n2 : Int) ≤ 59 := by omega
  by_cases c2 : t ≤ 50400000
  case neg =>
    have i2 : decide ((t : Int) ≤ 50400000) = false := decide_eq_false (by omega)
    have HF := show Hid (offM R.data.toList = none) from by show offM R.data.toList = none; simp [offM, HE0.out, HE1.out, HE2.out, ht, c2]
    have hN := mNeed_err 10 w3
    go_wp2_with fail
    refine hN.mono ?_
    rintro e w4 ⟨rfl, rfl⟩
    exact ⟨rfl, .inr ⟨HF.out, rfl, HR3.out.2.2⟩⟩
  have i2 : decide ((t : Int) ≤ 50400000) = true := decide_eq_true (by omega)
  have HF := show Hid (offM R.data.toList = some (t, R3.data.toList)) from by show offM R.data.toList = some (t, R3.data.toList); simp [offM, HE0.out, HE1.out, HE2.out, ht, c1, c2]
  have hN := mNeed_ok 10 w3
  clear c1 c2 ht
  go_wp2_with fail
  refine hN.mono ?_
  rintro e w4 ⟨rfl, rfl⟩
  clear hN
  go_wp2_with fail
  go_ret
  exact .inl ⟨_, R3, HF.out, HR3.out.2.1, rfl, HR3.out.1, HR3.out.2.2⟩
set_option maxHeartbeats 4000000 in
theorem mDaysR_any (q : Nat) (R : ByteArray) (w : World) (h : Rd q R w) (hs : R.size ≤ 1000) (hT : MTab w) (hq : q ≠ 0) :
    Calls Tryd.prog 42 #[.pointer (some ⟨q, 0, none⟩)] w fun e w' => DaySays q R e w w' := by
  have HS := show Hid (R.size ≤ 1000) from hs
  have HR0 := show Hid (Rd q R w ∧ R.size ≤ R.size ∧ KeptX [q] w w) from ⟨h, Nat.le_refl _, KeptX.refl _ _⟩
  clear h hs
  go_enter Tryd.func42, Tryd.ntmps42
  have HT := show Hid (∀ u, KeptX [q] w u → MTab u) from fun u hu => hT.keptX hq hu
  clear hT
  have hC := mNumber_any q 4 R w HR0.out.1 (by have := HR0.out.2.1; have := HS.out; omega) (by decide)
  go_wp2_with fail
  refine hC.mono ?_
  rintro e w1 (⟨n0, R1, m, z, rfl, hr, hk⟩ | ⟨m, rfl, hk⟩)
  rotate_left
  · exact ⟨rfl, .inr ⟨by simp [dateM, m], rfl, HR0.out.2.2.trans hk⟩⟩
  have HE0 := show Hid (numM 4 R.data.toList = some (n0, R1.data.toList)) from m
  have HL0 := show Hid (n0 < 10 ^ 4) from numM_lt m
  have HR1 := show Hid (Rd q R1 w1 ∧ R1.size ≤ R.size ∧ KeptX [q] w w1) from ⟨hr, Nat.le_trans z HR0.out.2.1, HR0.out.2.2.trans hk⟩
  clear hC m z hr hk
  have hC : Calls Tryd.prog 43 #[.pointer (some ⟨q, 0, none⟩), .int .u8 45] w1 fun e w' => SignSays q R1 45 e w1 w' := mSign_any q R1 45 w1 HR1.out.1
  go_wp2_with fail
  refine hC.mono ?_
  rintro e w2 (⟨R2, m, rfl, hr, hk⟩ | ⟨m, rfl, hk⟩)
  rotate_left
  · exact ⟨rfl, .inr ⟨by simp [dateM, HE0.out, m], rfl, HR1.out.2.2.trans hk⟩⟩
  have z := sign_size m
  have HE1 := show Hid (signM 45 R1.data.toList = some R2.data.toList) from m
  have HR2 := show Hid (Rd q R2 w2 ∧ R2.size ≤ R.size ∧ KeptX [q] w w2) from ⟨hr, Nat.le_trans z HR1.out.2.1, HR1.out.2.2.trans hk⟩
  clear hC m z hr hk
  have hC := mNumber_any q 2 R2 w2 HR2.out.1 (by have := HR2.out.2.1; have := HS.out; omega) (by decide)
  go_wp2_with fail
  refine hC.mono ?_
  rintro e w3 (⟨n2, R3, m, z, rfl, hr, hk⟩ | ⟨m, rfl, hk⟩)
  rotate_left
  · exact ⟨rfl, .inr ⟨by simp [dateM, HE0.out, HE1.out, m], rfl, HR2.out.2.2.trans hk⟩⟩
  have HE2 := show Hid (numM 2 R2.data.toList = some (n2, R3.data.toList)) from m
  have HL2 := show Hid (n2 < 10 ^ 2) from numM_lt m
  have HR3 := show Hid (Rd q R3 w3 ∧ R3.size ≤ R.size ∧ KeptX [q] w w3) from ⟨hr, Nat.le_trans z HR2.out.2.1, HR2.out.2.2.trans hk⟩
  clear hC m z hr hk
  have hC : Calls Tryd.prog 43 #[.pointer (some ⟨q, 0, none⟩), .int .u8 45] w3 fun e w' => SignSays q R3 45 e w3 w' := mSign_any q R3 45 w3 HR3.out.1
  go_wp2_with fail
  refine hC.mono ?_
  rintro e w4 (⟨R4, m, rfl, hr, hk⟩ | ⟨m, rfl, hk⟩)
  rotate_left
  · exact ⟨rfl, .inr ⟨by simp [dateM, HE0.out, HE1.out, HE2.out, m], rfl, HR3.out.2.2.trans hk⟩⟩
  have z := sign_size m
  have HE3 := show Hid (signM 45 R3.data.toList = some R4.data.toList) from m
  have HR4 := show Hid (Rd q R4 w4 ∧ R4.size ≤ R.size ∧ KeptX [q] w w4) from ⟨hr, Nat.le_trans z HR3.out.2.1, HR3.out.2.2.trans hk⟩
  clear hC m z hr hk
  have hC := mNumber_any q 2 R4 w4 HR4.out.1 (by have := HR4.out.2.1; have := HS.out; omega) (by decide)
  go_wp2_with fail
  refine hC.mono ?_
  rintro e w5 (⟨n4, R5, m, z, rfl, hr, hk⟩ | ⟨m, rfl, hk⟩)
  rotate_left
  · exact ⟨rfl, .inr ⟨by simp [dateM, HE0.out, HE1.out, HE2.out, HE3.out, m], rfl, HR4.out.2.2.trans hk⟩⟩
  have HE4 := show Hid (numM 2 R4.data.toList = some (n4, R5.data.toList)) from m
  have HL4 := show Hid (n4 < 10 ^ 2) from numM_lt m
  have HR5 := show Hid (Rd q R5 w5 ∧ R5.size ≤ R.size ∧ KeptX [q] w w5) from ⟨hr, Nat.le_trans z HR4.out.2.1, HR4.out.2.2.trans hk⟩
  clear hC m z hr hk
  have hT5 := HT.out w5 HR5.out.2.2
  by_cases c : IsDay n0 n2 n4
  case neg =>
    have HF := show Hid (dateM R.data.toList = none) from by show dateM R.data.toList = none; simp [dateM, HE0.out, HE1.out, HE2.out, HE3.out, HE4.out, c]
    have hD := mDays_bad n0 n2 n4 w5 hT5 c
    have hN := mNeed_err 10 w5
    clear c hT5
    go_wp2_with fail
    refine hD.mono ?_
    rintro e w6 ⟨rfl, rfl⟩
    go_wp2_with fail
    refine hN.mono ?_
    rintro e w7 ⟨rfl, rfl⟩
    exact ⟨rfl, .inr ⟨HF.out, rfl, HR5.out.2.2⟩⟩
  have HF := show Hid (dateM R.data.toList = some (dayN n0 n2 n4, R5.data.toList)) from by show dateM R.data.toList = some (dayN n0 n2 n4, R5.data.toList); simp [dateM, HE0.out, HE1.out, HE2.out, HE3.out, HE4.out, c]
  have hD := mDays_ok n0 n2 n4 w5 hT5 c
  have hN := mNeed_ok 10 w5
  clear c hT5
  go_wp2_with fail
  refine hD.mono ?_
  rintro e w6 ⟨rfl, rfl⟩
  go_wp2_with fail
  refine hN.mono ?_
  rintro e w7 ⟨rfl, rfl⟩
  clear hN hD
  go_wp2_with fail
  go_ret
  exact .inl ⟨_, R5, HF.out, HR5.out.2.1, rfl, HR5.out.1, HR5.out.2.2⟩
end Go.Proofs.YtbepjlhknmhmeaaDoor
