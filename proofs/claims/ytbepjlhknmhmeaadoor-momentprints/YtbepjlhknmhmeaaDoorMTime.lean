/-
  Package moment: time.
-/
import Derived.Test.YtbepjlhknmhmeaaDoorMClock
namespace Go.Proofs.YtbepjlhknmhmeaaDoor
open Go.RowKit Ch
set_option maxRecDepth 100000

/-- What time answers. -/
def TimeSays (q : Nat) (R : ByteArray) (e : Ending) (w w' : World) : Prop :=
  (∃ n : Int, parseM R.data.toList = some n ∧ e = .returned (.int .i64 n) ∧ KeptX [q] w w') ∨
  (parseM R.data.toList = none ∧ e = .panicked (PE 10) ∧ KeptX [q] w w')
theorem dateM_lt {s t : List UInt8} {n : Nat} (h : dateM s = some (n, t)) : n < 3652059 := by
  have key : ∀ (y m d : Nat), IsDay y m d → dayN y m d < 3652059 := fun y m d hd => by
    have h1 := (day_year hd).2
    have h2 := aheadY_le (a := y + 1) (b := 10000) (by omega) (by have := hd.1.2; omega)
    rw [aheadY_end] at h2
    omega
  unfold dateM at h
  cases h1 : numM 4 s with
  | none => rw [h1] at h; cases h
  | some a =>
  rw [h1] at h
  simp only [Option.bind_some] at h
  cases h2 : signM 45 a.2 with
  | none => rw [h2] at h; cases h
  | some b =>
  rw [h2] at h
  simp only [Option.bind_some] at h
  cases h3 : numM 2 b with
  | none => rw [h3] at h; cases h
  | some c =>
  rw [h3] at h
  simp only [Option.bind_some] at h
  cases h4 : signM 45 c.2 with
  | none => rw [h4] at h; cases h
  | some d =>
  rw [h4] at h
  simp only [Option.bind_some] at h
  cases h5 : numM 2 d with
  | none => rw [h5] at h; cases h
  | some f =>
  rw [h5] at h
  simp only [Option.bind_some] at h
  split at h
  · rename_i hc
    rw [← (Prod.mk.inj (Option.some.inj h)).1]
    exact key _ _ _ hc
  · cases h
theorem clockM_le {s t : List UInt8} {n : Nat} (h : clockM s = some (n, t)) : n ≤ 1000000000 := by
  unfold clockM at h
  cases h1 : numM 2 s with
  | none => rw [h1] at h; cases h
  | some a =>
  rw [h1] at h
  simp only [Option.bind_some] at h
  cases h2 : signM 58 a.2 with
  | none => rw [h2] at h; cases h
  | some b =>
  rw [h2] at h
  simp only [Option.bind_some] at h
  cases h3 : numM 2 b with
  | none => rw [h3] at h; cases h
  | some c =>
  rw [h3] at h
  simp only [Option.bind_some] at h
  cases h4 : signM 58 c.2 with
  | none => rw [h4] at h; cases h
  | some d =>
  rw [h4] at h
  simp only [Option.bind_some] at h
  cases h5 : numM 2 d with
  | none => rw [h5] at h; cases h
  | some f =>
  rw [h5] at h
  simp only [Option.bind_some] at h
  cases h6 : fracM f.2 with
  | none => rw [h6] at h; cases h
  | some g =>
  rw [h6] at h
  simp only [Option.bind_some] at h
  split at h
  · rename_i hc
    have h7 := (Prod.mk.inj (Option.some.inj h)).1
    have h8 : thousM g.1 < 1000 := by
      have hd : ∀ c ∈ g.1, isDig c = true := by
        unfold fracM at h6
        split at h6
        · split at h6
          · rw [← (Prod.mk.inj (Option.some.inj h6)).1]
            exact take_dig _
          · cases h6
        · rw [← (Prod.mk.inj (Option.some.inj h6)).1]
          intro c hc
          cases hc
      have h1 : ∀ c ∈ (g.1 ++ [48, 48, 48]).take 3, isDig c = true := fun c hc => by
        rcases List.mem_append.1 (List.mem_of_mem_take hc) with h2 | h2
        · exact hd c h2
        · have h3 : ∀ x ∈ ([48, 48, 48] : List UInt8), isDig x = true := by decide
          exact h3 c h2
      have h4 := valL_lt _ h1
      have h5 : ((g.1 ++ [48, 48, 48]).take 3).length ≤ 3 := by rw [List.length_take]; omega
      have h6 : 10 ^ ((g.1 ++ [48, 48, 48]).take 3).length ≤ 10 ^ 3 := Nat.pow_le_pow_right (by decide) h5
      unfold thousM
      omega
    obtain ⟨c1, c2, c3⟩ := hc
    have c4 : a.1 ≤ 24 := by
      rcases c3 with c3 | c3
      · omega
      · omega
    omega
  · cases h
set_option maxHeartbeats 4000000 in
theorem mTime_any (q : Nat) (R : ByteArray) (w : World) (h : Rd q R w) (hs : R.size ≤ 1000) (hT : MTab w) (hq : q ≠ 0) :
    Calls Tryd.prog 28 #[.pointer (some ⟨q, 0, none⟩)] w fun e w' => TimeSays q R e w w' := by
  have hD := mDaysR_any q R w h hs hT hq
  have HS := show Hid (R.size ≤ 1000) from hs
  clear h hs hT hq
  go_enter Tryd.func28, Tryd.ntmps28
  go_wp2_with fail
  refine hD.mono ?_
  rintro e w1 (⟨n, R1, m, z, rfl, hr, hk⟩ | ⟨m, rfl, hk⟩)
  rotate_left
  · exact ⟨rfl, .inr ⟨by simp [parseM, m], rfl, hk⟩⟩
  have bn := dateM_lt m
  obtain ⟨ms, hms⟩ : ∃ ms : Int, ((n : Int) - 719162) * 86400000 = ms := ⟨_, rfl⟩
  have v1 : IntKind.i64.wrap (((n : Int) - 719162) * 86400000) = ms := by rw [IntKind.wrap_i64]; omega
  have bm : -62135596800000 ≤ ms ∧ ms ≤ 253402300800000 := by omega
  have hG : Calls Tryd.prog 43 #[.pointer (some ⟨q, 0, none⟩), .int .u8 84] w1 fun e w' => SignSays q R1 84 e w1 w' := mSign_any q R1 84 w1 hr
  have H1 := show Hid (dateM R.data.toList = some (n, R1.data.toList) ∧ R1.size ≤ R.size ∧ KeptX [q] w w1 ∧ ((n : Int) - 719162) * 86400000 = ms ∧ -62135596800000 ≤ ms ∧ ms ≤ 253402300800000) from ⟨m, z, hk, hms, bm⟩
  clear hD m z hr hk bn hms bm
  go_wp2_with fail
  refine hG.mono ?_
  rintro e w2 (⟨R2, m, rfl, hr, hk⟩ | ⟨m, rfl, hk⟩)
  rotate_left
  · exact ⟨rfl, .inr ⟨by simp [parseM, H1.out.1, m], rfl, H1.out.2.2.1.trans hk⟩⟩
  have hC := mClock_any q R2 w2 hr (by have := sign_size m; have := H1.out.2.1; have := HS.out; omega)
  have H2 := show Hid (signM 84 R1.data.toList = some R2.data.toList ∧ R2.size ≤ R.size ∧ KeptX [q] w w2) from ⟨m, Nat.le_trans (sign_size m) H1.out.2.1, H1.out.2.2.1.trans hk⟩
  clear hG m hr hk v1
  go_wp2_with fail
  refine hC.mono ?_
  rintro e w3 (⟨t, R3, m, z, rfl, hr, hk⟩ | ⟨m, rfl, hk⟩)
  rotate_left
  · exact ⟨rfl, .inr ⟨by simp [parseM, H1.out.1, H2.out.1, m], rfl, H2.out.2.2.trans hk⟩⟩
  have bt := clockM_le m
  have v2 : IntKind.i64.wrap (ms + (t : Int)) = ms + (t : Int) := by have := H1.out.2.2.2.2; rw [IntKind.wrap_i64]; omega
  have hZ := mZone_any q R3 w3 hr (by have := H2.out.2.1; have := HS.out; omega)
  have H3 := show Hid (clockM R2.data.toList = some (t, R3.data.toList) ∧ R3.size ≤ R.size ∧ KeptX [q] w w3 ∧ t ≤ 1000000000) from ⟨m, Nat.le_trans z H2.out.2.1, H2.out.2.2.trans hk, bt⟩
  clear hC m z hr hk bt
  go_wp2_with fail
  refine hZ.mono ?_
  rintro e w4 (⟨o, R4, m, bo, z, rfl, hr, hk⟩ | ⟨m, rfl, hk⟩)
  rotate_left
  · exact ⟨rfl, .inr ⟨by simp [parseM, H1.out.1, H2.out.1, H3.out.1, m], rfl, H3.out.2.2.1.trans hk⟩⟩
  obtain ⟨r, hr2⟩ : ∃ r, ms + (t : Int) - o = r := ⟨_, rfl⟩
  have v3 : IntKind.i64.wrap (ms + (t : Int) - o) = r := by have := H1.out.2.2.2.2; have := H3.out.2.2.2; rw [IntKind.wrap_i64]; omega
  have g0 := block_cell (v := .string R4) 0 hr rfl
  have H4 := show Hid (parseM R.data.toList = (if R4.data.toList = [] then some r else none) ∧ KeptX [q] w w4) from ⟨by
    unfold parseM
    rw [H1.out.1]
    show ((signM 84 R1.data.toList).bind _) = _
    rw [H2.out.1]
    show ((clockM R2.data.toList).bind _) = _
    rw [H3.out.1]
    show ((zoneM R3.data.toList).bind _) = _
    rw [m]
    show (if R4.data.toList = [] then some (((n : Int) - 719162) * 86400000 + (t : Int) - o) else none) = _
    rw [H1.out.2.2.2.1, hr2], H3.out.2.2.1.trans hk⟩
  clear hZ m z hr hk bo hr2 v2
  by_cases c : R4.data.toList = []
  · have hne : R4.toList.isEmpty = true := by rw [Lib.toList_data, c]; rfl
    have HF := show Hid (parseM R.data.toList = some r) from H4.out.1.trans (if_pos c)
    have hN := mNeed_ok 10 w4
    clear c
    go_wp2_with fail
    refine hN.mono ?_
    rintro e w5 ⟨rfl, rfl⟩
    clear hN
    go_wp2_with fail
    go_ret
    exact .inl ⟨r, HF.out, rfl, H4.out.2⟩
  · have hne : R4.toList.isEmpty = false := by
      rw [Lib.toList_data]
      cases h : R4.data.toList with
      | nil => exact absurd h c
      | cons a b => rfl
    have HF := show Hid (parseM R.data.toList = none) from H4.out.1.trans (if_neg c)
    have hN := mNeed_err 10 w4
    clear c
    go_wp2_with fail
    refine hN.mono ?_
    rintro e w5 ⟨rfl, rfl⟩
    exact ⟨rfl, .inr ⟨HF.out, rfl, H4.out.2⟩⟩
end Go.Proofs.YtbepjlhknmhmeaaDoor
