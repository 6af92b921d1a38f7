/-
  The law MomentShifts.
-/
import Derived.Test.YtbepjlhknmhmeaaDoorLMOrders
import Derived.Test.YtbepjlhknmhmeaaDoorMLit
import Derived.Test.YtbepjlhknmhmeaaDoorHFree
namespace Go.Proofs.YtbepjlhknmhmeaaDoor
open Go.RowKit Ch
set_option maxRecDepth 100000

theorem bare_of {c : UInt8} (h : isDig c = true ∨ c = 58 ∨ c = 46 ∨ c = 45 ∨ c = 84 ∨ c = 43 ∨ c = 90) : blank8 c = false := by
  rcases h with h | rfl | rfl | rfl | rfl | rfl | rfl
  · unfold isDig at h
    simp only [Bool.and_eq_true, decide_eq_true_eq] at h
    unfold blank8 blankB
    simp
    omega
  all_goals rfl
theorem textZ_append (y m d t : Nat) (a b : List UInt8) : textZ y m d t (a ++ b) = textZ y m d t a ++ b := by simp [textZ]
/-- A text without its last byte. -/
theorem text_front (y m d t : Nat) (X : ByteArray) (hX : (⟨(textL y m d t).toArray⟩ : ByteArray) = X) (n : Nat) (hn : n = X.size - 1) : (X.extract 0 n).data.toList = textZ y m d t [] := by
  subst hn
  have h1 : X.data.toList = textZ y m d t [] ++ [90] := by
    rw [← hX, ← textZ_append]
    rfl
  have h2 : X.size = (textZ y m d t []).length + 1 := by
    show X.data.size = _
    rw [← Array.length_toList, h1, List.length_append]
    rfl
  rw [Lib.extract_data, h2]
  simp [h1]
/-- What is read of a moment's text with another zone, or with more digits. -/
theorem shift_parse {ms : Int} {y m d t : Nat} (hm : MomOf ms y m d t) (S : ByteArray) (g z : List UInt8) (o : Int) (hS : S.data.toList = textZ y m d t (g ++ z)) (hz : Zn z) (ho : zoneM z = some (o, [])) (hg : ∀ c ∈ g, isDig c = true) (h6 : g.length ≤ 6) (hf : g = [] ∨ t % 1000 ≠ 0) (h9 : z.length ≤ 9)
    (hb : ∀ c ∈ z, isDig c = true ∨ c = 58 ∨ c = 46 ∨ c = 45 ∨ c = 84 ∨ c = 43 ∨ c = 90) : parseT S = if IsMom (ms - o) then (ms - o, 0) else (0, 21) := by
  have hsz : S.size ≤ 64 := by
    show S.data.size ≤ 64
    rw [← Array.length_toList, hS, textZ_length, List.length_append]
    split <;> omega
  rw [parseT_bare hsz (fun c hc => by
    rw [hS] at hc
    rcases textZ_mem hc with h | h | h | h | h | h
    · exact bare_of (.inl h)
    · exact bare_of (.inr (.inl h))
    · exact bare_of (.inr (.inr (.inl h)))
    · exact bare_of (.inr (.inr (.inr (.inl h))))
    · exact bare_of (.inr (.inr (.inr (.inr (.inl h)))))
    · rcases List.mem_append.1 h with h | h
      · exact bare_of (.inl (hg c h))
      · exact bare_of (hb c h))]
  unfold parseA
  rw [hS, parse_text hm.day hm.time hz ho hg h6 hf]
  have e : ((dayN y m d : Int) - 719162) * 86400000 + (t : Int) - o = ms - o := by rw [hm.is]; omega
  rw [e]
  rfl
theorem offL_bare {K : Nat} (x : UInt8) (hx : x = 45 ∨ x = 43) : ∀ c ∈ x :: offL K, isDig c = true ∨ c = 58 ∨ c = 46 ∨ c = 45 ∨ c = 84 ∨ c = 43 ∨ c = 90 := by
  intro c hc
  rcases List.mem_cons.1 hc with rfl | hc
  · rcases hx with rfl | rfl
    · exact .inr (.inr (.inr (.inl rfl)))
    · exact .inr (.inr (.inr (.inr (.inr (.inl rfl)))))
  · rcases offL_mem hc with h | h
    · exact .inl h
    · exact .inr (.inl h)
theorem offL_length (K : Nat) : (offL K).length = 5 := by
  unfold offL
  rw [List.length_append, List.length_cons, padL_length, padL_length]
theorem one_shape {w : World} {v : Value} {c : UInt8} (h : IsBytes w v ⟨#[c]⟩) : ∃ y k, v = .slice y 1 k := by
  obtain ⟨y, k, rfl, _⟩ := h
  exact ⟨y, k, rfl⟩
def semLS (ms : Int) (more c5 : UInt8) (X : ByteArray) : Nat → Value → World → Prop := fun ix v u => match ix with
  | 0 => v = .string X
  | 1 => v = .string (X.extract 0 23)
  | 2 => v = .int .u8 (more.toNat : Int)
  | 3 => v = .int .u8 ((more.toNat : Int) % 10)
  | 4 => v = .int .u8 (c5.toNat : Int)
  | 5 => IsBytes u v ⟨#[c5]⟩
  | 6 => v = .string ⟨#[c5]⟩
  | 7 => v = .string ((X.extract 0 23) ++ ⟨#[c5]⟩)
  | 8 => v = .string (((X.extract 0 23) ++ ⟨#[c5]⟩) ++ ⟨#[90]⟩)
  | 9 => v = .tuple #[.int .i64 ms, .int .i64 0]
  | 10 => v = .tuple #[.int .i64 ms, .int .i64 0]
  | 11 => v = .int .i64 ms
  | 12 => v = .int .i64 0
  | 13 => v = .int .i64 ms
  | 14 => v = .int .i64 0
  | _ => True
set_option maxHeartbeats 16000000 in
theorem lmShifts_any (ms mi : Int) (more : UInt8) (w : World) (h : Laid10 w) : Calls Tryd.prog 7 #[.int .i64 ms, .int .i64 mi, .int .u8 (more.toNat : Int)] w fun e w' => e = .returned (.bool true) ∧ Below w.heap.size w w' := by
  have hAw := lmAwake_any w h
  have HL := show Hid (∀ u, Below w.heap.size w u → Laid10 u) from fun u hu => h.later hu
  have hIa := fun u => rmIs_any ms u
  clear h
  obtain ⟨r, hr⟩ : ∃ r : Int, mi.tmod 841 = r := ⟨_, rfl⟩
  have hr1 : -841 < r ∧ r < 841 := by
    rw [← hr]
    have h1 := Int.tmod_lt_of_pos mi (by decide : (0 : Int) < 841)
    have h2 := Int.lt_tmod_of_pos mi (by decide : (0 : Int) < 841)
    omega
  obtain ⟨R, hR⟩ : ∃ R : Nat, r + 841 = (R : Int) := ⟨(r + 841).toNat, by omega⟩
  have wR : IntKind.i64.wrap (r + 841) = (R : Int) := by rw [IntKind.wrap_i64]; omega
  obtain ⟨K, hK⟩ : ∃ K : Nat, R % 841 = K := ⟨_, rfl⟩
  have wK : (R : Int).tmod 841 = (K : Int) := by rw [← hK]; rfl
  have hK8 : (K : Int) ≤ 840 := by omega
  have HK := show Hid (K ≤ 840) from by show K ≤ 840; omega
  obtain ⟨c1, hc1⟩ : ∃ c, UInt8.ofNat (48 + K / 60 / 10 % 10) = c := ⟨_, rfl⟩
  obtain ⟨c2, hc2⟩ : ∃ c, UInt8.ofNat (48 + K / 60 % 10) = c := ⟨_, rfl⟩
  obtain ⟨c3, hc3⟩ : ∃ c, UInt8.ofNat (48 + K % 60 / 10 % 10) = c := ⟨_, rfl⟩
  obtain ⟨c4, hc4⟩ : ∃ c, UInt8.ofNat (48 + K % 10) = c := ⟨_, rfl⟩
  have HO := show Hid (offL K = [c1, c2, 58, c3, c4]) from by
    show offL K = _
    rw [← hc1, ← hc2, ← hc3, ← hc4, ← Nat.mod_mod_of_dvd K (show 10 ∣ 60 by decide)]
    rfl
  have e1 : 48 + (K : Int) / 60 / 10 = (c1.toNat : Int) := by rw [← hc1, digit_toNat, Nat.mod_eq_of_lt (by omega)]; omega
  have e2 : 48 + (K : Int) / 60 % 10 = (c2.toNat : Int) := by rw [← hc2, digit_toNat]; omega
  have e3 : 48 + (K : Int) % 60 / 10 = (c3.toNat : Int) := by rw [← hc3, digit_toNat]; omega
  have e4 : 48 + (K : Int) % 10 = (c4.toNat : Int) := by rw [← hc4, digit_toNat]; omega
  go_enter Tryd.func7, Tryd.ntmps7
  by_cases h1 : IsMom ms
  case neg =>
    simp only [decide_eq_false h1] at hIa
    clear hr1 hR hK
    go_wp2_with fail
    refine hAw.mono ?_
    rintro e w1 ⟨rfl, b1⟩
    have hAw2 := lmAwake_any w1 (HL.out w1 b1)
    have HB := show Hid (Below w.heap.size w w1) from b1
    clear hAw b1
    go_wp2_with fail
    refine (hIa w1).mono ?_
    rintro e w1 ⟨rfl, rfl⟩
    go_wp2_with fail
    refine hAw2.mono ?_
    rintro e w2 ⟨rfl, b2⟩
    have HF := show Hid (Below w.heap.size w w2) from bl2 HB.out b2
    clear b2 hAw2
    go_wp2_with fail
    go_ret
    exact ⟨rfl, HF.out⟩
  simp only [decide_eq_true h1] at hIa
  have h1' := h1
  obtain ⟨y, m, d, t, hm⟩ := mom_ex h1
  obtain ⟨X, hX⟩ : ∃ X : ByteArray, (⟨(textL y m d t).toArray⟩ : ByteArray) = X := ⟨_, rfl⟩
  have hs := text_size hm
  rw [hX] at hs
  have HS := show Hid (X.size = if t % 1000 = 0 then 20 else 24) from hs
  have hs20 : (20 : Int) ≤ (X.size : Int) := by rw [hs]; split <;> omega
  have hsn : ¬ ((X.size : Int) < 20) := by omega
  have hsm : X.size ≤ 24 := by rw [hs]; split <;> omega
  have HPX := show Hid (∀ w, Laid10 w → Calls Tryd.prog 9 #[.int .i64 ms] w fun e w' => e = .returned (.tuple #[.string X, .int .i64 0]) ∧ Below w.heap.size w w') from fun w hw => by rw [← hX]; exact mPrint_ok ms y m d t w hm hw.months hw.pow
  obtain ⟨L, hL⟩ : ∃ L : Int, ms - 60000 * (K : Int) = L := ⟨_, rfl⟩
  obtain ⟨H, hH⟩ : ∃ H : Int, ms + 60000 * (K : Int) = H := ⟨_, rfl⟩
  have wL : wrap64 L = L := by unfold IsMom at h1; unfold wrap64; omega
  have wH : wrap64 H = H := by unfold IsMom at h1; unfold wrap64; omega
  have wL' : IntKind.i64.wrap L = L := by unfold IsMom at h1; rw [IntKind.wrap_i64]; omega
  have wH' : IntKind.i64.wrap H = H := by unfold IsMom at h1; rw [IntKind.wrap_i64]; omega
  have hfr := text_front y m d t X hX
  have HP1 := show Hid (∀ u, Laid10 u → Calls Tryd.prog 13 #[.string (X.extract 0 (X.size - 1) ++ ⟨#[43]⟩ ++ ⟨#[c1, c2, 58, c3, c4]⟩)] u fun e w' => e = .returned (.tuple #[.int .i64 (if IsMom L then L else 0), .int .i64 (if IsMom L then 0 else 21)]) ∧ Below u.heap.size u w') from fun u hu => by
    have h1 := mParseT_any (X.extract 0 (X.size - 1) ++ ⟨#[43]⟩ ++ ⟨#[c1, c2, 58, c3, c4]⟩) u hu.months hu.some0
    rw [shift_parse hm _ [] (43 :: offL K) ((60000 * K : Nat) : Int) (by rw [ByteArray.data_append, ByteArray.data_append, Array.toList_append, Array.toList_append, hfr _ rfl, HO.out, textZ_append]; simp) (zn_more _) (zoneM_more HK.out) (by simp) (by simp) (.inl rfl) (by rw [List.length_cons, offL_length]; omega) (offL_bare 43 (.inr rfl))] at h1
    have e : ms - ((60000 * K : Nat) : Int) = L := by omega
    rw [e] at h1
    by_cases c : IsMom L
    · simp only [if_pos c] at h1 ⊢
      exact h1
    · simp only [if_neg c] at h1 ⊢
      exact h1
  have HP2 := show Hid (∀ u, Laid10 u → Calls Tryd.prog 13 #[.string (X.extract 0 (X.size - 1) ++ ⟨#[45]⟩ ++ ⟨#[c1, c2, 58, c3, c4]⟩)] u fun e w' => e = .returned (.tuple #[.int .i64 (if IsMom H then H else 0), .int .i64 (if IsMom H then 0 else 21)]) ∧ Below u.heap.size u w') from fun u hu => by
    have h1 := mParseT_any (X.extract 0 (X.size - 1) ++ ⟨#[45]⟩ ++ ⟨#[c1, c2, 58, c3, c4]⟩) u hu.months hu.some0
    rw [shift_parse hm _ [] (45 :: offL K) (-((60000 * K : Nat) : Int)) (by rw [ByteArray.data_append, ByteArray.data_append, Array.toList_append, Array.toList_append, hfr _ rfl, HO.out, textZ_append]; simp) (zn_less _) (zoneM_less HK.out) (by simp) (by simp) (.inl rfl) (by rw [List.length_cons, offL_length]; omega) (offL_bare 45 (.inl rfl))] at h1
    have e : ms - -((60000 * K : Nat) : Int) = H := by omega
    rw [e] at h1
    by_cases c : IsMom H
    · simp only [if_pos c] at h1 ⊢
      exact h1
    · simp only [if_neg c] at h1 ⊢
      exact h1
  obtain ⟨c5, hc5⟩ : ∃ c : UInt8, 48 + more % 10 = c := ⟨_, rfl⟩
  have h5n : c5.toNat = 48 + more.toNat % 10 := by
    rw [← hc5, UInt8.toNat_add, UInt8.toNat_mod]
    show (48 + more.toNat % 10) % 256 = _
    omega
  have HE5 := show Hid (48 + (more.toNat : Int) % 10 = (c5.toNat : Int)) from by show 48 + (more.toNat : Int) % 10 = (c5.toNat : Int); omega
  have HW5 := show Hid (IntKind.u8.wrap (c5.toNat : Int) = (c5.toNat : Int)) from by show IntKind.u8.wrap (c5.toNat : Int) = (c5.toNat : Int); rw [IntKind.wrap_u8]; have := c5.toNat_lt; omega
  have HP3 := show Hid (X.size = 24 → ∀ u, Laid10 u → Calls Tryd.prog 13 #[.string (X.extract 0 23 ++ ⟨#[c5]⟩ ++ ⟨#[90]⟩)] u fun e w' => e = .returned (.tuple #[.int .i64 ms, .int .i64 0]) ∧ Below u.heap.size u w') from fun hz u hu => by
    have h1 := mParseT_any (X.extract 0 23 ++ ⟨#[c5]⟩ ++ ⟨#[90]⟩) u hu.months hu.some0
    have hd : isDig c5 = true := by
      unfold isDig
      rw [h5n]
      simp
      omega
    have ht : t % 1000 ≠ 0 := fun h0 => by
      have := HS.out
      rw [if_pos h0] at this
      omega
    rw [shift_parse hm _ [c5] [90] 0 (by rw [ByteArray.data_append, ByteArray.data_append, Array.toList_append, Array.toList_append, hfr _ (by omega), textZ_append, ← textZ_append, ← textZ_append]; simp [textZ]) zn_z zoneM_z (fun c hc => by obtain rfl := List.mem_singleton.1 hc; exact hd) (by simp) (.inr ht) (by simp) (fun c hc => by obtain rfl := List.mem_singleton.1 hc; exact .inr (.inr (.inr (.inr (.inr (.inr rfl)))))) , Int.sub_zero, if_pos h1'] at h1
    exact h1
  clear hr1 hR hK hs hc1 hc2 hc3 hc4 hX hfr hc5 h5n h1 h1' hm HS
  go_wp2_with fail
  refine hAw.mono ?_
  rintro e w1 ⟨rfl, b1⟩
  clear hAw
  go_wp2_with fail
  refine (hIa w1).mono ?_
  rintro e w1 ⟨rfl, rfl⟩
  have hPX := HPX.out w1 (HL.out w1 b1)
  clear hIa
  go_wp2_with fail
  refine hPX.mono ?_
  rintro e w2 ⟨rfl, b2⟩
  have b12 := bl2 b1 b2
  have hcv := lit_conv w2 [c1, c2, 58, c3, c4] #[.int .u8 (c1.toNat : Int), .int .u8 (c2.toNat : Int), .int .u8 58, .int .u8 (c3.toNat : Int), .int .u8 (c4.toNat : Int)] rfl 5 rfl (by unfold maxLen; decide)
  have b3 := alB w2 (.cells #[.int .u8 (c1.toNat : Int), .int .u8 (c2.toNat : Int), .int .u8 58, .int .u8 (c3.toNat : Int), .int .u8 (c4.toNat : Int)] 5)
  obtain ⟨W3, hW3⟩ : ∃ W, w2.alloc (.cells #[.int .u8 (c1.toNat : Int), .int .u8 (c2.toNat : Int), .int .u8 58, .int .u8 (c3.toNat : Int), .int .u8 (c4.toNat : Int)] 5) = W := ⟨_, rfl⟩
  rw [hW3] at hcv b3
  have HB3 := show Hid (Below w.heap.size w W3) from bl2 b12 b3
  have hP1 := HP1.out W3 (HL.out W3 HB3.out)
  clear hPX b1 b2 b12 b3 HP1
  by_cases cL : IsMom L
  · by_cases cH : IsMom H
    · have hLo := fun u => rmIs_any L u
      have hHi := fun u => rmIs_any H u
      simp only [if_pos cL] at hP1
      simp only [decide_eq_true cL] at hLo
      simp only [if_pos cH] at HP2
      simp only [decide_eq_true cH] at hHi
      clear cL cH
      go_wp2_with fail
      refine hP1.mono ?_
      rintro e w4 ⟨rfl, b4⟩
      have HB4 := show Hid (Below w.heap.size w w4) from bl2 HB3.out b4
      have hP2 := HP2.out w4 (HL.out w4 HB4.out)
      clear hP1 b4 HP2
      go_wp2_with fail
      refine hP2.mono ?_
      rintro e w5 ⟨rfl, b5⟩
      have HB5 := show Hid (Below w.heap.size w w5) from bl2 HB4.out b5
      clear hP2 b5
      go_wp2_with fail
      refine (hLo w5).mono ?_
      rintro e w5 ⟨rfl, rfl⟩
      go_wp2_with fail
      refine (hHi w5).mono ?_
      rintro e w5 ⟨rfl, rfl⟩
      clear hLo hHi
      by_cases hz : X.size = 24
      case neg =>
        have z3 : ((X.size : Int) != 24) = true := bne_iff_ne.2 (by omega)
        clear hz
        go_wp2_with fail
        go_ret
        exact ⟨rfl, HB5.out⟩
      have z3 : ((X.size : Int) != 24) = false := by rw [hz]; rfl
      have HC := show Hid (∀ u, Below w5.drew.heap.size w5.drew u → Calls Tryd.prog 13 #[.string (X.extract 0 23 ++ ⟨#[c5]⟩ ++ ⟨#[90]⟩)] u fun e w' => e = .returned (.tuple #[.int .i64 ms, .int .i64 0]) ∧ Below u.heap.size u w') from fun u hu => HP3.out hz u (HL.out u (bl2 (bl2 HB5.out (Below.refl _ w5).drew) hu))
      have HB := show Hid (∀ u, Below w5.drew.heap.size w5.drew u → Below w.heap.size w u) from fun u hu => bl2 (bl2 HB5.out (Below.refl _ w5).drew) hu
      have HZ := show Hid (X.size = 24) from hz
      clear hz HP3
      go_wp2_with fail
      clear z3
      · skip
        refine free_walk (Sem := semLS ms more c5 X) rfl (n := 166) (by kernel_rfl) rfl (by kernel_rfl) ?_ ?_ ?_
        · intro ix v u u' h hb
          match ix, h with
          | 0, h => exact h
          | 1, h => exact h
          | 2, h => exact h
          | 3, h => exact h
          | 4, h => exact h
          | 5, h => exact IsBytes.later h hb
          | 6, h => exact h
          | 7, h => exact h
          | 8, h => exact h
          | 9, h => exact h
          | 10, h => exact h
          | 11, h => exact h
          | 12, h => exact h
          | 13, h => exact h
          | 14, h => exact h
          | _ + 15, _ => exact trivial
        · intro ix o a u ho hF hbu
          match ix, ho, hF with
          | 0, ho, hF =>
            obtain rfl := Option.some.inj ho
            have h8 : a.tmps[8]? = some (.string X) := (hF.out 8 rfl).trans rfl
            refine free_step rfl (by rfl) (fun K' hK => ?_)
            go_simp
            exact hK.out _ _ rfl (Below.refl _ _)
          | 1, ho, hF =>
            obtain rfl := Option.some.inj ho
            obtain ⟨v147, h147, s147⟩ := hF.dep 0 147 rfl rfl
            obtain rfl : v147 = .string X := s147
            have hz := HZ.out
            refine free_step rfl (by rfl) (fun K' hK => ?_)
            go_simp
            exact hK.out _ _ rfl (Below.refl _ _)
          | 2, ho, hF =>
            obtain rfl := Option.some.inj ho
            have h2 : a.tmps[2]? = some (.int .u8 (more.toNat : Int)) := (hF.out 2 rfl).trans rfl
            refine free_step rfl (by rfl) (fun K' hK => ?_)
            go_simp
            exact hK.out _ _ rfl (Below.refl _ _)
          | 3, ho, hF =>
            obtain rfl := Option.some.inj ho
            obtain ⟨v149, h149, s149⟩ := hF.dep 2 149 rfl rfl
            obtain rfl : v149 = .int .u8 (more.toNat : Int) := s149
            refine free_step rfl (by rfl) (fun K' hK => ?_)
            go_simp
            exact hK.out _ _ rfl (Below.refl _ _)
          | 4, ho, hF =>
            obtain rfl := Option.some.inj ho
            obtain ⟨v150, h150, s150⟩ := hF.dep 3 150 rfl rfl
            obtain rfl : v150 = .int .u8 ((more.toNat : Int) % 10) := s150
            have e5 := HE5.out
            have w5 := HW5.out
            refine free_step rfl (by rfl) (fun K' hK => ?_)
            go_simp
            exact hK.out _ _ rfl (Below.refl _ _)
          | 5, ho, hF =>
            obtain rfl := Option.some.inj ho
            obtain ⟨v151, h151, s151⟩ := hF.dep 4 151 rfl rfl
            obtain rfl : v151 = .int .u8 (c5.toNat : Int) := s151
            refine free_step rfl (by rfl) (fun K' hK => ?_)
            go_simp
            exact hK.out _ _ (litC u ⟨#[c5]⟩ _ rfl (show (1 : Nat) ≤ maxLen by unfold maxLen; decide)) (alB u _)
          | 6, ho, hF =>
            obtain rfl := Option.some.inj ho
            obtain ⟨v152, h152, s152⟩ := hF.dep 5 152 rfl rfl
            replace s152 : IsBytes u v152 ⟨#[c5]⟩ := s152
            obtain ⟨y152, k152, rfl⟩ := one_shape s152
            have hcv := s152.convert
            refine free_step rfl (by rfl) (fun K' hK => ?_)
            go_simp
            exact hK.out _ _ rfl (Below.refl _ _)
          | 7, ho, hF =>
            obtain rfl := Option.some.inj ho
            obtain ⟨v148, h148, s148⟩ := hF.dep 1 148 rfl rfl
            obtain rfl : v148 = .string (X.extract 0 23) := s148
            obtain ⟨v153, h153, s153⟩ := hF.dep 6 153 rfl rfl
            obtain rfl : v153 = .string ⟨#[c5]⟩ := s153
            have hz := HZ.out
            refine free_step rfl (by rfl) (fun K' hK => ?_)
            go_simp
            exact hK.out _ _ rfl (Below.refl _ _)
          | 8, ho, hF =>
            obtain rfl := Option.some.inj ho
            obtain ⟨v154, h154, s154⟩ := hF.dep 7 154 rfl rfl
            obtain rfl : v154 = .string ((X.extract 0 23) ++ ⟨#[c5]⟩) := s154
            have hz := HZ.out
            refine free_step rfl (by rfl) (fun K' hK => ?_)
            go_simp
            exact hK.out _ _ rfl (Below.refl _ _)
          | 9, ho, hF =>
            obtain rfl := Option.some.inj ho
            obtain ⟨v155, h155, s155⟩ := hF.dep 8 155 rfl rfl
            obtain rfl : v155 = .string (((X.extract 0 23) ++ ⟨#[c5]⟩) ++ ⟨#[90]⟩) := s155
            have hc := HC.out u hbu
            refine free_step rfl (by rfl) (fun K' hK => ?_)
            go_wp2_with fail
            refine hc.mono ?_
            rintro e u' ⟨rfl, hb⟩
            go_simp
            exact hK.out _ _ rfl hb
          | 10, ho, hF =>
            obtain rfl := Option.some.inj ho
            obtain ⟨v156, h156, s156⟩ := hF.dep 9 156 rfl rfl
            obtain rfl : v156 = .tuple #[.int .i64 ms, .int .i64 0] := s156
            refine free_step rfl (by rfl) (fun K' hK => ?_)
            go_simp
            exact hK.out _ _ rfl (Below.refl _ _)
          | 11, ho, hF =>
            obtain rfl := Option.some.inj ho
            obtain ⟨v146, h146, s146⟩ := hF.dep 10 146 rfl rfl
            obtain rfl : v146 = .tuple #[.int .i64 ms, .int .i64 0] := s146
            refine free_step rfl (by rfl) (fun K' hK => ?_)
            go_simp
            exact hK.out _ _ rfl (Below.refl _ _)
          | 12, ho, hF =>
            obtain rfl := Option.some.inj ho
            obtain ⟨v146, h146, s146⟩ := hF.dep 10 146 rfl rfl
            obtain rfl : v146 = .tuple #[.int .i64 ms, .int .i64 0] := s146
            refine free_step rfl (by rfl) (fun K' hK => ?_)
            go_simp
            exact hK.out _ _ rfl (Below.refl _ _)
          | 13, ho, hF =>
            obtain rfl := Option.some.inj ho
            obtain ⟨v157, h157, s157⟩ := hF.dep 11 157 rfl rfl
            obtain rfl : v157 = .int .i64 ms := s157
            refine free_step rfl (by rfl) (fun K' hK => ?_)
            go_simp
            exact hK.out _ _ rfl (Below.refl _ _)
          | 14, ho, hF =>
            obtain rfl := Option.some.inj ho
            obtain ⟨v158, h158, s158⟩ := hF.dep 12 158 rfl rfl
            obtain rfl : v158 = .int .i64 0 := s158
            refine free_step rfl (by rfl) (fun K' hK => ?_)
            go_simp
            exact hK.out _ _ rfl (Below.refl _ _)
          | n + 15, ho, _ => exact absurd (Array.getElem?_eq_some_iff.1 ho).1 (by show ¬ n + 15 < 15; omega)
        · intro vs u hS hbu
          have e13 : vs 13 = (.int .i64 ms) := hS 13 17 rfl
          have e14 : vs 14 = (.int .i64 0) := hS 14 18 rfl
          simp only [putFrom, Act.put, List.setIfInBounds_toArray, List.set_cons_succ, List.set_cons_zero, Nat.reduceAdd]
          rw [e13]
          rw [e14]
          clear hS e13 e14
          generalize vs 0 = z0
          generalize vs 1 = z1
          generalize vs 2 = z2
          generalize vs 3 = z3
          generalize vs 4 = z4
          generalize vs 5 = z5
          generalize vs 6 = z6
          generalize vs 7 = z7
          generalize vs 8 = z8
          generalize vs 9 = z9
          generalize vs 10 = z10
          generalize vs 11 = z11
          generalize vs 12 = z12
          have HF := show Hid (Below w.heap.size w u) from HB.out u hbu
          clear hbu HB HC
          go_wp2_with fail
          go_ret
          exact ⟨by first | rfl | simp, HF.out⟩

    · have hLo := fun u => rmIs_any L u
      have hHi := fun u => rmIs_any H u
      simp only [if_pos cL] at hP1
      simp only [decide_eq_true cL] at hLo
      simp only [if_neg cH] at HP2
      simp only [decide_eq_false cH] at hHi
      clear cL cH
      go_wp2_with fail
      refine hP1.mono ?_
      rintro e w4 ⟨rfl, b4⟩
      have HB4 := show Hid (Below w.heap.size w w4) from bl2 HB3.out b4
      have hP2 := HP2.out w4 (HL.out w4 HB4.out)
      clear hP1 b4 HP2
      go_wp2_with fail
      refine hP2.mono ?_
      rintro e w5 ⟨rfl, b5⟩
      have HB5 := show Hid (Below w.heap.size w w5) from bl2 HB4.out b5
      clear hP2 b5
      go_wp2_with fail
      refine (hLo w5).mono ?_
      rintro e w5 ⟨rfl, rfl⟩
      go_wp2_with fail
      refine (hHi w5).mono ?_
      rintro e w5 ⟨rfl, rfl⟩
      clear hLo hHi
      by_cases hz : X.size = 24
      case neg =>
        have z3 : ((X.size : Int) != 24) = true := bne_iff_ne.2 (by omega)
        clear hz
        go_wp2_with fail
        go_ret
        exact ⟨rfl, HB5.out⟩
      have z3 : ((X.size : Int) != 24) = false := by rw [hz]; rfl
      have HC := show Hid (∀ u, Below w5.drew.heap.size w5.drew u → Calls Tryd.prog 13 #[.string (X.extract 0 23 ++ ⟨#[c5]⟩ ++ ⟨#[90]⟩)] u fun e w' => e = .returned (.tuple #[.int .i64 ms, .int .i64 0]) ∧ Below u.heap.size u w') from fun u hu => HP3.out hz u (HL.out u (bl2 (bl2 HB5.out (Below.refl _ w5).drew) hu))
      have HB := show Hid (∀ u, Below w5.drew.heap.size w5.drew u → Below w.heap.size w u) from fun u hu => bl2 (bl2 HB5.out (Below.refl _ w5).drew) hu
      have HZ := show Hid (X.size = 24) from hz
      clear hz HP3
      go_wp2_with fail
      clear z3
      · skip
        refine free_walk (Sem := semLS ms more c5 X) rfl (n := 166) (by kernel_rfl) rfl (by kernel_rfl) ?_ ?_ ?_
        · intro ix v u u' h hb
          match ix, h with
          | 0, h => exact h
          | 1, h => exact h
          | 2, h => exact h
          | 3, h => exact h
          | 4, h => exact h
          | 5, h => exact IsBytes.later h hb
          | 6, h => exact h
          | 7, h => exact h
          | 8, h => exact h
          | 9, h => exact h
          | 10, h => exact h
          | 11, h => exact h
          | 12, h => exact h
          | 13, h => exact h
          | 14, h => exact h
          | _ + 15, _ => exact trivial
        · intro ix o a u ho hF hbu
          match ix, ho, hF with
          | 0, ho, hF =>
            obtain rfl := Option.some.inj ho
            have h8 : a.tmps[8]? = some (.string X) := (hF.out 8 rfl).trans rfl
            refine free_step rfl (by rfl) (fun K' hK => ?_)
            go_simp
            exact hK.out _ _ rfl (Below.refl _ _)
          | 1, ho, hF =>
            obtain rfl := Option.some.inj ho
            obtain ⟨v147, h147, s147⟩ := hF.dep 0 147 rfl rfl
            obtain rfl : v147 = .string X := s147
            have hz := HZ.out
            refine free_step rfl (by rfl) (fun K' hK => ?_)
            go_simp
            exact hK.out _ _ rfl (Below.refl _ _)
          | 2, ho, hF =>
            obtain rfl := Option.some.inj ho
            have h2 : a.tmps[2]? = some (.int .u8 (more.toNat : Int)) := (hF.out 2 rfl).trans rfl
            refine free_step rfl (by rfl) (fun K' hK => ?_)
            go_simp
            exact hK.out _ _ rfl (Below.refl _ _)
          | 3, ho, hF =>
            obtain rfl := Option.some.inj ho
            obtain ⟨v149, h149, s149⟩ := hF.dep 2 149 rfl rfl
            obtain rfl : v149 = .int .u8 (more.toNat : Int) := s149
            refine free_step rfl (by rfl) (fun K' hK => ?_)
            go_simp
            exact hK.out _ _ rfl (Below.refl _ _)
          | 4, ho, hF =>
            obtain rfl := Option.some.inj ho
            obtain ⟨v150, h150, s150⟩ := hF.dep 3 150 rfl rfl
            obtain rfl : v150 = .int .u8 ((more.toNat : Int) % 10) := s150
            have e5 := HE5.out
            have w5 := HW5.out
            refine free_step rfl (by rfl) (fun K' hK => ?_)
            go_simp
            exact hK.out _ _ rfl (Below.refl _ _)
          | 5, ho, hF =>
            obtain rfl := Option.some.inj ho
            obtain ⟨v151, h151, s151⟩ := hF.dep 4 151 rfl rfl
            obtain rfl : v151 = .int .u8 (c5.toNat : Int) := s151
            refine free_step rfl (by rfl) (fun K' hK => ?_)
            go_simp
            exact hK.out _ _ (litC u ⟨#[c5]⟩ _ rfl (show (1 : Nat) ≤ maxLen by unfold maxLen; decide)) (alB u _)
          | 6, ho, hF =>
            obtain rfl := Option.some.inj ho
            obtain ⟨v152, h152, s152⟩ := hF.dep 5 152 rfl rfl
            replace s152 : IsBytes u v152 ⟨#[c5]⟩ := s152
            obtain ⟨y152, k152, rfl⟩ := one_shape s152
            have hcv := s152.convert
            refine free_step rfl (by rfl) (fun K' hK => ?_)
            go_simp
            exact hK.out _ _ rfl (Below.refl _ _)
          | 7, ho, hF =>
            obtain rfl := Option.some.inj ho
            obtain ⟨v148, h148, s148⟩ := hF.dep 1 148 rfl rfl
            obtain rfl : v148 = .string (X.extract 0 23) := s148
            obtain ⟨v153, h153, s153⟩ := hF.dep 6 153 rfl rfl
            obtain rfl : v153 = .string ⟨#[c5]⟩ := s153
            have hz := HZ.out
            refine free_step rfl (by rfl) (fun K' hK => ?_)
            go_simp
            exact hK.out _ _ rfl (Below.refl _ _)
          | 8, ho, hF =>
            obtain rfl := Option.some.inj ho
            obtain ⟨v154, h154, s154⟩ := hF.dep 7 154 rfl rfl
            obtain rfl : v154 = .string ((X.extract 0 23) ++ ⟨#[c5]⟩) := s154
            have hz := HZ.out
            refine free_step rfl (by rfl) (fun K' hK => ?_)
            go_simp
            exact hK.out _ _ rfl (Below.refl _ _)
          | 9, ho, hF =>
            obtain rfl := Option.some.inj ho
            obtain ⟨v155, h155, s155⟩ := hF.dep 8 155 rfl rfl
            obtain rfl : v155 = .string (((X.extract 0 23) ++ ⟨#[c5]⟩) ++ ⟨#[90]⟩) := s155
            have hc := HC.out u hbu
            refine free_step rfl (by rfl) (fun K' hK => ?_)
            go_wp2_with fail
            refine hc.mono ?_
            rintro e u' ⟨rfl, hb⟩
            go_simp
            exact hK.out _ _ rfl hb
          | 10, ho, hF =>
            obtain rfl := Option.some.inj ho
            obtain ⟨v156, h156, s156⟩ := hF.dep 9 156 rfl rfl
            obtain rfl : v156 = .tuple #[.int .i64 ms, .int .i64 0] := s156
            refine free_step rfl (by rfl) (fun K' hK => ?_)
            go_simp
            exact hK.out _ _ rfl (Below.refl _ _)
          | 11, ho, hF =>
            obtain rfl := Option.some.inj ho
            obtain ⟨v146, h146, s146⟩ := hF.dep 10 146 rfl rfl
            obtain rfl : v146 = .tuple #[.int .i64 ms, .int .i64 0] := s146
            refine free_step rfl (by rfl) (fun K' hK => ?_)
            go_simp
            exact hK.out _ _ rfl (Below.refl _ _)
          | 12, ho, hF =>
            obtain rfl := Option.some.inj ho
            obtain ⟨v146, h146, s146⟩ := hF.dep 10 146 rfl rfl
            obtain rfl : v146 = .tuple #[.int .i64 ms, .int .i64 0] := s146
            refine free_step rfl (by rfl) (fun K' hK => ?_)
            go_simp
            exact hK.out _ _ rfl (Below.refl _ _)
          | 13, ho, hF =>
            obtain rfl := Option.some.inj ho
            obtain ⟨v157, h157, s157⟩ := hF.dep 11 157 rfl rfl
            obtain rfl : v157 = .int .i64 ms := s157
            refine free_step rfl (by rfl) (fun K' hK => ?_)
            go_simp
            exact hK.out _ _ rfl (Below.refl _ _)
          | 14, ho, hF =>
            obtain rfl := Option.some.inj ho
            obtain ⟨v158, h158, s158⟩ := hF.dep 12 158 rfl rfl
            obtain rfl : v158 = .int .i64 0 := s158
            refine free_step rfl (by rfl) (fun K' hK => ?_)
            go_simp
            exact hK.out _ _ rfl (Below.refl _ _)
          | n + 15, ho, _ => exact absurd (Array.getElem?_eq_some_iff.1 ho).1 (by show ¬ n + 15 < 15; omega)
        · intro vs u hS hbu
          have e13 : vs 13 = (.int .i64 ms) := hS 13 17 rfl
          have e14 : vs 14 = (.int .i64 0) := hS 14 18 rfl
          simp only [putFrom, Act.put, List.setIfInBounds_toArray, List.set_cons_succ, List.set_cons_zero, Nat.reduceAdd]
          rw [e13]
          rw [e14]
          clear hS e13 e14
          generalize vs 0 = z0
          generalize vs 1 = z1
          generalize vs 2 = z2
          generalize vs 3 = z3
          generalize vs 4 = z4
          generalize vs 5 = z5
          generalize vs 6 = z6
          generalize vs 7 = z7
          generalize vs 8 = z8
          generalize vs 9 = z9
          generalize vs 10 = z10
          generalize vs 11 = z11
          generalize vs 12 = z12
          have HF := show Hid (Below w.heap.size w u) from HB.out u hbu
          clear hbu HB HC
          go_wp2_with fail
          go_ret
          exact ⟨by first | rfl | simp, HF.out⟩

  · by_cases cH : IsMom H
    · have hLo := fun u => rmIs_any L u
      have hHi := fun u => rmIs_any H u
      simp only [if_neg cL] at hP1
      simp only [decide_eq_false cL] at hLo
      simp only [if_pos cH] at HP2
      simp only [decide_eq_true cH] at hHi
      clear cL cH
      go_wp2_with fail
      refine hP1.mono ?_
      rintro e w4 ⟨rfl, b4⟩
      have HB4 := show Hid (Below w.heap.size w w4) from bl2 HB3.out b4
      have hP2 := HP2.out w4 (HL.out w4 HB4.out)
      clear hP1 b4 HP2
      go_wp2_with fail
      refine hP2.mono ?_
      rintro e w5 ⟨rfl, b5⟩
      have HB5 := show Hid (Below w.heap.size w w5) from bl2 HB4.out b5
      clear hP2 b5
      go_wp2_with fail
      refine (hLo w5).mono ?_
      rintro e w5 ⟨rfl, rfl⟩
      go_wp2_with fail
      refine (hHi w5).mono ?_
      rintro e w5 ⟨rfl, rfl⟩
      clear hLo hHi
      by_cases hz : X.size = 24
      case neg =>
        have z3 : ((X.size : Int) != 24) = true := bne_iff_ne.2 (by omega)
        clear hz
        go_wp2_with fail
        go_ret
        exact ⟨rfl, HB5.out⟩
      have z3 : ((X.size : Int) != 24) = false := by rw [hz]; rfl
      have HC := show Hid (∀ u, Below w5.drew.heap.size w5.drew u → Calls Tryd.prog 13 #[.string (X.extract 0 23 ++ ⟨#[c5]⟩ ++ ⟨#[90]⟩)] u fun e w' => e = .returned (.tuple #[.int .i64 ms, .int .i64 0]) ∧ Below u.heap.size u w') from fun u hu => HP3.out hz u (HL.out u (bl2 (bl2 HB5.out (Below.refl _ w5).drew) hu))
      have HB := show Hid (∀ u, Below w5.drew.heap.size w5.drew u → Below w.heap.size w u) from fun u hu => bl2 (bl2 HB5.out (Below.refl _ w5).drew) hu
      have HZ := show Hid (X.size = 24) from hz
      clear hz HP3
      go_wp2_with fail
      clear z3
      · skip
        refine free_walk (Sem := semLS ms more c5 X) rfl (n := 166) (by kernel_rfl) rfl (by kernel_rfl) ?_ ?_ ?_
        · intro ix v u u' h hb
          match ix, h with
          | 0, h => exact h
          | 1, h => exact h
          | 2, h => exact h
          | 3, h => exact h
          | 4, h => exact h
          | 5, h => exact IsBytes.later h hb
          | 6, h => exact h
          | 7, h => exact h
          | 8, h => exact h
          | 9, h => exact h
          | 10, h => exact h
          | 11, h => exact h
          | 12, h => exact h
          | 13, h => exact h
          | 14, h => exact h
          | _ + 15, _ => exact trivial
        · intro ix o a u ho hF hbu
          match ix, ho, hF with
          | 0, ho, hF =>
            obtain rfl := Option.some.inj ho
            have h8 : a.tmps[8]? = some (.string X) := (hF.out 8 rfl).trans rfl
            refine free_step rfl (by rfl) (fun K' hK => ?_)
            go_simp
            exact hK.out _ _ rfl (Below.refl _ _)
          | 1, ho, hF =>
            obtain rfl := Option.some.inj ho
            obtain ⟨v147, h147, s147⟩ := hF.dep 0 147 rfl rfl
            obtain rfl : v147 = .string X := s147
            have hz := HZ.out
            refine free_step rfl (by rfl) (fun K' hK => ?_)
            go_simp
            exact hK.out _ _ rfl (Below.refl _ _)
          | 2, ho, hF =>
            obtain rfl := Option.some.inj ho
            have h2 : a.tmps[2]? = some (.int .u8 (more.toNat : Int)) := (hF.out 2 rfl).trans rfl
            refine free_step rfl (by rfl) (fun K' hK => ?_)
            go_simp
            exact hK.out _ _ rfl (Below.refl _ _)
          | 3, ho, hF =>
            obtain rfl := Option.some.inj ho
            obtain ⟨v149, h149, s149⟩ := hF.dep 2 149 rfl rfl
            obtain rfl : v149 = .int .u8 (more.toNat : Int) := s149
            refine free_step rfl (by rfl) (fun K' hK => ?_)
            go_simp
            exact hK.out _ _ rfl (Below.refl _ _)
          | 4, ho, hF =>
            obtain rfl := Option.some.inj ho
            obtain ⟨v150, h150, s150⟩ := hF.dep 3 150 rfl rfl
            obtain rfl : v150 = .int .u8 ((more.toNat : Int) % 10) := s150
            have e5 := HE5.out
            have w5 := HW5.out
            refine free_step rfl (by rfl) (fun K' hK => ?_)
            go_simp
            exact hK.out _ _ rfl (Below.refl _ _)
          | 5, ho, hF =>
            obtain rfl := Option.some.inj ho
            obtain ⟨v151, h151, s151⟩ := hF.dep 4 151 rfl rfl
            obtain rfl : v151 = .int .u8 (c5.toNat : Int) := s151
            refine free_step rfl (by rfl) (fun K' hK => ?_)
            go_simp
            exact hK.out _ _ (litC u ⟨#[c5]⟩ _ rfl (show (1 : Nat) ≤ maxLen by unfold maxLen; decide)) (alB u _)
          | 6, ho, hF =>
            obtain rfl := Option.some.inj ho
            obtain ⟨v152, h152, s152⟩ := hF.dep 5 152 rfl rfl
            replace s152 : IsBytes u v152 ⟨#[c5]⟩ := s152
            obtain ⟨y152, k152, rfl⟩ := one_shape s152
            have hcv := s152.convert
            refine free_step rfl (by rfl) (fun K' hK => ?_)
            go_simp
            exact hK.out _ _ rfl (Below.refl _ _)
          | 7, ho, hF =>
            obtain rfl := Option.some.inj ho
            obtain ⟨v148, h148, s148⟩ := hF.dep 1 148 rfl rfl
            obtain rfl : v148 = .string (X.extract 0 23) := s148
            obtain ⟨v153, h153, s153⟩ := hF.dep 6 153 rfl rfl
            obtain rfl : v153 = .string ⟨#[c5]⟩ := s153
            have hz := HZ.out
            refine free_step rfl (by rfl) (fun K' hK => ?_)
            go_simp
            exact hK.out _ _ rfl (Below.refl _ _)
          | 8, ho, hF =>
            obtain rfl := Option.some.inj ho
            obtain ⟨v154, h154, s154⟩ := hF.dep 7 154 rfl rfl
            obtain rfl : v154 = .string ((X.extract 0 23) ++ ⟨#[c5]⟩) := s154
            have hz := HZ.out
            refine free_step rfl (by rfl) (fun K' hK => ?_)
            go_simp
            exact hK.out _ _ rfl (Below.refl _ _)
          | 9, ho, hF =>
            obtain rfl := Option.some.inj ho
            obtain ⟨v155, h155, s155⟩ := hF.dep 8 155 rfl rfl
            obtain rfl : v155 = .string (((X.extract 0 23) ++ ⟨#[c5]⟩) ++ ⟨#[90]⟩) := s155
            have hc := HC.out u hbu
            refine free_step rfl (by rfl) (fun K' hK => ?_)
            go_wp2_with fail
            refine hc.mono ?_
            rintro e u' ⟨rfl, hb⟩
            go_simp
            exact hK.out _ _ rfl hb
          | 10, ho, hF =>
            obtain rfl := Option.some.inj ho
            obtain ⟨v156, h156, s156⟩ := hF.dep 9 156 rfl rfl
            obtain rfl : v156 = .tuple #[.int .i64 ms, .int .i64 0] := s156
            refine free_step rfl (by rfl) (fun K' hK => ?_)
            go_simp
            exact hK.out _ _ rfl (Below.refl _ _)
          | 11, ho, hF =>
            obtain rfl := Option.some.inj ho
            obtain ⟨v146, h146, s146⟩ := hF.dep 10 146 rfl rfl
            obtain rfl : v146 = .tuple #[.int .i64 ms, .int .i64 0] := s146
            refine free_step rfl (by rfl) (fun K' hK => ?_)
            go_simp
            exact hK.out _ _ rfl (Below.refl _ _)
          | 12, ho, hF =>
            obtain rfl := Option.some.inj ho
            obtain ⟨v146, h146, s146⟩ := hF.dep 10 146 rfl rfl
            obtain rfl : v146 = .tuple #[.int .i64 ms, .int .i64 0] := s146
            refine free_step rfl (by rfl) (fun K' hK => ?_)
            go_simp
            exact hK.out _ _ rfl (Below.refl _ _)
          | 13, ho, hF =>
            obtain rfl := Option.some.inj ho
            obtain ⟨v157, h157, s157⟩ := hF.dep 11 157 rfl rfl
            obtain rfl : v157 = .int .i64 ms := s157
            refine free_step rfl (by rfl) (fun K' hK => ?_)
            go_simp
            exact hK.out _ _ rfl (Below.refl _ _)
          | 14, ho, hF =>
            obtain rfl := Option.some.inj ho
            obtain ⟨v158, h158, s158⟩ := hF.dep 12 158 rfl rfl
            obtain rfl : v158 = .int .i64 0 := s158
            refine free_step rfl (by rfl) (fun K' hK => ?_)
            go_simp
            exact hK.out _ _ rfl (Below.refl _ _)
          | n + 15, ho, _ => exact absurd (Array.getElem?_eq_some_iff.1 ho).1 (by show ¬ n + 15 < 15; omega)
        · intro vs u hS hbu
          have e13 : vs 13 = (.int .i64 ms) := hS 13 17 rfl
          have e14 : vs 14 = (.int .i64 0) := hS 14 18 rfl
          simp only [putFrom, Act.put, List.setIfInBounds_toArray, List.set_cons_succ, List.set_cons_zero, Nat.reduceAdd]
          rw [e13]
          rw [e14]
          clear hS e13 e14
          generalize vs 0 = z0
          generalize vs 1 = z1
          generalize vs 2 = z2
          generalize vs 3 = z3
          generalize vs 4 = z4
          generalize vs 5 = z5
          generalize vs 6 = z6
          generalize vs 7 = z7
          generalize vs 8 = z8
          generalize vs 9 = z9
          generalize vs 10 = z10
          generalize vs 11 = z11
          generalize vs 12 = z12
          have HF := show Hid (Below w.heap.size w u) from HB.out u hbu
          clear hbu HB HC
          go_wp2_with fail
          go_ret
          exact ⟨by first | rfl | simp, HF.out⟩

    · have hLo := fun u => rmIs_any L u
      have hHi := fun u => rmIs_any H u
      simp only [if_neg cL] at hP1
      simp only [decide_eq_false cL] at hLo
      simp only [if_neg cH] at HP2
      simp only [decide_eq_false cH] at hHi
      clear cL cH
      go_wp2_with fail
      refine hP1.mono ?_
      rintro e w4 ⟨rfl, b4⟩
      have HB4 := show Hid (Below w.heap.size w w4) from bl2 HB3.out b4
      have hP2 := HP2.out w4 (HL.out w4 HB4.out)
      clear hP1 b4 HP2
      go_wp2_with fail
      refine hP2.mono ?_
      rintro e w5 ⟨rfl, b5⟩
      have HB5 := show Hid (Below w.heap.size w w5) from bl2 HB4.out b5
      clear hP2 b5
      go_wp2_with fail
      refine (hLo w5).mono ?_
      rintro e w5 ⟨rfl, rfl⟩
      go_wp2_with fail
      refine (hHi w5).mono ?_
      rintro e w5 ⟨rfl, rfl⟩
      clear hLo hHi
      by_cases hz : X.size = 24
      case neg =>
        have z3 : ((X.size : Int) != 24) = true := bne_iff_ne.2 (by omega)
        clear hz
        go_wp2_with fail
        go_ret
        exact ⟨rfl, HB5.out⟩
      have z3 : ((X.size : Int) != 24) = false := by rw [hz]; rfl
      have HC := show Hid (∀ u, Below w5.drew.heap.size w5.drew u → Calls Tryd.prog 13 #[.string (X.extract 0 23 ++ ⟨#[c5]⟩ ++ ⟨#[90]⟩)] u fun e w' => e = .returned (.tuple #[.int .i64 ms, .int .i64 0]) ∧ Below u.heap.size u w') from fun u hu => HP3.out hz u (HL.out u (bl2 (bl2 HB5.out (Below.refl _ w5).drew) hu))
      have HB := show Hid (∀ u, Below w5.drew.heap.size w5.drew u → Below w.heap.size w u) from fun u hu => bl2 (bl2 HB5.out (Below.refl _ w5).drew) hu
      have HZ := show Hid (X.size = 24) from hz
      clear hz HP3
      go_wp2_with fail
      clear z3
      · skip
        refine free_walk (Sem := semLS ms more c5 X) rfl (n := 166) (by kernel_rfl) rfl (by kernel_rfl) ?_ ?_ ?_
        · intro ix v u u' h hb
          match ix, h with
          | 0, h => exact h
          | 1, h => exact h
          | 2, h => exact h
          | 3, h => exact h
          | 4, h => exact h
          | 5, h => exact IsBytes.later h hb
          | 6, h => exact h
          | 7, h => exact h
          | 8, h => exact h
          | 9, h => exact h
          | 10, h => exact h
          | 11, h => exact h
          | 12, h => exact h
          | 13, h => exact h
          | 14, h => exact h
          | _ + 15, _ => exact trivial
        · intro ix o a u ho hF hbu
          match ix, ho, hF with
          | 0, ho, hF =>
            obtain rfl := Option.some.inj ho
            have h8 : a.tmps[8]? = some (.string X) := (hF.out 8 rfl).trans rfl
            refine free_step rfl (by rfl) (fun K' hK => ?_)
            go_simp
            exact hK.out _ _ rfl (Below.refl _ _)
          | 1, ho, hF =>
            obtain rfl := Option.some.inj ho
            obtain ⟨v147, h147, s147⟩ := hF.dep 0 147 rfl rfl
            obtain rfl : v147 = .string X := s147
            have hz := HZ.out
            refine free_step rfl (by rfl) (fun K' hK => ?_)
            go_simp
            exact hK.out _ _ rfl (Below.refl _ _)
          | 2, ho, hF =>
            obtain rfl := Option.some.inj ho
            have h2 : a.tmps[2]? = some (.int .u8 (more.toNat : Int)) := (hF.out 2 rfl).trans rfl
            refine free_step rfl (by rfl) (fun K' hK => ?_)
            go_simp
            exact hK.out _ _ rfl (Below.refl _ _)
          | 3, ho, hF =>
            obtain rfl := Option.some.inj ho
            obtain ⟨v149, h149, s149⟩ := hF.dep 2 149 rfl rfl
            obtain rfl : v149 = .int .u8 (more.toNat : Int) := s149
            refine free_step rfl (by rfl) (fun K' hK => ?_)
            go_simp
            exact hK.out _ _ rfl (Below.refl _ _)
          | 4, ho, hF =>
            obtain rfl := Option.some.inj ho
            obtain ⟨v150, h150, s150⟩ := hF.dep 3 150 rfl rfl
            obtain rfl : v150 = .int .u8 ((more.toNat : Int) % 10) := s150
            have e5 := HE5.out
            have w5 := HW5.out
            refine free_step rfl (by rfl) (fun K' hK => ?_)
            go_simp
            exact hK.out _ _ rfl (Below.refl _ _)
          | 5, ho, hF =>
            obtain rfl := Option.some.inj ho
            obtain ⟨v151, h151, s151⟩ := hF.dep 4 151 rfl rfl
            obtain rfl : v151 = .int .u8 (c5.toNat : Int) := s151
            refine free_step rfl (by rfl) (fun K' hK => ?_)
            go_simp
            exact hK.out _ _ (litC u ⟨#[c5]⟩ _ rfl (show (1 : Nat) ≤ maxLen by unfold maxLen; decide)) (alB u _)
          | 6, ho, hF =>
            obtain rfl := Option.some.inj ho
            obtain ⟨v152, h152, s152⟩ := hF.dep 5 152 rfl rfl
            replace s152 : IsBytes u v152 ⟨#[c5]⟩ := s152
            obtain ⟨y152, k152, rfl⟩ := one_shape s152
            have hcv := s152.convert
            refine free_step rfl (by rfl) (fun K' hK => ?_)
            go_simp
            exact hK.out _ _ rfl (Below.refl _ _)
          | 7, ho, hF =>
            obtain rfl := Option.some.inj ho
            obtain ⟨v148, h148, s148⟩ := hF.dep 1 148 rfl rfl
            obtain rfl : v148 = .string (X.extract 0 23) := s148
            obtain ⟨v153, h153, s153⟩ := hF.dep 6 153 rfl rfl
            obtain rfl : v153 = .string ⟨#[c5]⟩ := s153
            have hz := HZ.out
            refine free_step rfl (by rfl) (fun K' hK => ?_)
            go_simp
            exact hK.out _ _ rfl (Below.refl _ _)
          | 8, ho, hF =>
            obtain rfl := Option.some.inj ho
            obtain ⟨v154, h154, s154⟩ := hF.dep 7 154 rfl rfl
            obtain rfl : v154 = .string ((X.extract 0 23) ++ ⟨#[c5]⟩) := s154
            have hz := HZ.out
            refine free_step rfl (by rfl) (fun K' hK => ?_)
            go_simp
            exact hK.out _ _ rfl (Below.refl _ _)
          | 9, ho, hF =>
            obtain rfl := Option.some.inj ho
            obtain ⟨v155, h155, s155⟩ := hF.dep 8 155 rfl rfl
            obtain rfl : v155 = .string (((X.extract 0 23) ++ ⟨#[c5]⟩) ++ ⟨#[90]⟩) := s155
            have hc := HC.out u hbu
            refine free_step rfl (by rfl) (fun K' hK => ?_)
            go_wp2_with fail
            refine hc.mono ?_
            rintro e u' ⟨rfl, hb⟩
            go_simp
            exact hK.out _ _ rfl hb
          | 10, ho, hF =>
            obtain rfl := Option.some.inj ho
            obtain ⟨v156, h156, s156⟩ := hF.dep 9 156 rfl rfl
            obtain rfl : v156 = .tuple #[.int .i64 ms, .int .i64 0] := s156
            refine free_step rfl (by rfl) (fun K' hK => ?_)
            go_simp
            exact hK.out _ _ rfl (Below.refl _ _)
          | 11, ho, hF =>
            obtain rfl := Option.some.inj ho
            obtain ⟨v146, h146, s146⟩ := hF.dep 10 146 rfl rfl
            obtain rfl : v146 = .tuple #[.int .i64 ms, .int .i64 0] := s146
            refine free_step rfl (by rfl) (fun K' hK => ?_)
            go_simp
            exact hK.out _ _ rfl (Below.refl _ _)
          | 12, ho, hF =>
            obtain rfl := Option.some.inj ho
            obtain ⟨v146, h146, s146⟩ := hF.dep 10 146 rfl rfl
            obtain rfl : v146 = .tuple #[.int .i64 ms, .int .i64 0] := s146
            refine free_step rfl (by rfl) (fun K' hK => ?_)
            go_simp
            exact hK.out _ _ rfl (Below.refl _ _)
          | 13, ho, hF =>
            obtain rfl := Option.some.inj ho
            obtain ⟨v157, h157, s157⟩ := hF.dep 11 157 rfl rfl
            obtain rfl : v157 = .int .i64 ms := s157
            refine free_step rfl (by rfl) (fun K' hK => ?_)
            go_simp
            exact hK.out _ _ rfl (Below.refl _ _)
          | 14, ho, hF =>
            obtain rfl := Option.some.inj ho
            obtain ⟨v158, h158, s158⟩ := hF.dep 12 158 rfl rfl
            obtain rfl : v158 = .int .i64 0 := s158
            refine free_step rfl (by rfl) (fun K' hK => ?_)
            go_simp
            exact hK.out _ _ rfl (Below.refl _ _)
          | n + 15, ho, _ => exact absurd (Array.getElem?_eq_some_iff.1 ho).1 (by show ¬ n + 15 < 15; omega)
        · intro vs u hS hbu
          have e13 : vs 13 = (.int .i64 ms) := hS 13 17 rfl
          have e14 : vs 14 = (.int .i64 0) := hS 14 18 rfl
          simp only [putFrom, Act.put, List.setIfInBounds_toArray, List.set_cons_succ, List.set_cons_zero, Nat.reduceAdd]
          rw [e13]
          rw [e14]
          clear hS e13 e14
          generalize vs 0 = z0
          generalize vs 1 = z1
          generalize vs 2 = z2
          generalize vs 3 = z3
          generalize vs 4 = z4
          generalize vs 5 = z5
          generalize vs 6 = z6
          generalize vs 7 = z7
          generalize vs 8 = z8
          generalize vs 9 = z9
          generalize vs 10 = z10
          generalize vs 11 = z11
          generalize vs 12 = z12
          have HF := show Hid (Below w.heap.size w u) from HB.out u hbu
          clear hbu HB HC
          go_wp2_with fail
          go_ret
          exact ⟨by first | rfl | simp, HF.out⟩

end Go.Proofs.YtbepjlhknmhmeaaDoor
