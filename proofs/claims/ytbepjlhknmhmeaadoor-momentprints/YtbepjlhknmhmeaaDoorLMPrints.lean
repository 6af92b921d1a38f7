/-
  The law MomentPrints.
-/
import Derived.Test.YtbepjlhknmhmeaaDoorMRPrint
import Derived.Test.YtbepjlhknmhmeaaDoorLMShifts
import Derived.Test.YtbepjlhknmhmeaaDoorMEq
namespace Go.Proofs.YtbepjlhknmhmeaaDoor
open Go.RowKit Ch
set_option maxRecDepth 100000

set_option maxHeartbeats 16000000 in
theorem lmPrints_any (ms : Int) (w : World) (h : Laid10 w) : Calls Tryd.prog 3 #[.int .i64 ms] w fun e w' => e = .returned (.bool true) ∧ Below w.heap.size w w' := by
  have hAw := lmAwake_any w h
  have HL := show Hid (∀ u, Below w.heap.size w u → Laid10 u) from fun u hu => h.later hu
  have hIa := fun u => rmIs_any ms u
  clear h
  go_enter Tryd.func3, Tryd.ntmps3
  go_wp2_with fail
  refine hAw.mono ?_
  rintro e w1 ⟨rfl, b1⟩
  have HB1 := show Hid (Below w.heap.size w w1) from b1
  clear hAw b1
  by_cases h1 : IsMom ms
  case neg =>
    simp only [decide_eq_false h1] at hIa
    have hP := mPrint_bad ms w1 h1
    have HD := show Hid (∀ u, Calls Tryd.prog 10 #[.int .i64 ms] u fun e w' => e = .returned (.tuple #[.agg #[.int .i64 0, .int .i64 0, .int .i64 0], .int .i64 21]) ∧ Below u.heap.size u w') from fun u => mDate_bad ms u h1
    clear h1
    go_wp2_with fail
    refine hP.mono ?_
    rintro e w2 ⟨rfl, b2⟩
    have HB2 := show Hid (Below w.heap.size w w2) from bl2 HB1.out b2
    have hD := HD.out w2
    clear hP b2 HD
    go_wp2_with fail
    refine hD.mono ?_
    rintro e w3 ⟨rfl, b3⟩
    have e6 := heap_push_at w3 (.cells #[.int .i64 0, .int .i64 0, .int .i64 0] 26)
    have b6 := alB w3 (.cells #[.int .i64 0, .int .i64 0, .int .i64 0] 26)
    obtain ⟨q, hq⟩ : ∃ q, w3.heap.size = q := ⟨_, rfl⟩
    rw [hq] at e6
    have HB6 := show Hid (Below w.heap.size w (w3.alloc (.cells #[.int .i64 0, .int .i64 0, .int .i64 0] 26))) from bl2 (bl2 HB2.out b3) b6
    have HG := show Hid ((w3.alloc (.cells #[.int .i64 0, .int .i64 0, .int .i64 0] 26)).heap[q]? = some (.cells #[.int .i64 0, .int .i64 0, .int .i64 0] 26)) from e6
    clear hD b3 b6 e6
    go_wp2_with fail
    refine (hIa _).mono ?_
    rintro e w6 ⟨rfl, rfl⟩
    obtain ⟨W6, hW6⟩ : ∃ W, w3.alloc (.cells #[.int .i64 0, .int .i64 0, .int .i64 0] 26) = W := ⟨_, rfl⟩
    rw [hW6] at HB6 HG ⊢
    obtain ⟨g0, g1, g2, _⟩ := cells3 HG.out
    have hq3 := eq3_same 0 0 0
    clear hW6 HG
    go_wp2_with fail
    go_ret
    exact ⟨by first | rfl | simp, HB6.out⟩
  have h1' := h1
  simp only [decide_eq_true h1] at hIa
  obtain ⟨y, m, d, t, hm⟩ := mom_ex h1
  obtain ⟨X, hX⟩ : ∃ X : ByteArray, (⟨(textL y m d t).toArray⟩ : ByteArray) = X := ⟨_, rfl⟩
  have hP := mPrint_ok ms y m d t w1 hm (HL.out w1 HB1.out).months (HL.out w1 HB1.out).pow
  rw [hX] at hP
  have HD := show Hid (∀ u, Laid10 u → Calls Tryd.prog 10 #[.int .i64 ms] u fun e w' => e = .returned (.tuple #[.agg #[.int .i64 (y : Int), .int .i64 (m : Int), .int .i64 (d : Int)], .int .i64 0]) ∧ Below u.heap.size u w') from fun u hu => mDate_ok ms y m d t u hm hu.months
  have HRD := show Hid (∀ u, Calls Tryd.prog 12 #[.int .i64 ms] u fun e w' => e = .returned (.tuple #[.int .i64 (y : Int), .int .i64 (m : Int), .int .i64 (d : Int)]) ∧ Below u.heap.size u w') from fun u => rmDate_any ms y m d t u hm
  have HRP := show Hid (∀ u, Calls Tryd.prog 14 #[.int .i64 ms] u fun e w' => e = .returned (.string X) ∧ Below u.heap.size u w') from fun u => by rw [← hX]; exact rmPrint_any ms y m d t u hm
  have HPa := show Hid (∀ u, Laid10 u → Calls Tryd.prog 13 #[.string X] u fun e w' => e = .returned (.tuple #[.int .i64 ms, .int .i64 0]) ∧ Below u.heap.size u w') from fun u hu => by
    have hp := mParseT_any X u hu.months hu.some0
    rw [shift_parse hm X [] [90] 0 (by rw [← hX]; rfl) zn_z zoneM_z (by simp) (by simp) (.inl rfl) (by simp) (fun c hc => by obtain rfl := List.mem_singleton.1 hc; exact .inr (.inr (.inr (.inr (.inr (.inr rfl)))))), Int.sub_zero, if_pos h1'] at hp
    exact hp
  clear h1 h1' hm hX
  go_wp2_with fail
  refine hP.mono ?_
  rintro e w2 ⟨rfl, b2⟩
  have HB2 := show Hid (Below w.heap.size w w2) from bl2 HB1.out b2
  have hD := HD.out w2 (HL.out w2 HB2.out)
  clear hP b2 HD
  go_wp2_with fail
  refine hD.mono ?_
  rintro e w3 ⟨rfl, b3⟩
  have e6 := heap_push_at w3 (.cells #[.int .i64 (y : Int), .int .i64 (m : Int), .int .i64 (d : Int)] 26)
  have b6 := alB w3 (.cells #[.int .i64 (y : Int), .int .i64 (m : Int), .int .i64 (d : Int)] 26)
  obtain ⟨q, hq⟩ : ∃ q, w3.heap.size = q := ⟨_, rfl⟩
  obtain ⟨w6, hW6⟩ : ∃ W, w3.alloc (.cells #[.int .i64 (y : Int), .int .i64 (m : Int), .int .i64 (d : Int)] 26) = W := ⟨_, rfl⟩
  rw [hW6] at e6 b6
  rw [hq] at e6
  have HB6 := show Hid (Below w.heap.size w w6) from bl2 (bl2 HB2.out b3) b6
  have hRD := HRD.out w6
  have HE := show Hid (w6.heap[q]? = some (.cells #[.int .i64 (y : Int), .int .i64 (m : Int), .int .i64 (d : Int)] 26)) from e6
  clear hD b3 b6 e6 HRD
  go_wp2_with fail
  refine (hIa w6).mono ?_
  rintro e w6 ⟨rfl, rfl⟩
  clear hIa
  go_wp2_with fail
  refine hRD.mono ?_
  rintro e w7 ⟨rfl, b7⟩
  have HE7 := show Hid (w7.heap[q]? = some (.cells #[.int .i64 (y : Int), .int .i64 (m : Int), .int .i64 (d : Int)] 26)) from (b7.block q (block_lt HE.out)).trans HE.out
  have HB7 := show Hid (Below w.heap.size w w7) from bl2 HB6.out b7
  have hPa := HPa.out w7 (HL.out w7 HB7.out)
  clear hRD b7 HPa HE
  go_wp2_with fail
  refine hPa.mono ?_
  rintro e w8 ⟨rfl, b8⟩
  have HE8 := show Hid (w8.heap[q]? = some (.cells #[.int .i64 (y : Int), .int .i64 (m : Int), .int .i64 (d : Int)] 26)) from (b8.block q (block_lt HE7.out)).trans HE7.out
  have HB8 := show Hid (Below w.heap.size w w8) from bl2 HB7.out b8
  have hRP := HRP.out w8
  clear hPa b8 HRP HE7
  go_wp2_with fail
  refine hRP.mono ?_
  rintro e w9 ⟨rfl, b9⟩
  have e9 := (b9.block q (block_lt HE8.out)).trans HE8.out
  have HB9 := show Hid (Below w.heap.size w w9) from bl2 HB8.out b9
  obtain ⟨g0, g1, g2, _⟩ := cells3 e9
  have hq3 := eq3_same (y : Int) (m : Int) (d : Int)
  clear hRP b9 e9 HE8
  go_wp2_with fail
  go_ret
  exact ⟨by first | rfl | simp, HB9.out⟩
end Go.Proofs.YtbepjlhknmhmeaaDoor
