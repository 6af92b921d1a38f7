/-
  The law MomentOrders.
-/
import Derived.Test.YtbepjlhknmhmeaaDoorMAdd
import Derived.Laws.Strings
namespace Go.Proofs.YtbepjlhknmhmeaaDoor
open Go.RowKit Ch
set_option maxRecDepth 100000

/-- The text of a moment. -/
theorem text_of {a : Int} (h : IsMom a) : ∃ X : ByteArray, (∀ w, Laid10 w → Calls Tryd.prog 9 #[.int .i64 a] w fun e w' => e = .returned (.tuple #[.string X, .int .i64 0]) ∧ Below w.heap.size w w') ∧ ∃ y m d t, MomOf a y m d t ∧ X = ⟨(textL y m d t).toArray⟩ := by
  obtain ⟨y, m, d, t, hm⟩ := mom_ex h
  exact ⟨_, fun w hw => mPrint_ok a y m d t w hm hw.months hw.pow, y, m, d, t, hm, rfl⟩
theorem text_size {a : Int} {y m d t : Nat} (_ : MomOf a y m d t) : (⟨(textL y m d t).toArray⟩ : ByteArray).size = if t % 1000 = 0 then 20 else 24 := by
  have h := textZ_length y m d t ([] ++ [90])
  rw [← textL_is] at h
  show (textL y m d t).toArray.size = _
  rw [List.size_toArray, h]
  split <;> rfl
theorem text_inj {a b : Int} {y m d t y' m' d' t' : Nat} (h : MomOf a y m d t) (h' : MomOf b y' m' d' t') (e : (⟨(textL y m d t).toArray⟩ : ByteArray) = ⟨(textL y' m' d' t').toArray⟩) : a = b := by
  have e1 : textL y m d t = textL y' m' d' t' := by
    have := congrArg (fun z : ByteArray => z.data.toList) e
    simpa using this
  have e2 := congrArg parseM e1
  rw [parse_textL h.day h.time, parse_textL h'.day h'.time] at e2
  have e3 := Option.some.inj e2
  have := h.is
  have := h'.is
  omega
theorem text_less {a b : Int} {y m d t y' m' d' t' : Nat} (h : MomOf a y m d t) (h' : MomOf b y' m' d' t') (hz : (⟨(textL y m d t).toArray⟩ : ByteArray).size = (⟨(textL y' m' d' t').toArray⟩ : ByteArray).size) : Op.bytesLess (⟨(textL y m d t).toArray⟩ : ByteArray).toList (⟨(textL y' m' d' t').toArray⟩ : ByteArray).toList = decide (a < b) := by
  rw [text_size h, text_size h'] at hz
  have he : t % 1000 = 0 ↔ t' % 1000 = 0 := by
    by_cases c : t % 1000 = 0
    · by_cases c' : t' % 1000 = 0
      · exact ⟨fun _ => c', fun _ => c⟩
      · rw [if_pos c, if_neg c'] at hz; omega
    · by_cases c' : t' % 1000 = 0
      · rw [if_neg c, if_pos c'] at hz; omega
      · exact ⟨fun x => absurd x c, fun x => absurd x c'⟩
  rw [bytesLess_eq, Lib.toList_data, Lib.toList_data]
  have hl := text_lt h.day h'.day h.time h'.time he
  have := h.is
  have := h'.is
  apply decide_eq_decide.2
  show textL y m d t < textL y' m' d' t' ↔ a < b
  rw [hl]
  omega
theorem beq_of (X Y : ByteArray) : (X.toList == Y.toList) = decide (X = Y) := by
  by_cases h : X = Y
  · rw [h, decide_eq_true rfl]
    simp
  · rw [decide_eq_false h]
    apply beq_eq_false_iff_ne.2
    intro e
    rw [Lib.toList_data, Lib.toList_data] at e
    apply h
    apply ByteArray.ext
    apply Array.ext'
    exact e
set_option maxHeartbeats 16000000 in
theorem lmOrders_any (a b : Int) (w : World) (h : Laid10 w) : Calls Tryd.prog 6 #[.int .i64 a, .int .i64 b] w fun e w' => e = .returned (.bool true) ∧ Below w.heap.size w w' := by
  have hAw := lmAwake_any w h
  have HL := show Hid (∀ u, Below w.heap.size w u → Laid10 u) from fun u hu => h.later hu
  have hIa := fun u => rmIs_any a u
  have hIb := fun u => rmIs_any b u
  clear h
  go_enter Tryd.func6, Tryd.ntmps6
  by_cases h1 : IsMom a
  case neg =>
    simp only [decide_eq_false h1] at hIa
    go_wp2_with fail
    refine hAw.mono ?_
    rintro e w1 ⟨rfl, b1⟩
    have hAw2 := lmAwake_any w1 (HL.out w1 b1)
    have HB := show Hid (Below w.heap.size w w1) from b1
    clear hAw b1
    go_wp2_with fail
    refine (hIa w1).mono ?_
    rintro e w1 ⟨rfl, rfl⟩
    go_wp2_with fail
    refine hAw2.mono ?_
    rintro e w2 ⟨rfl, b2⟩
    have HF := show Hid (Below w.heap.size w w2) from bl2 HB.out b2
    clear b2 hAw2
    go_wp2_with fail
    go_ret
    exact ⟨rfl, HF.out⟩
  simp only [decide_eq_true h1] at hIa
  by_cases h2 : IsMom b
  case neg =>
    simp only [decide_eq_false h2] at hIb
    go_wp2_with fail
    refine hAw.mono ?_
    rintro e w1 ⟨rfl, b1⟩
    have hAw2 := lmAwake_any w1 (HL.out w1 b1)
    have HB := show Hid (Below w.heap.size w w1) from b1
    clear hAw b1
    go_wp2_with fail
    refine (hIa w1).mono ?_
    rintro e w1 ⟨rfl, rfl⟩
    go_wp2_with fail
    refine (hIb w1).mono ?_
    rintro e w1 ⟨rfl, rfl⟩
    go_wp2_with fail
    refine hAw2.mono ?_
    rintro e w2 ⟨rfl, b2⟩
    have HF := show Hid (Below w.heap.size w w2) from bl2 HB.out b2
    clear b2 hAw2
    go_wp2_with fail
    go_ret
    exact ⟨rfl, HF.out⟩
  simp only [decide_eq_true h2] at hIb
  obtain ⟨X, hX, y, m, d, t, hmX, hXe⟩ := text_of h1
  obtain ⟨Y, hY, y', m', d', t', hmY, hYe⟩ := text_of h2
  have HE := show Hid ((X.toList == Y.toList) = decide (a = b)) from by
    show (X.toList == Y.toList) = decide (a = b)
    rw [beq_of]
    by_cases hab : a = b
    · subst hab
      obtain ⟨rfl, rfl, rfl, rfl⟩ := hmX.inj hmY
      rw [hXe, hYe]
      simp
    · rw [decide_eq_false hab]
      refine decide_eq_false (fun e => hab ?_)
      rw [hXe, hYe] at e
      exact text_inj hmX hmY e
  have HT := show Hid (X.size = Y.size → Op.bytesLess X.toList Y.toList = decide (a < b)) from fun e => by
    rw [hXe, hYe] at e ⊢
    exact text_less hmX hmY e
  have HPX := show Hid (∀ w, Laid10 w → Calls Tryd.prog 9 #[.int .i64 a] w fun e w' => e = .returned (.tuple #[.string X, .int .i64 0]) ∧ Below w.heap.size w w') from hX
  have HPY := show Hid (∀ w, Laid10 w → Calls Tryd.prog 9 #[.int .i64 b] w fun e w' => e = .returned (.tuple #[.string Y, .int .i64 0]) ∧ Below w.heap.size w w') from hY
  clear hX hY hmX hXe hmY hYe h1 h2
  go_wp2_with fail
  refine hAw.mono ?_
  rintro e w1 ⟨rfl, b1⟩
  clear hAw
  go_wp2_with fail
  refine (hIa w1).mono ?_
  rintro e w1 ⟨rfl, rfl⟩
  go_wp2_with fail
  refine (hIb w1).mono ?_
  rintro e w1 ⟨rfl, rfl⟩
  have hPX := HPX.out w1 (HL.out w1 b1)
  clear hIa hIb
  go_wp2_with fail
  refine hPX.mono ?_
  rintro e w2 ⟨rfl, b2⟩
  have b12 := bl2 b1 b2
  have hPY := HPY.out w2 (HL.out w2 b12)
  clear hPX b1 b2
  go_wp2_with fail
  refine hPY.mono ?_
  rintro e w3 ⟨rfl, b3⟩
  have HF := show Hid (Below w.heap.size w w3) from bl2 b12 b3
  clear hPY b12 b3 HPX HPY HL
  have e1 := HE.out
  by_cases hab : a = b
  · subst hab
    rw [decide_eq_true rfl] at e1
    by_cases hz : X.size = Y.size
    · have e4 := HT.out hz
      rw [decide_eq_false (Int.lt_irrefl a)] at e4
      have e3 : ((X.size : Int) != (Y.size : Int)) = false := by rw [hz]; simp
      have d5 : decide (a < a) = false := decide_eq_false (Int.lt_irrefl a)
      clear hz
      go_wp2_with fail
      go_ret
      exact ⟨by first | rfl | simp, HF.out⟩
    · have e3 : ((X.size : Int) != (Y.size : Int)) = true := bne_iff_ne.2 (by omega)
      clear hz
      go_wp2_with fail
      go_ret
      exact ⟨by first | rfl | simp, HF.out⟩
  · rw [decide_eq_false hab] at e1
    have e2 : (a == b) = false := beq_eq_false_iff_ne.2 hab
    by_cases hz : X.size = Y.size
    · have e4 := HT.out hz
      have e3 : ((X.size : Int) != (Y.size : Int)) = false := by rw [hz]; simp
      by_cases hl : a < b
      · have d5 : decide (a < b) = true := decide_eq_true hl
        rw [d5] at e4
        clear hz hab
        go_wp2_with fail
        go_ret
        exact ⟨by first | rfl | simp, HF.out⟩
      · have d5 : decide (a < b) = false := decide_eq_false hl
        rw [d5] at e4
        clear hz hab
        go_wp2_with fail
        go_ret
        exact ⟨by first | rfl | simp, HF.out⟩
    · have e3 : ((X.size : Int) != (Y.size : Int)) = true := bne_iff_ne.2 (by omega)
      clear hz hab
      go_wp2_with fail
      go_ret
      exact ⟨by first | rfl | simp, HF.out⟩
end Go.Proofs.YtbepjlhknmhmeaaDoor
