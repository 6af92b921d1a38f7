/-
  The statement on line ends, blanks and words: they are the document's, for every text.
-/
import Derived.Test.YtmhbdckgejcdhaaDoorRWords
namespace Go.Proofs.YtmhbdckgejcdhaaDoor
open Go.RowKit Ch

set_option maxHeartbeats 1000000 in
theorem lBlanks_long (s : ByteArray) (w : World) (hs : s.size ≤ maxLen) (h5 : 5000 < s.size) (ht : Tabs w) :
    Calls Tryd.prog 5 #[.string s] w fun e w' => e = .returned (.bool true) ∧ Below w.heap.size w w' := by
  unfold maxLen at hs
  go_enter Tryd.func5, Tryd.ntmps5
  go_wp2_with fail
  refine (awake_any w ht).mono ?_
  rintro e w1 ⟨rfl, b1⟩
  have t1 := ht.later b1
  go_wp2_with fail
  refine (awake_any w1 t1).mono ?_
  rintro e w2 ⟨rfl, b2⟩
  go_wp2_with fail
  go_ret
  exact ⟨rfl, b1.trans (b2.mono b1.size)⟩

set_option maxHeartbeats 2000000 in
theorem lBlanks_short (s : ByteArray) (w : World) (hs : s.size ≤ 5000) (ht : Tabs w) :
    Calls Tryd.prog 5 #[.string s] w fun e w' => e = .returned (.bool true) ∧ Below w.heap.size w w' := by
  have h6 : s.size ≤ 1000000 := by omega
  have hwl : (wordsB s).length ≤ 1000001 := by
    have h1 := words_total s
    have h2 := length_total (words s.data.toList)
    rw [wordsB_length]
    omega
  obtain ⟨L, hL⟩ : ∃ L, L = (⟨(linesL s.data.toList).toArray⟩ : ByteArray) := ⟨_, rfl⟩
  obtain ⟨F, hF⟩ : ∃ F, F = (⟨(flatL s.data.toList).toArray⟩ : ByteArray) := ⟨_, rfl⟩
  obtain ⟨C, hC⟩ : ∃ C, C = (⟨(collapse s.data.toList).toArray⟩ : ByteArray) := ⟨_, rfl⟩
  have k1 := fun w => cLines_any s w h6
  have k2 := fun w => rLines_any s w h6
  have k3 := fun w => cFlat_any s w h6
  have k4 := fun w => rFlat_any s w h6
  have k5 := fun w => cCollapse_any s w h6
  have k6 := fun w => rCollapse_any s w h6
  rw [← hL] at k1 k2
  rw [← hF] at k3 k4
  rw [← hC] at k5 k6
  have K1 : Hid (∀ w, Calls Tryd.prog 13 #[.string s] w fun e w' => e = .returned (.string L) ∧ Below w.heap.size w w') := k1
  have K2 : Hid (∀ w, Calls Tryd.prog 14 #[.string s] w fun e w' => e = .returned (.string L) ∧ Below w.heap.size w w') := k2
  have K3 : Hid (∀ w, Calls Tryd.prog 15 #[.string s] w fun e w' => e = .returned (.string F) ∧ Below w.heap.size w w') := k3
  have K4 : Hid (∀ w, Calls Tryd.prog 16 #[.string s] w fun e w' => e = .returned (.string F) ∧ Below w.heap.size w w') := k4
  have K5 : Hid (∀ w, Calls Tryd.prog 17 #[.string s] w fun e w' => e = .returned (.string C) ∧ Below w.heap.size w w') := k5
  have K6 : Hid (∀ w, Calls Tryd.prog 18 #[.string s] w fun e w' => e = .returned (.string C) ∧ Below w.heap.size w w') := k6
  clear k1 k2 k3 k4 k5 k6 hL hF hC
  go_enter Tryd.func5, Tryd.ntmps5
  go_wp2_with fail
  refine (awake_any w ht).mono ?_
  rintro e w1 ⟨rfl, b1⟩
  go_wp2_with fail
  refine (K1.out w1).mono ?_
  rintro e w2 ⟨rfl, b2⟩
  have c2 := b1.trans (b2.mono b1.size)
  go_wp2_with fail
  refine (K2.out w2).mono ?_
  rintro e w3 ⟨rfl, b3⟩
  have c3 := c2.trans (b3.mono c2.size)
  go_wp2_with fail
  refine (K3.out w3).mono ?_
  rintro e w4 ⟨rfl, b4⟩
  have c4 := c3.trans (b4.mono c3.size)
  go_wp2_with fail
  refine (K4.out w4).mono ?_
  rintro e w5 ⟨rfl, b5⟩
  have c5 := c4.trans (b5.mono c4.size)
  go_wp2_with fail
  refine (K5.out w5).mono ?_
  rintro e w6 ⟨rfl, b6⟩
  have c6 := c5.trans (b6.mono c5.size)
  go_wp2_with fail
  refine (K6.out w6).mono ?_
  rintro e w7 ⟨rfl, b7⟩
  have c7 := c6.trans (b7.mono c6.size)
  go_wp2_with fail
  refine (cWords_any s w7 h6).mono ?_
  rintro e w8 ⟨v8, rfl, o8, b8⟩
  have c8 := c7.trans (b8.mono c7.size)
  have O8 : Hid (w8.ownsRow w7.heap.size 9 1 v8 (wordsB s).length ((wordsB s).map Value.string)) := o8
  clear o8
  go_wp2_with fail
  refine (rWords_any s w8 h6).mono ?_
  rintro e w9 ⟨v9, rfl, o9, b9⟩
  have c9 := c8.trans (b9.mono c8.size)
  have O9 : Hid (w9.ownsRow w8.heap.size 9 1 v9 (wordsB s).length ((wordsB s).map Value.string)) := o9
  clear o9
  go_wp2_with fail
  refine (rTexts_same hwl (ownsRow_later O8.out b9) O9.out).mono ?_
  rintro e w10 ⟨rfl, b10⟩
  go_wp2_with fail
  go_ret
  exact ⟨rfl, c9.trans (b10.mono c9.size)⟩

theorem lBlanks_walk (s : ByteArray) (w : World) (hs : s.size ≤ maxLen) (ht : Tabs w) :
    Calls Tryd.prog 5 #[.string s] w fun e w' => e = .returned (.bool true) ∧ Below w.heap.size w w' := by
  by_cases h5 : 5000 < s.size
  · exact lBlanks_long s w hs h5 ht
  · exact lBlanks_short s w (by omega) ht
end Go.Proofs.YtmhbdckgejcdhaaDoor
