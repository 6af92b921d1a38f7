/-
  The statement that what was made is made as itself again, and on texts parted by a blank, for every two texts.
-/
import Derived.Test.YtmhbdckgejcdhaaDoorLBlanks
import Derived.Test.YtmhbdckgejcdhaaDoorPlain6
namespace Go.Proofs.YtmhbdckgejcdhaaDoor
open Go.RowKit Ch

set_option maxHeartbeats 1000000 in
theorem lAgain_long (s t : ByteArray) (w : World) (hs : s.size ≤ maxLen) (ht : t.size ≤ maxLen) (h : 3000 < s.size ∨ 3000 < t.size) (tb : Tabs w) :
    Calls Tryd.prog 6 #[.string s, .string t] w fun e w' => e = .returned (.bool true) ∧ Below w.heap.size w w' := by
  unfold maxLen at hs ht
  by_cases ha : 3000 < s.size
  · clear h
    go_enter Tryd.func6, Tryd.ntmps6
    go_wp2_with fail
    refine (awake_any w tb).mono ?_
    rintro e w1 ⟨rfl, b1⟩
    have t1 := tb.later b1
    go_wp2_with fail
    refine (awake_any w1 t1).mono ?_
    rintro e w2 ⟨rfl, b2⟩
    go_wp2_with fail
    go_ret
    exact ⟨rfl, b1.trans (b2.mono b1.size)⟩
  · have hb : 3000 < t.size := by omega
    clear h
    go_enter Tryd.func6, Tryd.ntmps6
    go_wp2_with fail
    refine (awake_any w tb).mono ?_
    rintro e w1 ⟨rfl, b1⟩
    have t1 := tb.later b1
    go_wp2_with fail
    refine (awake_any w1 t1).mono ?_
    rintro e w2 ⟨rfl, b2⟩
    go_wp2_with fail
    go_ret
    exact ⟨rfl, b1.trans (b2.mono b1.size)⟩

theorem own_form {w : World} {base : Nat} {v : Value} {n : Nat} {xs : List Value} (h : w.ownsRow base 9 1 v n xs) : ∃ a cap, v = .slice a n cap := by
  rcases h.2 with ⟨hv, h0⟩ | ⟨g, cap, cur, hv, _⟩
  · exact ⟨none, 0, by rw [h0]; exact hv⟩
  · exact ⟨_, cap, hv⟩

theorem text_list (l : List UInt8) : (⟨l.toArray⟩ : ByteArray).data.toList = l := by simp

theorem cat3_list (s x t : ByteArray) : (s ++ x ++ t).data.toList = s.data.toList ++ (x.data.toList ++ t.data.toList) := by
  rw [bytes_append, bytes_append, List.append_assoc]
theorem cat3_size (s x t : ByteArray) : (s ++ x ++ t).size = s.size + x.size + t.size := by
  rw [← len_eq, cat3_list, List.length_append, List.length_append, len_eq, len_eq, len_eq]
  omega
theorem collapse_cat3 (s x t : ByteArray) (h : (s ++ x ++ t).size ≤ 1000000) (l : List UInt8) (hl : collapse (s.data.toList ++ (x.data.toList ++ t.data.toList)) = l) (w : World) :
    Calls Tryd.prog 17 #[.string (s ++ x ++ t)] w fun e w' => e = .returned (.string ⟨l.toArray⟩) ∧ Below w.heap.size w w' := by
  have h := cCollapse_any (s ++ x ++ t) w h
  rw [cat3_list, hl] at h
  exact h
theorem words_cat3 (s x t : ByteArray) (h : (s ++ x ++ t).size ≤ 1000000) (n : Nat) (hn : (wordsB (s ++ x ++ t)).length = n) (w : World) :
    Calls Tryd.prog 20 #[.string (s ++ x ++ t)] w fun e w' => ∃ a cap, e = .returned (.slice a n cap) ∧ Below w.heap.size w w' := by
  refine (cWords_any (s ++ x ++ t) w h).mono ?_
  rintro e w' ⟨v, rfl, own, b⟩
  obtain ⟨a, cap, rfl⟩ := own_form own
  rw [hn]
  exact ⟨a, cap, rfl, b⟩

set_option maxHeartbeats 2000000 in
theorem lAgain_short (s t : ByteArray) (w : World) (hs : s.size ≤ 3000) (ht : t.size ≤ 3000) (tb : Tabs w) :
    Calls Tryd.prog 6 #[.string s, .string t] w fun e w' => e = .returned (.bool true) ∧ Below w.heap.size w w' := by
  have s6 : s.size ≤ 1000000 := by omega
  have t6 : t.size ≤ 1000000 := by omega
  have zA : (linesL s.data.toList).length ≤ s.size := by have := linesL_le s.data.toList; rw [len_eq] at this; exact this
  have zB : (flatL s.data.toList).length = s.size := by rw [flatL_length, len_eq]
  have zC := collapse_le s
  have zE := collapse_le t
  obtain ⟨A, hA⟩ : ∃ A, A = (⟨(linesL s.data.toList).toArray⟩ : ByteArray) := ⟨_, rfl⟩
  obtain ⟨B, hB⟩ : ∃ B, B = (⟨(flatL s.data.toList).toArray⟩ : ByteArray) := ⟨_, rfl⟩
  obtain ⟨C, hC⟩ : ∃ C, C = (⟨(collapse s.data.toList).toArray⟩ : ByteArray) := ⟨_, rfl⟩
  obtain ⟨E, hE⟩ : ∃ E, E = (⟨(collapse t.data.toList).toArray⟩ : ByteArray) := ⟨_, rfl⟩
  obtain ⟨D, hD⟩ : ∃ D, D = (⟨(collapse (s.data.toList ++ 9 :: t.data.toList)).toArray⟩ : ByteArray) := ⟨_, rfl⟩
  obtain ⟨T9, hT9⟩ : ∃ T9 : ByteArray, T9 = ⟨#[9]⟩ := ⟨_, rfl⟩
  obtain ⟨T32, hT32⟩ : ∃ T32 : ByteArray, T32 = ⟨#[32]⟩ := ⟨_, rfl⟩
  have A6 : A.size ≤ 3000 := by rw [hA, size_of_list]; omega
  have B6 : B.size = s.size := by rw [hB, size_of_list]; exact zB
  have C6 : C.size ≤ 3001 := by rw [hC, size_of_list]; omega
  have E6 : E.size ≤ 3001 := by rw [hE, size_of_list]; omega
  have K1 : Hid (∀ w, Calls Tryd.prog 13 #[.string s] w fun e w' => e = .returned (.string A) ∧ Below w.heap.size w w') := by
    unfold Hid; rw [hA]; exact fun w => cLines_any s w s6
  have K2 : Hid (∀ w, Calls Tryd.prog 15 #[.string s] w fun e w' => e = .returned (.string B) ∧ Below w.heap.size w w') := by
    unfold Hid; rw [hB]; exact fun w => cFlat_any s w s6
  have K3 : Hid (∀ w, Calls Tryd.prog 17 #[.string s] w fun e w' => e = .returned (.string C) ∧ Below w.heap.size w w') := by
    unfold Hid; rw [hC]; exact fun w => cCollapse_any s w s6
  have K4 : Hid (∀ w, Calls Tryd.prog 13 #[.string A] w fun e w' => e = .returned (.string A) ∧ Below w.heap.size w w') := by
    have := fun w => cLines_any A w (by omega)
    rw [show linesL A.data.toList = linesL s.data.toList by rw [hA, text_list]; exact lines_again _, ← hA] at this
    exact this
  have K5 : Hid (∀ w, Calls Tryd.prog 15 #[.string B] w fun e w' => e = .returned (.string B) ∧ Below w.heap.size w w') := by
    have := fun w => cFlat_any B w (by omega)
    rw [show flatL B.data.toList = flatL s.data.toList by rw [hB, text_list]; exact flat_again _, ← hB] at this
    exact this
  have K6 : Hid (∀ w, Calls Tryd.prog 17 #[.string C] w fun e w' => e = .returned (.string C) ∧ Below w.heap.size w w') := by
    have := fun w => cCollapse_any C w (by omega)
    rw [show collapse C.data.toList = collapse s.data.toList by rw [hC, text_list]; exact collapse_again _, ← hC] at this
    exact this
  have K7 : Hid (∀ w, Calls Tryd.prog 20 #[.string C] w fun e w' => ∃ v, e = .returned v ∧ w'.ownsRow w.heap.size 9 1 v (wordsB s).length ((wordsB s).map Value.string) ∧ Below w.heap.size w w') := by
    have := fun w => cWords_any C w (by omega)
    rw [show wordsB C = wordsB s by rw [hC]; exact wordsB_collapse s] at this
    exact this
  have K9 : Hid (∀ w, Calls Tryd.prog 17 #[.string (s ++ T9 ++ t)] w fun e w' => e = .returned (.string D) ∧ Below w.heap.size w w') := by
    unfold Hid; rw [hD]
    exact collapse_cat3 s T9 t (by rw [cat3_size, hT9]; show s.size + 1 + t.size ≤ 1000000; omega) _ (by rw [hT9]; rfl)
  have K11 : Hid (∀ w, Calls Tryd.prog 17 #[.string t] w fun e w' => e = .returned (.string E) ∧ Below w.heap.size w w') := by
    unfold Hid; rw [hE]; exact fun w => cCollapse_any t w t6
  have K12 : Hid (∀ w, Calls Tryd.prog 17 #[.string (C ++ T32 ++ E)] w fun e w' => e = .returned (.string D) ∧ Below w.heap.size w w') := by
    unfold Hid; rw [hD]
    exact collapse_cat3 C T32 E (by rw [cat3_size, hT32]; show C.size + 1 + E.size ≤ 1000000; omega) _ (by rw [hT32, hC, hE, text_list, text_list]; exact (collapse_two _ _).symm)
  have K13 : Hid (∀ w, Calls Tryd.prog 20 #[.string (s ++ T32 ++ t)] w fun e w' => ∃ a cap, e = .returned (.slice a ((wordsB s).length + (wordsB t).length) cap) ∧ Below w.heap.size w w') := by
    unfold Hid
    exact words_cat3 s T32 t (by rw [cat3_size, hT32]; show s.size + 1 + t.size ≤ 1000000; omega) _ (by rw [hT32]; exact wordsB_two s t)
  have hlen : ∀ x : ByteArray, x.size ≤ 1000000 → (wordsB x).length ≤ 1000001 := fun x hx => by
    have h1 := words_total x
    have h2 := length_total (words x.data.toList)
    rw [wordsB_length]
    omega
  have n1 := hlen s s6
  have n2 := hlen t t6
  have HB6 : Hid (B.size = s.size) := B6
  have hBeq : (((B.size : Nat) : Int) == ((s.size : Nat) : Int)) = true := by rw [B6]; simp
  have B7 : B.size ≤ 3000 := by omega
  rw [hT9] at K9
  rw [hT32] at K12 K13
  clear hA hB hC hE hD zA zB zC zE hlen B6 hT9 hT32 T9 T32
  go_enter Tryd.func6, Tryd.ntmps6
  go_wp2_with fail
  refine (awake_any w tb).mono ?_
  rintro e w1 ⟨rfl, c1⟩
  go_wp2_with fail
  refine (K1.out w1).mono ?_
  rintro e w2 ⟨rfl, b2⟩
  have c2 := c1.trans (b2.mono c1.size)
  clear b2 c1
  go_wp2_with fail
  refine (K2.out w2).mono ?_
  rintro e w3 ⟨rfl, b3⟩
  have c3 := c2.trans (b3.mono c2.size)
  clear b3 c2
  go_wp2_with fail
  refine (K3.out w3).mono ?_
  rintro e w4 ⟨rfl, b4⟩
  have c4 := c3.trans (b4.mono c3.size)
  clear b4 c3
  go_wp2_with fail
  refine (K4.out w4).mono ?_
  rintro e w5 ⟨rfl, b5⟩
  have c5 := c4.trans (b5.mono c4.size)
  clear b5 c4
  go_wp2_with fail
  refine (K5.out w5).mono ?_
  rintro e w6 ⟨rfl, b6⟩
  have c6 := c5.trans (b6.mono c5.size)
  clear b6 c5
  go_wp2_with fail
  refine (K6.out w6).mono ?_
  rintro e w7 ⟨rfl, b7⟩
  have c7 := c6.trans (b7.mono c6.size)
  clear b7 c6
  go_wp2_with fail
  refine (K7.out w7).mono ?_
  rintro e w8 ⟨v8, rfl, o8, b8⟩
  have c8 := c7.trans (b8.mono c7.size)
  have O8 : Hid (w8.ownsRow w7.heap.size 9 1 v8 (wordsB s).length ((wordsB s).map Value.string)) := o8
  clear o8 b8 c7
  go_wp2_with fail
  refine (cWords_any s w8 s6).mono ?_
  rintro e w9 ⟨v9, rfl, o9, b9⟩
  have c9 := c8.trans (b9.mono c8.size)
  have O9 : Hid (w9.ownsRow w8.heap.size 9 1 v9 (wordsB s).length ((wordsB s).map Value.string)) := o9
  clear o9 c8
  go_wp2_with fail
  refine (rTexts_same n1 (ownsRow_later O8.out b9) O9.out).mono ?_
  rintro e w10 ⟨rfl, b10⟩
  have c10 := c9.trans (b10.mono c9.size)
  clear b10 c9 b9 O8 O9
  go_wp2_with fail
  refine (K9.out w10).mono ?_
  rintro e w11 ⟨rfl, b11⟩
  have c11 := c10.trans (b11.mono c10.size)
  clear b11 c10
  go_wp2_with fail
  refine (K3.out w11).mono ?_
  rintro e w12 ⟨rfl, b12⟩
  have c12 := c11.trans (b12.mono c11.size)
  clear b12 c11
  go_wp2_with fail
  refine (K11.out w12).mono ?_
  rintro e w13 ⟨rfl, b13⟩
  have c13 := c12.trans (b13.mono c12.size)
  clear b13 c12
  go_wp2_with fail
  refine (K12.out w13).mono ?_
  rintro e w14 ⟨rfl, b14⟩
  have c14 := c13.trans (b14.mono c13.size)
  clear b14 c13
  go_wp2_with fail
  refine (K2.out w14).mono ?_
  rintro e w15 ⟨rfl, b15⟩
  have c15 := c14.trans (b15.mono c14.size)
  clear b15 c14
  go_wp2_with fail
  refine (K13.out w15).mono ?_
  rintro e w16 ⟨a16, p16, rfl, b16⟩
  have c16 := c15.trans (b16.mono c15.size)
  clear b16 c15
  go_wp2_with fail
  refine (cWords_any s w16 s6).mono ?_
  rintro e w17 ⟨v17, rfl, o17, b17⟩
  have c17 := c16.trans (b17.mono c16.size)
  obtain ⟨a17, p17, rfl⟩ := own_form o17
  clear b17 c16 o17
  go_wp2_with fail
  refine (cWords_any t w17 t6).mono ?_
  rintro e w18 ⟨v18, rfl, o18, b18⟩
  have c18 := c17.trans (b18.mono c17.size)
  obtain ⟨a18, p18, rfl⟩ := own_form o18
  clear b18 c17 o18
  go_wp2_with fail
  go_ret
  exact ⟨ret_bool (by simp), c18⟩

theorem lAgain_walk (s t : ByteArray) (w : World) (hs : s.size ≤ maxLen) (ht : t.size ≤ maxLen) (tb : Tabs w) :
    Calls Tryd.prog 6 #[.string s, .string t] w fun e w' => e = .returned (.bool true) ∧ Below w.heap.size w w' := by
  by_cases h : 3000 < s.size ∨ 3000 < t.size
  · exact lAgain_long s t w hs ht h tb
  · exact lAgain_short s t w (by omega) (by omega) tb
end Go.Proofs.YtmhbdckgejcdhaaDoor
