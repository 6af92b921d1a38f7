/-
  The program's writer: copies, two bytes behind all bits.
-/
import Derived.Test.YtbhnlomppobbkaaHW3
namespace Go.Proofs.Ytbhnlomppobbkaa
open Go.RowKit Ch
set_option maxRecDepth 100000

theorem hGreatest_is (x g : Nat) (w : World) (hx : x < 1000) (hg : g = 2 ∨ g = 4) :
    Calls Try.prog 40 #[.int .i64 (x : Int), .int .i64 (g : Int)] w fun e w' => e = .returned (.int .i64 (stepOf x g : Int)) ∧ w' = w :=
  (hGreatest_any x g w hx hg).mono fun _ _ h => by
    obtain ⟨⟨s, hs, h40, he⟩, hw⟩ := h
    exact ⟨by rw [he, stepOf_of hg hs h40], hw⟩
theorem fixC_lt (s : Nat) (h : s < 288) : (fixC s).1 < 1000 ∧ (fixC s).2 ≤ 9 := by
  unfold fixC
  split
  · exact ⟨by simp; omega, by simp⟩
  · split
    · exact ⟨by simp; omega, by simp⟩
    · split
      · exact ⟨by simp; omega, by simp⟩
      · exact ⟨by simp; omega, by simp⟩
theorem pack_len_le (pre : List UInt8) (l t : List Bool) {n k : Nat} (h : (pre ++ pack l).length ≤ n) (ht : t.length ≤ 8 * k) : (pre ++ pack (l ++ t)).length ≤ n + k := by
  rw [List.length_append, pack_length] at h
  rw [List.length_append, pack_length, List.length_append]
  omega
theorem moreN_width (s g : Nat) (hg : g = 2 ∨ g = 4) (hs : s < 40) : (moreN s g).2 ≤ 20 := by
  unfold moreN; split
  · simp
  · rcases hg with rfl | rfl <;> simp <;> omega
/-- A sign put. -/
theorem wSign_any (wb : Nat) (pre : List UInt8) (l : List Bool) (v : Value) (w : World) (h : Wr wb pre l v w) (s : Nat) (hs : s < 288) (hl : (pre ++ pack l).length ≤ 800000) :
    Calls Try.prog 19 #[.pointer (some ⟨wb, 0, none⟩), .int .i64 ((fixC s).1 : Int), .int .i64 ((fixC s).2 : Int)] w fun e w' => e = .returned (.tuple #[]) ∧ ∃ v', Wr wb pre (l ++ signBits s) v' w' ∧ Below wb w w' :=
  wCode_any wb pre l v w h _ _ (by have := (fixC_lt s hs).1; omega) (by have := (fixC_lt s hs).2; omega) hl
theorem signBits_length (s : Nat) (hs : s < 288) : (signBits s).length ≤ 9 := by unfold signBits; rw [codeBits_length]; exact (fixC_lt s hs).2
set_option maxHeartbeats 4000000 in
/-- A distance put. -/
theorem wCopying_any (wb : Nat) (pre : List UInt8) (l : List Bool) (v : Value) (w : World) (h : Wr wb pre l v w) (n d : Nat) (hn : 3 ≤ n) (hn2 : n ≤ 258) (hd : 1 ≤ d) (hd2 : d ≤ 512) (hl : (pre ++ pack l).length ≤ 700000) :
    Calls Try.prog 21 #[.pointer (some ⟨wb, 0, none⟩), .int .i64 (n : Int), .int .i64 (d : Int)] w fun e w' => e = .returned (.tuple #[]) ∧ ∃ v', Wr wb pre (l ++ (lenBits n ++ farBits d)) v' w' ∧ Below wb w w' := by
  obtain ⟨hst, hst2⟩ := stepOf_is (x := d - 1) (Or.inl rfl) (by omega)
  have hG2 := fun w => hGreatest_is (d - 1) 2 w (by omega) (Or.inl rfl)
  have hC5 := fun l v w (h : Wr wb pre l v w) => wCode_any wb pre l v w h (stepOf (d - 1) 2) 5 (by omega) (by omega)
  have hR2 := fun l v w (h : Wr wb pre l v w) => wRest_any wb pre l v w h (d - 1) (stepOf (d - 1) 2) 2 (by omega) (by omega) (Or.inl rfl) hst.1
  rw [show ((d - 1 : Nat) : Int) = (d : Int) - 1 by omega] at hG2 hR2
  have hF : Hid (farBits d = codeBits (stepOf (d - 1) 2) 5 ++ numBits (d - 1 - (moreN (stepOf (d - 1) 2) 2).1) (moreN (stepOf (d - 1) 2) 2).2) := rfl
  have hwid := moreN_width (stepOf (d - 1) 2) 2 (Or.inl rfl) (by omega)
  generalize numBits (d - 1 - (moreN (stepOf (d - 1) 2) 2).1) (moreN (stepOf (d - 1) 2) 2).2 = NB at *
  generalize stepOf (d - 1) 2 = T at *
  by_cases h258 : n = 258
  · subst h258
    have hX := hFixedCode_any 285 w (by omega)
    have hS := wSign_any wb pre l v w h 285 (by omega) (by omega)
    have hl2 := pack_len_le pre l (signBits 285) (k := 2) hl (by have := signBits_length 285 (by omega); omega)
    have hL : Hid (lenBits 258 = signBits 285) := rfl
    go_enter Try.func21, Try.ntmps21
    go_wp2_with (first | (go_at_call 20; go_must (refine hX.mono ?_; rintro e w1 ⟨rfl, rfl⟩)) | (go_at_call 19; go_must (refine hS.mono ?_)))
    rintro e w1 ⟨rfl, v1, hW1, hb1⟩
    go_wp2_with (first | (go_at_call 40; go_must (refine (hG2 _).mono ?_; rintro e w2 ⟨rfl, rfl⟩)) | (go_at_call 19; go_must (refine (hC5 _ v1 _ hW1 (by omega)).mono ?_)))
    rintro e w2 ⟨rfl, v2, hW2, hb2⟩
    go_wp2_with (go_at_call 41; go_must (refine (hR2 _ v2 _ hW2 (by have := pack_len_le pre (l ++ signBits 285) (codeBits T 5) (k := 1) hl2 (by rw [codeBits_length]; omega); omega)).mono ?_))
    rintro e w3 ⟨rfl, v3, hW3, hb3⟩
    go_wp2
    go_end0
    refine ⟨rfl, v3, ?_, (hb1.trans hb2).trans hb3⟩
    rw [hF.out, hL.out]
    simpa using hW3
  · have e258 : ((n : Int) == 258) = false := by simp; omega
    obtain ⟨hst4, hst42⟩ := stepOf_is (x := n - 3) (Or.inr rfl) (by omega)
    have hlt28 : stepOf (n - 3) 4 < 28 := by
      rcases Nat.lt_or_ge (stepOf (n - 3) 4) 28 with h | h
      · exact h
      · have h1 := more_mono (g := 4) (Or.inr rfl) (i := 28) (j := stepOf (n - 3) 4) h (by omega)
        have h2 : (moreN 28 4).1 = 256 := by decide
        have := hst4.1
        omega
    have hG4 := fun w => hGreatest_is (n - 3) 4 w (by omega) (Or.inr rfl)
    have hX := fun w => hFixedCode_any (257 + stepOf (n - 3) 4) w (by omega)
    have hS := wSign_any wb pre l v w h (257 + stepOf (n - 3) 4) (by omega) (by omega)
    have hR4 := fun l v w (h : Wr wb pre l v w) => wRest_any wb pre l v w h (n - 3) (stepOf (n - 3) 4) 4 (by omega) (by omega) (Or.inr rfl) hst4.1
    have hL : Hid (lenBits n = signBits (257 + stepOf (n - 3) 4) ++ numBits (n - 3 - (moreN (stepOf (n - 3) 4) 4).1) (moreN (stepOf (n - 3) 4) 4).2) := if_neg h258
    have hsl := signBits_length (257 + stepOf (n - 3) 4) (by omega)
    have hwid4 := moreN_width (stepOf (n - 3) 4) 4 (Or.inr rfl) (by omega)
    have hnl := numBits_length (n - 3 - (moreN (stepOf (n - 3) 4) 4).1) (moreN (stepOf (n - 3) 4) 4).2
    rw [show ((n - 3 : Nat) : Int) = (n : Int) - 3 by omega] at hG4 hR4
    rw [show ((257 + stepOf (n - 3) 4 : Nat) : Int) = 257 + (stepOf (n - 3) 4 : Int) by omega] at hX
    generalize numBits (n - 3 - (moreN (stepOf (n - 3) 4) 4).1) (moreN (stepOf (n - 3) 4) 4).2 = NB4 at *
    generalize signBits (257 + stepOf (n - 3) 4) = SB at *
    generalize (fixC (257 + stepOf (n - 3) 4)).1 = c1 at *
    generalize (fixC (257 + stepOf (n - 3) 4)).2 = c2 at *
    generalize stepOf (n - 3) 4 = T4 at *
    have hl2 := pack_len_le pre l SB (k := 2) hl (by omega)
    have hl3 := pack_len_le pre (l ++ SB) NB4 (k := 3) hl2 (by omega)
    have hl4 := pack_len_le pre (l ++ SB ++ NB4) (codeBits T 5) (k := 1) hl3 (by rw [codeBits_length]; omega)
    clear hst hst2 hst4 hst42
    go_enter Try.func21, Try.ntmps21
    go_wp2_with (first | (go_at_call 40; go_must (refine (hG4 _).mono ?_; rintro e w2 ⟨rfl, rfl⟩)) | (go_at_call 20; go_must (refine (hX _).mono ?_; rintro e w1 ⟨rfl, rfl⟩)) | (go_at_call 19; go_must (refine hS.mono ?_)))
    rintro e w1 ⟨rfl, v1, hW1, hb1⟩
    go_wp2_with (go_at_call 41; go_must (refine (hR4 _ v1 _ hW1 (by omega)).mono ?_))
    rintro e w2 ⟨rfl, v2, hW2, hb2⟩
    go_wp2_with (first | (go_at_call 40; go_must (refine (hG2 _).mono ?_; rintro e w3 ⟨rfl, rfl⟩)) | (go_at_call 19; go_must (refine (hC5 _ v2 _ hW2 (by omega)).mono ?_)))
    rintro e w3 ⟨rfl, v3, hW3, hb3⟩
    go_wp2_with (go_at_call 41; go_must (refine (hR2 _ v3 _ hW3 (by omega)).mono ?_))
    rintro e w4 ⟨rfl, v4, hW4, hb4⟩
    go_wp2
    go_end0
    refine ⟨rfl, v4, ?_, ((hb1.trans hb2).trans hb3).trans hb4⟩
    rw [hF.out, hL.out]
    simpa using hW4
end Go.Proofs.Ytbhnlomppobbkaa
