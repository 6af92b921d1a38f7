/-
  Package moment: Print.
-/
import Derived.Test.YtbepjlhknmhmeaaDoorMDateD
namespace Go.Proofs.YtbepjlhknmhmeaaDoor
open Go.RowKit Ch
set_option maxRecDepth 100000

def semPR (y m d q : Nat) (x1 x2 x3 : List UInt8) : Nat → Value → World → Prop := fun ix v _ => match ix with
  | 0 => v = .pointer (some ⟨q, 0, none⟩)
  | 1 => v = .int .i64 (y : Int)
  | 2 => v = .string ⟨x1.toArray⟩
  | 3 => v = .string (⟨x1.toArray⟩ ++ ⟨#[45]⟩)
  | 4 => v = .pointer (some ⟨q, 1, none⟩)
  | 5 => v = .int .i64 (m : Int)
  | 6 => v = .string ⟨x2.toArray⟩
  | 7 => v = .string ((⟨x1.toArray⟩ ++ ⟨#[45]⟩) ++ ⟨x2.toArray⟩)
  | 8 => v = .string (((⟨x1.toArray⟩ ++ ⟨#[45]⟩) ++ ⟨x2.toArray⟩) ++ ⟨#[45]⟩)
  | 9 => v = .pointer (some ⟨q, 2, none⟩)
  | 10 => v = .int .i64 (d : Int)
  | 11 => v = .string ⟨x3.toArray⟩
  | 12 => v = .string ((((⟨x1.toArray⟩ ++ ⟨#[45]⟩) ++ ⟨x2.toArray⟩) ++ ⟨#[45]⟩) ++ ⟨x3.toArray⟩)
  | 13 => v = .string ((((⟨x1.toArray⟩ ++ ⟨#[45]⟩) ++ ⟨x2.toArray⟩) ++ ⟨#[45]⟩) ++ ⟨x3.toArray⟩)
  | _ => True
set_option maxHeartbeats 4000000 in
theorem mPrint_bad (ms : Int) (w : World) (h : ¬ IsMom ms) : Calls Tryd.prog 9 #[.int .i64 ms] w fun e w' => e = .returned (.tuple #[.string ⟨#[]⟩, .int .i64 21]) ∧ Below w.heap.size w w' := by
  have hD := mDate_bad ms w h
  clear h
  go_enter Tryd.func9, Tryd.ntmps9
  go_wp2_with fail
  refine hD.mono ?_
  rintro e w1 ⟨rfl, b1⟩
  clear hD
  have HB := show Hid (∀ o, Below w.heap.size w (w1.alloc o)) from fun o => bl2 b1 (alB _ _)
  clear b1
  go_wp2_with fail
  go_ret2
  exact ⟨rfl, HB.out _⟩
set_option maxHeartbeats 8000000 in
theorem mPrint_ok (ms : Int) (y m d t : Nat) (w : World) (h : MomOf ms y m d t) (hT : MTab w) (h10 : P10 w) : Calls Tryd.prog 9 #[.int .i64 ms] w fun e w' => e = .returned (.tuple #[.string ⟨(textL y m d t).toArray⟩, .int .i64 0]) ∧ Below w.heap.size w w' := by
  have hD := mDate_ok ms y m d t w h hT
  obtain ⟨⟨h1, h2⟩, ⟨h3, h4⟩, h5, h6⟩ := h.day
  have h7 := lenM_bounds y m
  have HT := show Hid (t < 86400000) from h.time
  have ht := h.time
  have hm := h.is
  obtain ⟨n, hn⟩ : ∃ n, dayN y m d = n := ⟨_, rfl⟩
  have hs := dayN_small h.day
  rw [hn] at hm hs
  obtain ⟨T, hTT⟩ : ∃ T : Nat, n * 86400000 + t = T := ⟨_, rfl⟩
  have HE := show Hid (IntKind.i64.wrap (ms - -62135596800000) = (T : Int) ∧ IntKind.i64.wrap (ms + 62135596800000) = (T : Int) ∧ (T : Int).tmod 86400000 = (t : Int) ∧ wrap64 (t : Int) = (t : Int)) from by
    refine ⟨by rw [IntKind.wrap_i64]; omega, by rw [IntKind.wrap_i64]; omega, ?_, by unfold wrap64; omega⟩
    rw [show (T : Int).tmod 86400000 = ((T % 86400000 : Nat) : Int) from rfl]
    omega
  obtain ⟨x1, hx1⟩ : ∃ x, padL 4 y = x := ⟨_, rfl⟩
  obtain ⟨x2, hx2⟩ : ∃ x, padL 2 m = x := ⟨_, rfl⟩
  obtain ⟨x3, hx3⟩ : ∃ x, padL 2 d = x := ⟨_, rfl⟩
  obtain ⟨x4, hx4⟩ : ∃ x, clockL t = x := ⟨_, rfl⟩
  have HTX := show Hid (textL y m d t = x1 ++ 45 :: (x2 ++ 45 :: (x3 ++ 84 :: (x4 ++ [90])))) from by show textL y m d t = _; unfold textL; rw [hx1, hx2, hx3, hx4]
  have HX := show Hid (clockL t = x4) from hx4
  have HL := show Hid (x1.length = 4 ∧ x2.length = 2 ∧ x3.length = 2) from ⟨by rw [← hx1, padL_length], by rw [← hx2, padL_length], by rw [← hx3, padL_length]⟩
  have HL4 := show Hid (x4.length ≤ 12) from by show x4.length ≤ 12; rw [← hx4, clockL_length]; split <;> omega
  have HPd := show Hid (∀ u, P10 u → (Calls Tryd.prog 22 #[.int .i64 (y : Int), .int .i64 4] u fun e w' => e = .returned (.string ⟨x1.toArray⟩) ∧ Below u.heap.size u w') ∧ (Calls Tryd.prog 22 #[.int .i64 (m : Int), .int .i64 2] u fun e w' => e = .returned (.string ⟨x2.toArray⟩) ∧ Below u.heap.size u w') ∧ (Calls Tryd.prog 22 #[.int .i64 (d : Int), .int .i64 2] u fun e w' => e = .returned (.string ⟨x3.toArray⟩) ∧ Below u.heap.size u w')) from fun u hu => by
    refine ⟨?_, ?_, ?_⟩
    · rw [← hx1]
      exact mPadT y 3 u hu (by decide) (by omega)
    · rw [← hx2]
      exact mPadT m 1 u hu (by decide) (by omega)
    · rw [← hx3]
      exact mPadT d 1 u hu (by decide) (by omega)
  have H10 := show Hid (P10 w) from h10
  clear h hT h10 h1 h2 h3 h4 h5 h6 h7 ht hm hn hs hTT hx1 hx2 hx3 hx4
  go_enter Tryd.func9, Tryd.ntmps9
  go_wp2_with fail
  refine hD.mono ?_
  rintro e w1 ⟨rfl, b1⟩
  clear hD
  have e1 := heap_push_at w1 (.cells #[.int .i64 (y : Int), .int .i64 (m : Int), .int .i64 (d : Int)] 26)
  have b2 := alB w1 (.cells #[.int .i64 (y : Int), .int .i64 (m : Int), .int .i64 (d : Int)] 26)
  obtain ⟨q, hq⟩ : ∃ q, w1.heap.size = q := ⟨_, rfl⟩
  obtain ⟨W2, hW2⟩ : ∃ W, w1.alloc (.cells #[.int .i64 (y : Int), .int .i64 (m : Int), .int .i64 (d : Int)] 26) = W := ⟨_, rfl⟩
  rw [hW2] at e1 b2
  rw [hq] at e1
  have HB := show Hid (∀ u, Below W2.drew.heap.size W2.drew u → Below w.heap.size w u) from fun u hu => bl2 (bl2 (bl2 b1 b2) (Below.refl _ W2).drew) hu
  have HU := show Hid (∀ u, Below W2.drew.heap.size W2.drew u → u.cell? ⟨q, 0, none⟩ = some (.int .i64 (y : Int)) ∧ u.cell? ⟨q, 1, none⟩ = some (.int .i64 (m : Int)) ∧ u.cell? ⟨q, 2, none⟩ = some (.int .i64 (d : Int)) ∧ P10 u) from fun u hu => by
    have x1 := (hu.block q (block_lt e1)).trans e1
    obtain ⟨c0, c1, c2, _⟩ := cells3 x1
    exact ⟨c0, c1, c2, H10.out.later (HB.out u hu)⟩
  have HC := show Hid (∀ u, Below W2.drew.heap.size W2.drew u → (Calls Tryd.prog 22 #[.int .i64 (y : Int), .int .i64 4] u fun e w' => e = .returned (.string ⟨x1.toArray⟩) ∧ Below u.heap.size u w') ∧ (Calls Tryd.prog 22 #[.int .i64 (m : Int), .int .i64 2] u fun e w' => e = .returned (.string ⟨x2.toArray⟩) ∧ Below u.heap.size u w') ∧ (Calls Tryd.prog 22 #[.int .i64 (d : Int), .int .i64 2] u fun e w' => e = .returned (.string ⟨x3.toArray⟩) ∧ Below u.heap.size u w')) from fun u hu => HPd.out u (HU.out u hu).2.2.2
  clear b1 b2 e1 HPd
  go_wp2_with fail
  clear hW2
  · skip
    refine free_walk (Sem := semPR y m d q x1 x2 x3) rfl (n := 36) (by kernel_rfl) rfl (by kernel_rfl) ?_ ?_ ?_
    · intro ix v u u' h hb
      match ix, h with
      | 0, h => exact h
      | 1, h => exact h
      | 2, h => exact h
      | 3, h => exact h
      | 4, h => exact h
      | 5, h => exact h
      | 6, h => exact h
      | 7, h => exact h
      | 8, h => exact h
      | 9, h => exact h
      | 10, h => exact h
      | 11, h => exact h
      | 12, h => exact h
      | 13, h => exact h
      | _ + 14, _ => exact trivial
    · intro ix o a u ho hF hbu
      match ix, ho, hF with
      | 0, ho, hF =>
        obtain rfl := Option.some.inj ho
        have h4 : a.tmps[4]? = some (.pointer (some ⟨q, 0, none⟩)) := (hF.out 4 rfl).trans rfl
        refine free_step rfl (by rfl) (fun K' hK => ?_)
        go_simp
        exact hK.out _ _ rfl (Below.refl _ _)
      | 1, ho, hF =>
        obtain rfl := Option.some.inj ho
        obtain ⟨v15, h15, s15⟩ := hF.dep 0 15 rfl rfl
        obtain rfl : v15 = .pointer (some ⟨q, 0, none⟩) := s15
        have g0 := (HU.out u hbu).1
        refine free_step rfl (by rfl) (fun K' hK => ?_)
        go_simp
        exact hK.out _ _ rfl (Below.refl _ _)
      | 2, ho, hF =>
        obtain rfl := Option.some.inj ho
        obtain ⟨v16, h16, s16⟩ := hF.dep 1 16 rfl rfl
        obtain rfl : v16 = .int .i64 (y : Int) := s16
        have hc := (HC.out u hbu).1
        refine free_step rfl (by rfl) (fun K' hK => ?_)
        go_wp2_with fail
        refine hc.mono ?_
        rintro e u' ⟨rfl, hb⟩
        go_simp
        exact hK.out _ _ rfl hb
      | 3, ho, hF =>
        obtain rfl := Option.some.inj ho
        obtain ⟨v17, h17, s17⟩ := hF.dep 2 17 rfl rfl
        obtain rfl : v17 = .string ⟨x1.toArray⟩ := s17
        have l1 := HL.out.1
        have l2 := HL.out.2.1
        have l3 := HL.out.2.2
        refine free_step rfl (by rfl) (fun K' hK => ?_)
        go_simp
        exact hK.out _ _ rfl (Below.refl _ _)
      | 4, ho, hF =>
        obtain rfl := Option.some.inj ho
        have h4 : a.tmps[4]? = some (.pointer (some ⟨q, 0, none⟩)) := (hF.out 4 rfl).trans rfl
        refine free_step rfl (by rfl) (fun K' hK => ?_)
        go_simp
        exact hK.out _ _ rfl (Below.refl _ _)
      | 5, ho, hF =>
        obtain rfl := Option.some.inj ho
        obtain ⟨v19, h19, s19⟩ := hF.dep 4 19 rfl rfl
        obtain rfl : v19 = .pointer (some ⟨q, 1, none⟩) := s19
        have g0 := (HU.out u hbu).2.1
        refine free_step rfl (by rfl) (fun K' hK => ?_)
        go_simp
        exact hK.out _ _ rfl (Below.refl _ _)
      | 6, ho, hF =>
        obtain rfl := Option.some.inj ho
        obtain ⟨v20, h20, s20⟩ := hF.dep 5 20 rfl rfl
        obtain rfl : v20 = .int .i64 (m : Int) := s20
        have hc := (HC.out u hbu).2.1
        refine free_step rfl (by rfl) (fun K' hK => ?_)
        go_wp2_with fail
        refine hc.mono ?_
        rintro e u' ⟨rfl, hb⟩
        go_simp
        exact hK.out _ _ rfl hb
      | 7, ho, hF =>
        obtain rfl := Option.some.inj ho
        obtain ⟨v18, h18, s18⟩ := hF.dep 3 18 rfl rfl
        obtain rfl : v18 = .string (⟨x1.toArray⟩ ++ ⟨#[45]⟩) := s18
        obtain ⟨v21, h21, s21⟩ := hF.dep 6 21 rfl rfl
        obtain rfl : v21 = .string ⟨x2.toArray⟩ := s21
        have l1 := HL.out.1
        have l2 := HL.out.2.1
        have l3 := HL.out.2.2
        refine free_step rfl (by rfl) (fun K' hK => ?_)
        go_simp
        exact hK.out _ _ rfl (Below.refl _ _)
      | 8, ho, hF =>
        obtain rfl := Option.some.inj ho
        obtain ⟨v22, h22, s22⟩ := hF.dep 7 22 rfl rfl
        obtain rfl : v22 = .string ((⟨x1.toArray⟩ ++ ⟨#[45]⟩) ++ ⟨x2.toArray⟩) := s22
        have l1 := HL.out.1
        have l2 := HL.out.2.1
        have l3 := HL.out.2.2
        refine free_step rfl (by rfl) (fun K' hK => ?_)
        go_simp
        exact hK.out _ _ rfl (Below.refl _ _)
      | 9, ho, hF =>
        obtain rfl := Option.some.inj ho
        have h4 : a.tmps[4]? = some (.pointer (some ⟨q, 0, none⟩)) := (hF.out 4 rfl).trans rfl
        refine free_step rfl (by rfl) (fun K' hK => ?_)
        go_simp
        exact hK.out _ _ rfl (Below.refl _ _)
      | 10, ho, hF =>
        obtain rfl := Option.some.inj ho
        obtain ⟨v24, h24, s24⟩ := hF.dep 9 24 rfl rfl
        obtain rfl : v24 = .pointer (some ⟨q, 2, none⟩) := s24
        have g0 := (HU.out u hbu).2.2.1
        refine free_step rfl (by rfl) (fun K' hK => ?_)
        go_simp
        exact hK.out _ _ rfl (Below.refl _ _)
      | 11, ho, hF =>
        obtain rfl := Option.some.inj ho
        obtain ⟨v25, h25, s25⟩ := hF.dep 10 25 rfl rfl
        obtain rfl : v25 = .int .i64 (d : Int) := s25
        have hc := (HC.out u hbu).2.2
        refine free_step rfl (by rfl) (fun K' hK => ?_)
        go_wp2_with fail
        refine hc.mono ?_
        rintro e u' ⟨rfl, hb⟩
        go_simp
        exact hK.out _ _ rfl hb
      | 12, ho, hF =>
        obtain rfl := Option.some.inj ho
        obtain ⟨v23, h23, s23⟩ := hF.dep 8 23 rfl rfl
        obtain rfl : v23 = .string (((⟨x1.toArray⟩ ++ ⟨#[45]⟩) ++ ⟨x2.toArray⟩) ++ ⟨#[45]⟩) := s23
        obtain ⟨v26, h26, s26⟩ := hF.dep 11 26 rfl rfl
        obtain rfl : v26 = .string ⟨x3.toArray⟩ := s26
        have l1 := HL.out.1
        have l2 := HL.out.2.1
        have l3 := HL.out.2.2
        refine free_step rfl (by rfl) (fun K' hK => ?_)
        go_simp
        exact hK.out _ _ rfl (Below.refl _ _)
      | 13, ho, hF =>
        obtain rfl := Option.some.inj ho
        obtain ⟨v27, h27, s27⟩ := hF.dep 12 27 rfl rfl
        obtain rfl : v27 = .string ((((⟨x1.toArray⟩ ++ ⟨#[45]⟩) ++ ⟨x2.toArray⟩) ++ ⟨#[45]⟩) ++ ⟨x3.toArray⟩) := s27
        refine free_step rfl (by rfl) (fun K' hK => ?_)
        go_simp
        exact hK.out _ _ rfl (Below.refl _ _)
      | n + 14, ho, _ => exact absurd (Array.getElem?_eq_some_iff.1 ho).1 (by show ¬ n + 14 < 14; omega)
    · intro vs u hS hbu
      have e13 : vs 13 = (.string ((((⟨x1.toArray⟩ ++ ⟨#[45]⟩) ++ ⟨x2.toArray⟩) ++ ⟨#[45]⟩) ++ ⟨x3.toArray⟩)) := hS 13 6 rfl
      simp only [putFrom, Act.put, List.setIfInBounds_toArray, List.set_cons_succ, List.set_cons_zero, Nat.reduceAdd]
      rw [e13]
      clear hS e13
      generalize vs 0 = z0
      generalize vs 1 = z1
      generalize vs 2 = z2
      generalize vs 3 = z3
      generalize vs 4 = z4
      generalize vs 5 = z5
      generalize vs 6 = z6
      generalize vs 7 = z7
      generalize vs 8 = z8
      generalize vs 9 = z9
      generalize vs 10 = z10
      generalize vs 11 = z11
      generalize vs 12 = z12
      have B4 := HB.out u hbu
      have h4 := (HU.out u hbu).2.2.2
      have hT := mClockT_any t u h4 HT.out
      have l1 := HL.out.1
      have l2 := HL.out.2.1
      have l3 := HL.out.2.2
      have l4 := HL4.out
      rw [HX.out] at hT
      have e1 := HE.out.1
      have e2 := HE.out.2.1
      have e3 := HE.out.2.2.1
      have e4 := HE.out.2.2.2
      clear hbu
      go_wp2_with fail
      refine hT.mono ?_
      rintro e w5 ⟨rfl, b5⟩
      clear hT
      go_wp2_with fail
      go_ret2
      refine ⟨?_, bl2 B4 b5⟩
      show Ending.returned (Value.tuple _) = Ending.returned (Value.tuple _)
      refine congrArg (fun z => Ending.returned (Value.tuple #[Value.string z, .int .i64 0])) ?_
      apply ByteArray.ext
      simp [HTX.out]
end Go.Proofs.YtbepjlhknmhmeaaDoor
