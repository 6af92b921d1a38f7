/-
  HashEqual, walked.
-/
import Derived.Test.YtgehgcnaoapbbaaDoorKPieces
import Derived.Test.YtgehgcnaoapbbaaDoorKEqual
namespace Go.Proofs.YtgehgcnaoapbbaaDoor
open Go.RowKit Ch
set_option maxRecDepth 100000

theorem rem_64 (c : Int) : ∃ k : Nat, 1 ≤ k ∧ k ≤ 64 ∧ wrap64 (1 + (wrap64 (c.tmod 64 + 64)).tmod 64) = (k : Int) := by
  have h1 := Int.tmod_lt_of_pos c (show (0 : Int) < 64 by omega)
  have h2 : -64 < c.tmod 64 := Int.lt_tmod_of_pos c (by omega)
  rw [Go.IntWalk.wrap64_in (c.tmod 64 + 64) (by omega), Int.tmod_eq_emod_of_nonneg (by omega)]
  have h3 := Int.emod_nonneg (c.tmod 64 + 64) (show (64 : Int) ≠ 0 by omega)
  have h4 := Int.emod_lt_of_pos (c.tmod 64 + 64) (show (0 : Int) < 64 by omega)
  rw [Go.IntWalk.wrap64_in _ (by omega)]
  refine ⟨(1 + (c.tmod 64 + 64) % 64).toNat, by omega, by omega, by omega⟩
def semEq (x y : Option Addr) (cx cy : Nat) (s t XK : ByteArray) (R : Bool) (k B1 B2 : Nat) : Nat → Value → World → Prop := fun i v _ => match i with
  | 0 => v = .slice x s.size cx
  | 1 => v = .slice y t.size cy
  | 2 => v = .bool R
  | 3 => v = .slice x s.size cx
  | 4 => v = .string s
  | 5 => v = .slice y t.size cy
  | 6 => v = .string t
  | 7 => v = .bool R
  | 8 => v = .bool true
  | 9 => v = .bool true
  | 10 => v = .slice x s.size cx
  | 11 => v = .slice x s.size cx
  | 12 => v = .bool true
  | 13 => v = .bool true
  | 14 => v = .bool true
  | 15 => v = .int .i64 0
  | 16 => v = .bool true
  | 17 => v = .bool true
  | 18 => v = .bool true
  | 19 => v = .int .i64 0
  | 20 => v = .bool true
  | 21 => v = .bool true
  | 22 => v = .bool true
  | 23 => v = .slice (some ⟨B1, 0, none⟩) k k
  | 24 => v = .int .i64 (k : Int)
  | 25 => v = .int .i64 (k : Int)
  | 26 => v = .bool true
  | 27 => v = .bool true
  | 28 => v = .bool true
  | 29 => v = .slice (some ⟨B2, 0, none⟩) 64 64
  | 30 => v = .int .i64 64
  | 31 => v = .bool true
  | 32 => v = .bool true
  | 33 => v = .bool true
  | 34 => v = .slice (some ⟨B1, 0, none⟩) k k
  | 35 => v = .string XK
  | 36 => v = .slice (some ⟨B2, 0, none⟩) 64 64
  | 37 => v = .int .i64 (k : Int)
  | 38 => v = .slice (some ⟨B2, 0, none⟩) k 64
  | 39 => v = .string XK
  | 40 => v = .bool true
  | 41 => v = .bool true
  | 42 => v = .bool true
  | _ => True
set_option maxHeartbeats 4000000 in
theorem lkEqual_any (x y : Option Addr) (cx cy : Nat) (s t : ByteArray) (c : Int) (w : World) (hS : IsBytes w (.slice x s.size cx) s) (hT : IsBytes w (.slice y t.size cy) t) (hKT : KTab w) :
    Calls Tryd.prog 6 #[.slice x s.size cx, .slice y t.size cy, .int .i64 c] w fun e w' => e = .returned (.bool true) ∧ Below w.heap.size w w' := by
  by_cases hs : s.size ≤ 200 ∧ t.size ≤ 200
  · obtain ⟨hs, ht⟩ := hs
    have hs0 : ¬ (200 : Int) < (s.size : Int) := by omega
    have hs1 : decide ((200 : Int) < (s.size : Int)) = false := decide_eq_false hs0
    have ht0 : ¬ (200 : Int) < (t.size : Int) := by omega
    have ht1 : decide ((200 : Int) < (t.size : Int)) = false := decide_eq_false ht0
    obtain ⟨k, hk1, hk2, ek⟩ := rem_64 c
    go_enter Tryd.func6, Tryd.ntmps6
    go_wp2_with fail
    refine (lkAwake_any w hKT).mono ?_
    rintro e w1 ⟨rfl, hb1⟩
    go_wp2_with fail
    refine (kStretch_any x y cx cy s t 2 k w1 (by omega) (by omega) (hS.later hb1) (hT.later hb1) (hKT.later hb1) (by omega) (by omega) hk1 hk2).mono ?_
    rintro e w2 ⟨⟨B1, rfl, _, hI1⟩, hb2⟩
    have hb12 := below2 hb1 hb2
    go_wp2_with fail
    refine (kStretch_any x y cx cy s t 2 64 w2 (by omega) (by omega) (hS.later hb12) (hT.later hb12) (hKT.later hb12) (by omega) (by omega) (by omega) (by omega)).mono ?_
    rintro e w3 ⟨⟨B2, rfl, _, hI2⟩, hb3⟩
    have hb13 := below2 hb12 hb3
    obtain ⟨XK, hXK⟩ : ∃ XK : ByteArray, XK = ⟨(stretchL s.data.toList t.data.toList 2 k).toArray⟩ := ⟨_, rfl⟩
    obtain ⟨XL, hXL⟩ : ∃ XL : ByteArray, XL = ⟨(stretchL s.data.toList t.data.toList 2 64).toArray⟩ := ⟨_, rfl⟩
    rw [← hXK] at hI1
    rw [← hXL] at hI2
    have hzL : XL.size = 64 := by rw [hXL, size_of_list]; exact stretchL_length _ _ _ _ (Nat.le_refl _)
    have hIk : ∀ u, IsBytes u (.slice (some ⟨B2, 0, none⟩) 64 64) XL → IsBytes u (.slice (some ⟨B2, 0, none⟩) k 64) XK := fun u h => by
      have := IsBytes.head (s := XL) (k := k) (by rw [hzL]; exact h) (by omega)
      have e : seg XL 0 k = stretchL s.data.toList t.data.toList 2 k := by
        rw [hXL]
        unfold seg stretchL
        simp [List.take_take, Nat.min_eq_left hk2]
      rw [e, ← hXK] at this
      exact this
    obtain ⟨R, hR⟩ : ∃ R : Bool, R = decide (s = t) := ⟨_, rfl⟩
    have hRs : R = true ↔ s = t := by rw [hR]; simp
    have hRe : (s.toList == t.toList) = R := by
      rw [hR]
      by_cases h : s = t
      · subst h; simp
      · have hne : ¬ s.toList = t.toList := fun e => h (by
          have : s.data.toList = t.data.toList := by rw [← ByteArray.toList_eq, ← ByteArray.toList_eq]; exact e
          cases s; cases t
          simp only at this
          rw [Array.toList_inj.1 this])
        simp [h, hne]
    have hE1 := fun u (h1 : IsBytes u (.slice x s.size cx) s) (h2 : IsBytes u (.slice y t.size cy) t) => kEqual_any x y cx cy s t u (by omega) h1 h2 R hRs
    have hE2 := fun u (h1 : IsBytes u (.slice x s.size cx) s) => kEqual_any x x cx cx s s u (by omega) h1 h1 true (by simp)
    have HU := show Hid (∀ u, Below w3.drew.heap.size w3.drew u → IsBytes u (.slice x s.size cx) s ∧ IsBytes u (.slice y t.size cy) t ∧ IsBytes u (.slice (some ⟨B1, 0, none⟩) k k) XK ∧ IsBytes u (.slice (some ⟨B2, 0, none⟩) k 64) XK) from fun u hb => ⟨((hS.later hb13).later ((Below.refl _ _).drew)).later hb, ((hT.later hb13).later ((Below.refl _ _).drew)).later hb, ((hI1.later hb3).later ((Below.refl _ _).drew)).later hb, hIk _ ((hI2.later ((Below.refl _ _).drew)).later hb)⟩
    have HB := show Hid (Below w.heap.size w w3.drew) from hb13.drew
    have tK : (XK.toList == XK.toList) = true := by simp
    clear hI1 hI2 hIk hXK hXL hzL hR hb1 hb2 hb3 hb12 hb13 hS hT hKT
    go_wp2_with fail
    refine free_walk (Sem := semEq x y cx cy s t XK R k B1 B2) rfl (n := 85) (by kernel_rfl) rfl (by kernel_rfl) ?_ ?_ ?_
    · intro i v u u' h hb
      match i, h with
      | 0, h => exact h
      | 1, h => exact h
      | 2, h => exact h
      | 3, h => exact h
      | 4, h => exact h
      | 5, h => exact h
      | 6, h => exact h
      | 7, h => exact h
      | 8, h => exact h
      | 9, h => exact h
      | 10, h => exact h
      | 11, h => exact h
      | 12, h => exact h
      | 13, h => exact h
      | 14, h => exact h
      | 15, h => exact h
      | 16, h => exact h
      | 17, h => exact h
      | 18, h => exact h
      | 19, h => exact h
      | 20, h => exact h
      | 21, h => exact h
      | 22, h => exact h
      | 23, h => exact h
      | 24, h => exact h
      | 25, h => exact h
      | 26, h => exact h
      | 27, h => exact h
      | 28, h => exact h
      | 29, h => exact h
      | 30, h => exact h
      | 31, h => exact h
      | 32, h => exact h
      | 33, h => exact h
      | 34, h => exact h
      | 35, h => exact h
      | 36, h => exact h
      | 37, h => exact h
      | 38, h => exact h
      | 39, h => exact h
      | 40, h => exact h
      | 41, h => exact h
      | 42, h => exact h
      | _ + 43, _ => exact trivial
    · intro i o a u ho hF hbu
      match i, ho, hF with
      | 0, ho, hF =>
        obtain rfl := Option.some.inj ho
        have h0 : a.tmps[0]? = some (.slice x s.size cx) := (hF.out 0 rfl).trans rfl
        refine free_step rfl (by rfl) (fun K' hK => ?_)
        go_simp
        exact hK.out _ _ rfl (Below.refl _ _)
      | 1, ho, hF =>
        obtain rfl := Option.some.inj ho
        have h1 : a.tmps[1]? = some (.slice y t.size cy) := (hF.out 1 rfl).trans rfl
        refine free_step rfl (by rfl) (fun K' hK => ?_)
        go_simp
        exact hK.out _ _ rfl (Below.refl _ _)
      | 2, ho, hF =>
        obtain rfl := Option.some.inj ho
        obtain ⟨v43, h43, s43⟩ := hF.dep 0 43 rfl rfl
        obtain rfl : v43 = .slice x s.size cx := s43
        obtain ⟨v44, h44, s44⟩ := hF.dep 1 44 rfl rfl
        obtain rfl : v44 = .slice y t.size cy := s44
        refine free_step rfl (by rfl) (fun K' hK => ?_)
        go_wp2_with fail
        refine (hE1 u (HU.out u hbu).1 (HU.out u hbu).2.1).mono ?_
        rintro e u' ⟨rfl, hb⟩
        go_simp
        exact hK.out _ _ rfl hb
      | 3, ho, hF =>
        obtain rfl := Option.some.inj ho
        have h0 : a.tmps[0]? = some (.slice x s.size cx) := (hF.out 0 rfl).trans rfl
        refine free_step rfl (by rfl) (fun K' hK => ?_)
        go_simp
        exact hK.out _ _ rfl (Below.refl _ _)
      | 4, ho, hF =>
        obtain rfl := Option.some.inj ho
        obtain ⟨v46, h46, s46⟩ := hF.dep 3 46 rfl rfl
        obtain rfl : v46 = .slice x s.size cx := s46
        have hcv := IsBytes.convert (HU.out u hbu).1
        refine free_step rfl (by rfl) (fun K' hK => ?_)
        go_simp
        exact hK.out _ _ rfl (Below.refl _ _)
      | 5, ho, hF =>
        obtain rfl := Option.some.inj ho
        have h1 : a.tmps[1]? = some (.slice y t.size cy) := (hF.out 1 rfl).trans rfl
        refine free_step rfl (by rfl) (fun K' hK => ?_)
        go_simp
        exact hK.out _ _ rfl (Below.refl _ _)
      | 6, ho, hF =>
        obtain rfl := Option.some.inj ho
        obtain ⟨v48, h48, s48⟩ := hF.dep 5 48 rfl rfl
        obtain rfl : v48 = .slice y t.size cy := s48
        have hcv := IsBytes.convert (HU.out u hbu).2.1
        refine free_step rfl (by rfl) (fun K' hK => ?_)
        go_simp
        exact hK.out _ _ rfl (Below.refl _ _)
      | 7, ho, hF =>
        obtain rfl := Option.some.inj ho
        obtain ⟨v47, h47, s47⟩ := hF.dep 4 47 rfl rfl
        obtain rfl : v47 = .string s := s47
        obtain ⟨v49, h49, s49⟩ := hF.dep 6 49 rfl rfl
        obtain rfl : v49 = .string t := s49
        refine free_step rfl (by rfl) (fun K' hK => ?_)
        go_simp
        exact hK.out _ _ rfl (Below.refl _ _)
      | 8, ho, hF =>
        obtain rfl := Option.some.inj ho
        obtain ⟨v45, h45, s45⟩ := hF.dep 2 45 rfl rfl
        obtain rfl : v45 = .bool R := s45
        obtain ⟨v50, h50, s50⟩ := hF.dep 7 50 rfl rfl
        obtain rfl : v50 = .bool R := s50
        refine free_step rfl (by rfl) (fun K' hK => ?_)
        go_simp
        exact hK.out _ _ rfl (Below.refl _ _)
      | 9, ho, hF =>
        obtain rfl := Option.some.inj ho
        obtain ⟨v51, h51, s51⟩ := hF.dep 8 51 rfl rfl
        obtain rfl : v51 = .bool true := s51
        refine free_step rfl (by rfl) (fun K' hK => ?_)
        go_simp
        exact hK.out _ _ rfl (Below.refl _ _)
      | 10, ho, hF =>
        obtain rfl := Option.some.inj ho
        have h0 : a.tmps[0]? = some (.slice x s.size cx) := (hF.out 0 rfl).trans rfl
        obtain ⟨v52, h52, s52⟩ := hF.dep 9 52 rfl rfl
        obtain rfl : v52 = .bool true := s52
        refine free_step rfl (by show (yielded _ a.tmps 9 == some true) = true; unfold yielded; simp [h52]) (fun K' hK => ?_)
        go_simp
        exact hK.out _ _ rfl (Below.refl _ _)
      | 11, ho, hF =>
        obtain rfl := Option.some.inj ho
        have h0 : a.tmps[0]? = some (.slice x s.size cx) := (hF.out 0 rfl).trans rfl
        obtain ⟨v52, h52, s52⟩ := hF.dep 9 52 rfl rfl
        obtain rfl : v52 = .bool true := s52
        refine free_step rfl (by show (yielded _ a.tmps 9 == some true) = true; unfold yielded; simp [h52]) (fun K' hK => ?_)
        go_simp
        exact hK.out _ _ rfl (Below.refl _ _)
      | 12, ho, hF =>
        obtain rfl := Option.some.inj ho
        obtain ⟨v53, h53, s53⟩ := hF.dep 10 53 rfl rfl
        obtain rfl : v53 = .slice x s.size cx := s53
        obtain ⟨v54, h54, s54⟩ := hF.dep 11 54 rfl rfl
        obtain rfl : v54 = .slice x s.size cx := s54
        obtain ⟨v52, h52, s52⟩ := hF.dep 9 52 rfl rfl
        obtain rfl : v52 = .bool true := s52
        refine free_step rfl (by show (yielded _ a.tmps 9 == some true) = true; unfold yielded; simp [h52]) (fun K' hK => ?_)
        go_wp2_with fail
        refine (hE2 u (HU.out u hbu).1).mono ?_
        rintro e u' ⟨rfl, hb⟩
        go_simp
        exact hK.out _ _ rfl hb
      | 13, ho, hF =>
        obtain rfl := Option.some.inj ho
        obtain ⟨v52, h52, s52⟩ := hF.dep 9 52 rfl rfl
        obtain rfl : v52 = .bool true := s52
        obtain ⟨v55, h55, s55⟩ := hF.dep 12 55 rfl rfl
        obtain rfl : v55 = .bool true := s55
        refine free_step rfl (by rfl) (fun K' hK => ?_)
        go_simp
        exact hK.out _ _ rfl (Below.refl _ _)
      | 14, ho, hF =>
        obtain rfl := Option.some.inj ho
        obtain ⟨v56, h56, s56⟩ := hF.dep 13 56 rfl rfl
        obtain rfl : v56 = .bool true := s56
        refine free_step rfl (by rfl) (fun K' hK => ?_)
        go_simp
        exact hK.out _ _ rfl (Below.refl _ _)
      | 15, ho, hF =>
        obtain rfl := Option.some.inj ho
        have h9 : a.tmps[9]? = some (.int .i64 0) := (hF.out 9 rfl).trans rfl
        obtain ⟨v57, h57, s57⟩ := hF.dep 14 57 rfl rfl
        obtain rfl : v57 = .bool true := s57
        refine free_step rfl (by show (yielded _ a.tmps 14 == some true) = true; unfold yielded; simp [h57]) (fun K' hK => ?_)
        go_simp
        exact hK.out _ _ rfl (Below.refl _ _)
      | 16, ho, hF =>
        obtain rfl := Option.some.inj ho
        obtain ⟨v58, h58, s58⟩ := hF.dep 15 58 rfl rfl
        obtain rfl : v58 = .int .i64 0 := s58
        obtain ⟨v57, h57, s57⟩ := hF.dep 14 57 rfl rfl
        obtain rfl : v57 = .bool true := s57
        refine free_step rfl (by show (yielded _ a.tmps 14 == some true) = true; unfold yielded; simp [h57]) (fun K' hK => ?_)
        go_simp
        exact hK.out _ _ rfl (Below.refl _ _)
      | 17, ho, hF =>
        obtain rfl := Option.some.inj ho
        obtain ⟨v57, h57, s57⟩ := hF.dep 14 57 rfl rfl
        obtain rfl : v57 = .bool true := s57
        obtain ⟨v59, h59, s59⟩ := hF.dep 16 59 rfl rfl
        obtain rfl : v59 = .bool true := s59
        refine free_step rfl (by rfl) (fun K' hK => ?_)
        go_simp
        exact hK.out _ _ rfl (Below.refl _ _)
      | 18, ho, hF =>
        obtain rfl := Option.some.inj ho
        obtain ⟨v60, h60, s60⟩ := hF.dep 17 60 rfl rfl
        obtain rfl : v60 = .bool true := s60
        refine free_step rfl (by rfl) (fun K' hK => ?_)
        go_simp
        exact hK.out _ _ rfl (Below.refl _ _)
      | 19, ho, hF =>
        obtain rfl := Option.some.inj ho
        have h11 : a.tmps[11]? = some (.int .i64 0) := (hF.out 11 rfl).trans rfl
        obtain ⟨v61, h61, s61⟩ := hF.dep 18 61 rfl rfl
        obtain rfl : v61 = .bool true := s61
        refine free_step rfl (by show (yielded _ a.tmps 18 == some true) = true; unfold yielded; simp [h61]) (fun K' hK => ?_)
        go_simp
        exact hK.out _ _ rfl (Below.refl _ _)
      | 20, ho, hF =>
        obtain rfl := Option.some.inj ho
        obtain ⟨v62, h62, s62⟩ := hF.dep 19 62 rfl rfl
        obtain rfl : v62 = .int .i64 0 := s62
        obtain ⟨v61, h61, s61⟩ := hF.dep 18 61 rfl rfl
        obtain rfl : v61 = .bool true := s61
        refine free_step rfl (by show (yielded _ a.tmps 18 == some true) = true; unfold yielded; simp [h61]) (fun K' hK => ?_)
        go_simp
        exact hK.out _ _ rfl (Below.refl _ _)
      | 21, ho, hF =>
        obtain rfl := Option.some.inj ho
        obtain ⟨v61, h61, s61⟩ := hF.dep 18 61 rfl rfl
        obtain rfl : v61 = .bool true := s61
        obtain ⟨v63, h63, s63⟩ := hF.dep 20 63 rfl rfl
        obtain rfl : v63 = .bool true := s63
        refine free_step rfl (by rfl) (fun K' hK => ?_)
        go_simp
        exact hK.out _ _ rfl (Below.refl _ _)
      | 22, ho, hF =>
        obtain rfl := Option.some.inj ho
        obtain ⟨v64, h64, s64⟩ := hF.dep 21 64 rfl rfl
        obtain rfl : v64 = .bool true := s64
        refine free_step rfl (by rfl) (fun K' hK => ?_)
        go_simp
        exact hK.out _ _ rfl (Below.refl _ _)
      | 23, ho, hF =>
        obtain rfl := Option.some.inj ho
        have h8 : a.tmps[8]? = some (.slice (some ⟨B1, 0, none⟩) k k) := (hF.out 8 rfl).trans rfl
        obtain ⟨v65, h65, s65⟩ := hF.dep 22 65 rfl rfl
        obtain rfl : v65 = .bool true := s65
        refine free_step rfl (by show (yielded _ a.tmps 22 == some true) = true; unfold yielded; simp [h65]) (fun K' hK => ?_)
        go_simp
        exact hK.out _ _ rfl (Below.refl _ _)
      | 24, ho, hF =>
        obtain rfl := Option.some.inj ho
        obtain ⟨v66, h66, s66⟩ := hF.dep 23 66 rfl rfl
        obtain rfl : v66 = .slice (some ⟨B1, 0, none⟩) k k := s66
        obtain ⟨v65, h65, s65⟩ := hF.dep 22 65 rfl rfl
        obtain rfl : v65 = .bool true := s65
        refine free_step rfl (by show (yielded _ a.tmps 22 == some true) = true; unfold yielded; simp [h65]) (fun K' hK => ?_)
        go_simp
        exact hK.out _ _ rfl (Below.refl _ _)
      | 25, ho, hF =>
        obtain rfl := Option.some.inj ho
        have h7 : a.tmps[7]? = some (.int .i64 (k : Int)) := (hF.out 7 rfl).trans rfl
        obtain ⟨v65, h65, s65⟩ := hF.dep 22 65 rfl rfl
        obtain rfl : v65 = .bool true := s65
        refine free_step rfl (by show (yielded _ a.tmps 22 == some true) = true; unfold yielded; simp [h65]) (fun K' hK => ?_)
        go_simp
        exact hK.out _ _ rfl (Below.refl _ _)
      | 26, ho, hF =>
        obtain rfl := Option.some.inj ho
        obtain ⟨v67, h67, s67⟩ := hF.dep 24 67 rfl rfl
        obtain rfl : v67 = .int .i64 (k : Int) := s67
        obtain ⟨v68, h68, s68⟩ := hF.dep 25 68 rfl rfl
        obtain rfl : v68 = .int .i64 (k : Int) := s68
        obtain ⟨v65, h65, s65⟩ := hF.dep 22 65 rfl rfl
        obtain rfl : v65 = .bool true := s65
        refine free_step rfl (by show (yielded _ a.tmps 22 == some true) = true; unfold yielded; simp [h65]) (fun K' hK => ?_)
        go_simp
        exact hK.out _ _ rfl (Below.refl _ _)
      | 27, ho, hF =>
        obtain rfl := Option.some.inj ho
        obtain ⟨v65, h65, s65⟩ := hF.dep 22 65 rfl rfl
        obtain rfl : v65 = .bool true := s65
        obtain ⟨v69, h69, s69⟩ := hF.dep 26 69 rfl rfl
        obtain rfl : v69 = .bool true := s69
        refine free_step rfl (by rfl) (fun K' hK => ?_)
        go_simp
        exact hK.out _ _ rfl (Below.refl _ _)
      | 28, ho, hF =>
        obtain rfl := Option.some.inj ho
        obtain ⟨v70, h70, s70⟩ := hF.dep 27 70 rfl rfl
        obtain rfl : v70 = .bool true := s70
        refine free_step rfl (by rfl) (fun K' hK => ?_)
        go_simp
        exact hK.out _ _ rfl (Below.refl _ _)
      | 29, ho, hF =>
        obtain rfl := Option.some.inj ho
        have h10 : a.tmps[10]? = some (.slice (some ⟨B2, 0, none⟩) 64 64) := (hF.out 10 rfl).trans rfl
        obtain ⟨v71, h71, s71⟩ := hF.dep 28 71 rfl rfl
        obtain rfl : v71 = .bool true := s71
        refine free_step rfl (by show (yielded _ a.tmps 28 == some true) = true; unfold yielded; simp [h71]) (fun K' hK => ?_)
        go_simp
        exact hK.out _ _ rfl (Below.refl _ _)
      | 30, ho, hF =>
        obtain rfl := Option.some.inj ho
        obtain ⟨v72, h72, s72⟩ := hF.dep 29 72 rfl rfl
        obtain rfl : v72 = .slice (some ⟨B2, 0, none⟩) 64 64 := s72
        obtain ⟨v71, h71, s71⟩ := hF.dep 28 71 rfl rfl
        obtain rfl : v71 = .bool true := s71
        refine free_step rfl (by show (yielded _ a.tmps 28 == some true) = true; unfold yielded; simp [h71]) (fun K' hK => ?_)
        go_simp
        exact hK.out _ _ rfl (Below.refl _ _)
      | 31, ho, hF =>
        obtain rfl := Option.some.inj ho
        obtain ⟨v73, h73, s73⟩ := hF.dep 30 73 rfl rfl
        obtain rfl : v73 = .int .i64 64 := s73
        obtain ⟨v71, h71, s71⟩ := hF.dep 28 71 rfl rfl
        obtain rfl : v71 = .bool true := s71
        refine free_step rfl (by show (yielded _ a.tmps 28 == some true) = true; unfold yielded; simp [h71]) (fun K' hK => ?_)
        go_simp
        exact hK.out _ _ rfl (Below.refl _ _)
      | 32, ho, hF =>
        obtain rfl := Option.some.inj ho
        obtain ⟨v71, h71, s71⟩ := hF.dep 28 71 rfl rfl
        obtain rfl : v71 = .bool true := s71
        obtain ⟨v74, h74, s74⟩ := hF.dep 31 74 rfl rfl
        obtain rfl : v74 = .bool true := s74
        refine free_step rfl (by rfl) (fun K' hK => ?_)
        go_simp
        exact hK.out _ _ rfl (Below.refl _ _)
      | 33, ho, hF =>
        obtain rfl := Option.some.inj ho
        obtain ⟨v75, h75, s75⟩ := hF.dep 32 75 rfl rfl
        obtain rfl : v75 = .bool true := s75
        refine free_step rfl (by rfl) (fun K' hK => ?_)
        go_simp
        exact hK.out _ _ rfl (Below.refl _ _)
      | 34, ho, hF =>
        obtain rfl := Option.some.inj ho
        have h8 : a.tmps[8]? = some (.slice (some ⟨B1, 0, none⟩) k k) := (hF.out 8 rfl).trans rfl
        obtain ⟨v76, h76, s76⟩ := hF.dep 33 76 rfl rfl
        obtain rfl : v76 = .bool true := s76
        refine free_step rfl (by show (yielded _ a.tmps 33 == some true) = true; unfold yielded; simp [h76]) (fun K' hK => ?_)
        go_simp
        exact hK.out _ _ rfl (Below.refl _ _)
      | 35, ho, hF =>
        obtain rfl := Option.some.inj ho
        obtain ⟨v77, h77, s77⟩ := hF.dep 34 77 rfl rfl
        obtain rfl : v77 = .slice (some ⟨B1, 0, none⟩) k k := s77
        obtain ⟨v76, h76, s76⟩ := hF.dep 33 76 rfl rfl
        obtain rfl : v76 = .bool true := s76
        have hcv := IsBytes.convert (HU.out u hbu).2.2.1
        refine free_step rfl (by show (yielded _ a.tmps 33 == some true) = true; unfold yielded; simp [h76]) (fun K' hK => ?_)
        go_simp
        exact hK.out _ _ rfl (Below.refl _ _)
      | 36, ho, hF =>
        obtain rfl := Option.some.inj ho
        have h10 : a.tmps[10]? = some (.slice (some ⟨B2, 0, none⟩) 64 64) := (hF.out 10 rfl).trans rfl
        obtain ⟨v76, h76, s76⟩ := hF.dep 33 76 rfl rfl
        obtain rfl : v76 = .bool true := s76
        refine free_step rfl (by show (yielded _ a.tmps 33 == some true) = true; unfold yielded; simp [h76]) (fun K' hK => ?_)
        go_simp
        exact hK.out _ _ rfl (Below.refl _ _)
      | 37, ho, hF =>
        obtain rfl := Option.some.inj ho
        have h7 : a.tmps[7]? = some (.int .i64 (k : Int)) := (hF.out 7 rfl).trans rfl
        obtain ⟨v76, h76, s76⟩ := hF.dep 33 76 rfl rfl
        obtain rfl : v76 = .bool true := s76
        refine free_step rfl (by show (yielded _ a.tmps 33 == some true) = true; unfold yielded; simp [h76]) (fun K' hK => ?_)
        go_simp
        exact hK.out _ _ rfl (Below.refl _ _)
      | 38, ho, hF =>
        obtain rfl := Option.some.inj ho
        obtain ⟨v79, h79, s79⟩ := hF.dep 36 79 rfl rfl
        obtain rfl : v79 = .slice (some ⟨B2, 0, none⟩) 64 64 := s79
        obtain ⟨v80, h80, s80⟩ := hF.dep 37 80 rfl rfl
        obtain rfl : v80 = .int .i64 (k : Int) := s80
        obtain ⟨v76, h76, s76⟩ := hF.dep 33 76 rfl rfl
        obtain rfl : v76 = .bool true := s76
        have hk3 : (k : Int) ≤ 64 := by omega
        refine free_step rfl (by show (yielded _ a.tmps 33 == some true) = true; unfold yielded; simp [h76]) (fun K' hK => ?_)
        go_simp
        exact hK.out _ _ rfl (Below.refl _ _)
      | 39, ho, hF =>
        obtain rfl := Option.some.inj ho
        obtain ⟨v81, h81, s81⟩ := hF.dep 38 81 rfl rfl
        obtain rfl : v81 = .slice (some ⟨B2, 0, none⟩) k 64 := s81
        obtain ⟨v76, h76, s76⟩ := hF.dep 33 76 rfl rfl
        obtain rfl : v76 = .bool true := s76
        have hcv := IsBytes.convert (HU.out u hbu).2.2.2
        refine free_step rfl (by show (yielded _ a.tmps 33 == some true) = true; unfold yielded; simp [h76]) (fun K' hK => ?_)
        go_simp
        exact hK.out _ _ rfl (Below.refl _ _)
      | 40, ho, hF =>
        obtain rfl := Option.some.inj ho
        obtain ⟨v78, h78, s78⟩ := hF.dep 35 78 rfl rfl
        obtain rfl : v78 = .string XK := s78
        obtain ⟨v82, h82, s82⟩ := hF.dep 39 82 rfl rfl
        obtain rfl : v82 = .string XK := s82
        obtain ⟨v76, h76, s76⟩ := hF.dep 33 76 rfl rfl
        obtain rfl : v76 = .bool true := s76
        refine free_step rfl (by show (yielded _ a.tmps 33 == some true) = true; unfold yielded; simp [h76]) (fun K' hK => ?_)
        go_simp
        exact hK.out _ _ rfl (Below.refl _ _)
      | 41, ho, hF =>
        obtain rfl := Option.some.inj ho
        obtain ⟨v76, h76, s76⟩ := hF.dep 33 76 rfl rfl
        obtain rfl : v76 = .bool true := s76
        obtain ⟨v83, h83, s83⟩ := hF.dep 40 83 rfl rfl
        obtain rfl : v83 = .bool true := s83
        refine free_step rfl (by rfl) (fun K' hK => ?_)
        go_simp
        exact hK.out _ _ rfl (Below.refl _ _)
      | 42, ho, hF =>
        obtain rfl := Option.some.inj ho
        obtain ⟨v84, h84, s84⟩ := hF.dep 41 84 rfl rfl
        obtain rfl : v84 = .bool true := s84
        refine free_step rfl (by rfl) (fun K' hK => ?_)
        go_simp
        exact hK.out _ _ rfl (Below.refl _ _)
      | n + 43, ho, _ => exact absurd (Array.getElem?_eq_some_iff.1 ho).1 (by show ¬ n + 43 < 43; omega)
    · intro vs u hS hbu
      have e42 : vs 42 = .bool true := hS 42 6 rfl
      simp only [putFrom, Act.put, List.setIfInBounds_toArray, List.set_cons_succ, List.set_cons_zero, Nat.reduceAdd]
      rw [e42]
      clear hS e42
      generalize vs 0 = z0
      generalize vs 1 = z1
      generalize vs 2 = z2
      generalize vs 3 = z3
      generalize vs 4 = z4
      generalize vs 5 = z5
      generalize vs 6 = z6
      generalize vs 7 = z7
      generalize vs 8 = z8
      generalize vs 9 = z9
      generalize vs 10 = z10
      generalize vs 11 = z11
      generalize vs 12 = z12
      generalize vs 13 = z13
      generalize vs 14 = z14
      generalize vs 15 = z15
      generalize vs 16 = z16
      generalize vs 17 = z17
      generalize vs 18 = z18
      generalize vs 19 = z19
      generalize vs 20 = z20
      generalize vs 21 = z21
      generalize vs 22 = z22
      generalize vs 23 = z23
      generalize vs 24 = z24
      generalize vs 25 = z25
      generalize vs 26 = z26
      generalize vs 27 = z27
      generalize vs 28 = z28
      generalize vs 29 = z29
      generalize vs 30 = z30
      generalize vs 31 = z31
      generalize vs 32 = z32
      generalize vs 33 = z33
      generalize vs 34 = z34
      generalize vs 35 = z35
      generalize vs 36 = z36
      generalize vs 37 = z37
      generalize vs 38 = z38
      generalize vs 39 = z39
      generalize vs 40 = z40
      generalize vs 41 = z41
      go_wp2_with fail
      go_ret
      exact ⟨rfl, HB.out.trans (hbu.mono HB.out.size)⟩
  · by_cases hs5 : (200 : Int) < (s.size : Int)
    · go_enter Tryd.func6, Tryd.ntmps6
      go_wp2_with fail
      refine (lkAwake_any w hKT).mono ?_
      rintro e w1 ⟨rfl, hb1⟩
      go_wp2_with fail
      refine (lkAwake_any w1 (hKT.later hb1)).mono ?_
      rintro e w2 ⟨rfl, hb2⟩
      go_wp2_with fail
      go_ret
      exact ⟨rfl, below2 hb1 hb2⟩
    · have hs6 : (200 : Int) < (t.size : Int) := by omega
      go_enter Tryd.func6, Tryd.ntmps6
      go_wp2_with fail
      refine (lkAwake_any w hKT).mono ?_
      rintro e w1 ⟨rfl, hb1⟩
      go_wp2_with fail
      refine (lkAwake_any w1 (hKT.later hb1)).mono ?_
      rintro e w2 ⟨rfl, hb2⟩
      go_wp2_with fail
      go_ret
      exact ⟨rfl, below2 hb1 hb2⟩
end Go.Proofs.YtgehgcnaoapbbaaDoor
