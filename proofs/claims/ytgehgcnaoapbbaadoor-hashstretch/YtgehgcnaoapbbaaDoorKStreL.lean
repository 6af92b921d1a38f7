/-
  HashStretch, walked.
-/
import Derived.Test.YtgehgcnaoapbbaaDoorKSums
import Derived.Test.YtgehgcnaoapbbaaDoorVStre
import Derived.Test.YtgehgcnaoapbbaaDoorKStre
namespace Go.Proofs.YtgehgcnaoapbbaaDoor
open Go.RowKit Ch
set_option maxRecDepth 100000

def semStre (x y : Option Addr) (cx cy rn zn pb B : Nat) (k t SH : ByteArray) : Nat → Value → World → Prop := fun ix v u => match ix with
  | 0 => v = .int .i64 0
  | 1 => v = .bool true
  | 2 => v = .bool true
  | 3 => v = .slice (some ⟨B, 0, none⟩) zn zn
  | 4 => v = .string SH
  | 5 => ∃ au cu av cv, v = .agg #[.slice au 8 cu, .slice av 64 cv] ∧ IsN .u32 u (.slice au 8 cu) beginS.l ∧ IsN .u32 u (.slice av 64 cv) roundK
  | 6 => v = .pointer (some ⟨pb, 0, none⟩)
  | 7 => v = .slice x k.size cx
  | 8 => v = .pointer (some ⟨pb, 1, none⟩)
  | 9 => v = .slice y t.size cy
  | 10 => v = .int .i64 (rn : Int)
  | 11 => v = .int .i64 (zn : Int)
  | 12 => IsBytes u v SH
  | 13 => v = .string SH
  | 14 => v = .bool true
  | 15 => v = .bool true
  | 16 => v = .bool true
  | _ => True
set_option maxHeartbeats 4000000 in
theorem lkStretch_bad (x y : Option Addr) (cx cy : Nat) (k t : ByteArray) (r z : Int) (w : World) (hKT : KTab w) (hk : k.size ≤ 200) (ht : t.size ≤ 200) (hbad : r < 1 ∨ 100000 < r ∨ z < 1 ∨ 64 < z) :
    Calls Tryd.prog 5 #[.agg #[.slice x k.size cx, .slice y t.size cy], .int .i64 r, .int .i64 z] w fun e w' => e = .returned (.bool true) ∧ Below w.heap.size w w' := by
  have hb0 : Below w.heap.size w (w.alloc (.cells #[.slice x k.size cx, .slice y t.size cy] 37)) := (Below.refl _ w).alloc (Nat.le_refl _) _
  have hNb := heap_push_at w (.cells #[.slice x k.size cx, .slice y t.size cy] 37)
  generalize hW0 : w.alloc (.cells #[.slice x k.size cx, .slice y t.size cy] 37) = W0 at *
  have hlt0 := block_lt hNb
  have gb0 := block_cell 0 hNb rfl
  have gb1 := block_cell 1 hNb rfl
  have hk2 : ¬ (200 : Int) < (k.size : Int) := by omega
  have ht2 : ¬ (200 : Int) < (t.size : Int) := by omega
  have HKT := show Hid (KTab W0) from hKT.later hb0
  have HB0 := show Hid (Below w.heap.size w W0) from hb0
  clear hKT hb0 hNb
  by_cases c1 : r < 1
  · have d1 : ¬ 1 ≤ r := by omega
    have hSt := fun u => kStretch_bad (.slice x k.size cx) (.slice y t.size cy) r z u hbad
    go_enter Tryd.func5, Tryd.ntmps5
    go_wp2_with fail
    refine (lkAwake_any W0 HKT.out).mono ?_
    rintro e w1 ⟨rfl, hb1⟩
    have g0 := (hb1.cell (p := ⟨w.heap.size, 0, none⟩) hlt0).trans gb0
    have g1 := (hb1.cell (p := ⟨w.heap.size, 1, none⟩) hlt0).trans gb1
    go_wp2_with fail
    refine (hSt w1).mono ?_
    rintro e w2 ⟨rfl, hb2⟩
    go_wp2_with fail
    go_ret
    exact ⟨rfl, HB0.out.trans ((hb1.trans (hb2.mono hb1.size)).mono HB0.out.size)⟩
  by_cases c2 : 100000 < r
  · have d1 : 1 ≤ r := by omega
    have d2 : ¬ r ≤ 100000 := by omega
    have hSt := fun u => kStretch_bad (.slice x k.size cx) (.slice y t.size cy) r z u hbad
    go_enter Tryd.func5, Tryd.ntmps5
    go_wp2_with fail
    refine (lkAwake_any W0 HKT.out).mono ?_
    rintro e w1 ⟨rfl, hb1⟩
    have g0 := (hb1.cell (p := ⟨w.heap.size, 0, none⟩) hlt0).trans gb0
    have g1 := (hb1.cell (p := ⟨w.heap.size, 1, none⟩) hlt0).trans gb1
    go_wp2_with fail
    refine (hSt w1).mono ?_
    rintro e w2 ⟨rfl, hb2⟩
    go_wp2_with fail
    go_ret
    exact ⟨rfl, HB0.out.trans ((hb1.trans (hb2.mono hb1.size)).mono HB0.out.size)⟩
  by_cases c3 : z < 1
  · have d1 : 1 ≤ r := by omega
    have d2 : r ≤ 100000 := by omega
    have d3 : ¬ 1 ≤ z := by omega
    have hSt := fun u => kStretch_bad (.slice x k.size cx) (.slice y t.size cy) r z u hbad
    go_enter Tryd.func5, Tryd.ntmps5
    go_wp2_with fail
    refine (lkAwake_any W0 HKT.out).mono ?_
    rintro e w1 ⟨rfl, hb1⟩
    have g0 := (hb1.cell (p := ⟨w.heap.size, 0, none⟩) hlt0).trans gb0
    have g1 := (hb1.cell (p := ⟨w.heap.size, 1, none⟩) hlt0).trans gb1
    go_wp2_with fail
    refine (hSt w1).mono ?_
    rintro e w2 ⟨rfl, hb2⟩
    go_wp2_with fail
    go_ret
    exact ⟨rfl, HB0.out.trans ((hb1.trans (hb2.mono hb1.size)).mono HB0.out.size)⟩
  have c4 : 64 < z := by omega
  · have d1 : 1 ≤ r := by omega
    have d2 : r ≤ 100000 := by omega
    have d3 : 1 ≤ z := by omega
    have d4 : ¬ z ≤ 64 := by omega
    have hSt := fun u => kStretch_bad (.slice x k.size cx) (.slice y t.size cy) r z u hbad
    go_enter Tryd.func5, Tryd.ntmps5
    go_wp2_with fail
    refine (lkAwake_any W0 HKT.out).mono ?_
    rintro e w1 ⟨rfl, hb1⟩
    have g0 := (hb1.cell (p := ⟨w.heap.size, 0, none⟩) hlt0).trans gb0
    have g1 := (hb1.cell (p := ⟨w.heap.size, 1, none⟩) hlt0).trans gb1
    go_wp2_with fail
    refine (hSt w1).mono ?_
    rintro e w2 ⟨rfl, hb2⟩
    go_wp2_with fail
    go_ret
    exact ⟨rfl, HB0.out.trans ((hb1.trans (hb2.mono hb1.size)).mono HB0.out.size)⟩
set_option maxHeartbeats 4000000 in
theorem lkStretch_any (x y : Option Addr) (cx cy : Nat) (k t : ByteArray) (r z : Int) (w : World) (hKB : IsBytes w (.slice x k.size cx) k) (hT : IsBytes w (.slice y t.size cy) t) (hKT : KTab w) :
    Calls Tryd.prog 5 #[.agg #[.slice x k.size cx, .slice y t.size cy], .int .i64 r, .int .i64 z] w fun e w' => e = .returned (.bool true) ∧ Below w.heap.size w w' := by
  by_cases hk : k.size ≤ 200
  rotate_left
  · have hk2 : (200 : Int) < (k.size : Int) := by omega
    have hb0 : Below w.heap.size w (w.alloc (.cells #[.slice x k.size cx, .slice y t.size cy] 37)) := (Below.refl _ w).alloc (Nat.le_refl _) _
    have hNb := heap_push_at w (.cells #[.slice x k.size cx, .slice y t.size cy] 37)
    generalize hW0 : w.alloc (.cells #[.slice x k.size cx, .slice y t.size cy] 37) = W0 at *
    have hlt0 := block_lt hNb
    have gb0 := block_cell 0 hNb rfl
    have gb1 := block_cell 1 hNb rfl
    have HKT := show Hid (KTab W0) from hKT.later hb0
    have HB0 := show Hid (Below w.heap.size w W0) from hb0
    clear hKT hb0 hNb
    go_enter Tryd.func5, Tryd.ntmps5
    go_wp2_with fail
    refine (lkAwake_any W0 HKT.out).mono ?_
    rintro e w1 ⟨rfl, hb1⟩
    have g0 := (hb1.cell (p := ⟨w.heap.size, 0, none⟩) hlt0).trans gb0
    have g1 := (hb1.cell (p := ⟨w.heap.size, 1, none⟩) hlt0).trans gb1
    go_wp2_with fail
    refine (lkAwake_any w1 (HKT.out.later hb1)).mono ?_
    rintro e w2 ⟨rfl, hb2⟩
    go_wp2_with fail
    go_ret
    exact ⟨rfl, HB0.out.trans ((hb1.trans (hb2.mono hb1.size)).mono HB0.out.size)⟩
  by_cases ht : t.size ≤ 200
  rotate_left
  · have hk2 : ¬ (200 : Int) < (k.size : Int) := by omega
    have ht2 : (200 : Int) < (t.size : Int) := by omega
    have hb0 : Below w.heap.size w (w.alloc (.cells #[.slice x k.size cx, .slice y t.size cy] 37)) := (Below.refl _ w).alloc (Nat.le_refl _) _
    have hNb := heap_push_at w (.cells #[.slice x k.size cx, .slice y t.size cy] 37)
    generalize hW0 : w.alloc (.cells #[.slice x k.size cx, .slice y t.size cy] 37) = W0 at *
    have hlt0 := block_lt hNb
    have gb0 := block_cell 0 hNb rfl
    have gb1 := block_cell 1 hNb rfl
    have HKT := show Hid (KTab W0) from hKT.later hb0
    have HB0 := show Hid (Below w.heap.size w W0) from hb0
    clear hKT hb0 hNb
    go_enter Tryd.func5, Tryd.ntmps5
    go_wp2_with fail
    refine (lkAwake_any W0 HKT.out).mono ?_
    rintro e w1 ⟨rfl, hb1⟩
    have g0 := (hb1.cell (p := ⟨w.heap.size, 0, none⟩) hlt0).trans gb0
    have g1 := (hb1.cell (p := ⟨w.heap.size, 1, none⟩) hlt0).trans gb1
    go_wp2_with fail
    refine (lkAwake_any w1 (HKT.out.later hb1)).mono ?_
    rintro e w2 ⟨rfl, hb2⟩
    go_wp2_with fail
    go_ret
    exact ⟨rfl, HB0.out.trans ((hb1.trans (hb2.mono hb1.size)).mono HB0.out.size)⟩
  by_cases hbad : r < 1 ∨ 100000 < r ∨ z < 1 ∨ 64 < z
  · exact lkStretch_bad x y cx cy k t r z w hKT hk ht hbad
  obtain ⟨rn, rfl⟩ : ∃ rn : Nat, r = (rn : Int) := ⟨r.toNat, by omega⟩
  obtain ⟨zn, rfl⟩ : ∃ zn : Nat, z = (zn : Int) := ⟨z.toNat, by omega⟩
  have d1 : (1 : Int) ≤ (rn : Int) := by omega
  have d2 : (rn : Int) ≤ 100000 := by omega
  have d3 : (1 : Int) ≤ (zn : Int) := by omega
  have d4 : (zn : Int) ≤ 64 := by omega
  have c1 : ¬ (rn : Int) < 1 := by omega
  have c2 : ¬ (100000 : Int) < (rn : Int) := by omega
  have c3 : ¬ (zn : Int) < 1 := by omega
  have c4 : ¬ (64 : Int) < (zn : Int) := by omega
  have n1 : 1 ≤ rn := by omega
  have n3 : 1 ≤ zn := by omega
  have n4 : zn ≤ 64 := by omega
  have hb0 : Below w.heap.size w (w.alloc (.cells #[.slice x k.size cx, .slice y t.size cy] 37)) := (Below.refl _ w).alloc (Nat.le_refl _) _
  have hNb := heap_push_at w (.cells #[.slice x k.size cx, .slice y t.size cy] 37)
  generalize hW0 : w.alloc (.cells #[.slice x k.size cx, .slice y t.size cy] 37) = W0 at *
  have hlt0 := block_lt hNb
  have gb0 := block_cell 0 hNb rfl
  have gb1 := block_cell 1 hNb rfl
  have hk2 : ¬ (200 : Int) < (k.size : Int) := by omega
  have ht2 : ¬ (200 : Int) < (t.size : Int) := by omega
  have HKT := show Hid (KTab W0) from hKT.later hb0
  have HB0 := show Hid (Below w.heap.size w W0) from hb0
  have HKB := show Hid (IsBytes W0 (.slice x k.size cx) k ∧ IsBytes W0 (.slice y t.size cy) t) from ⟨hKB.later hb0, hT.later hb0⟩
  clear hKT hb0 hNb hKB hT hbad
  obtain ⟨pb, hpb⟩ : ∃ pb, w.heap.size = pb := ⟨_, rfl⟩
  rw [hpb] at gb0 gb1 hlt0
  by_cases h12 : 12 < rn
  · have h122 : (12 : Int) < (rn : Int) := by omega
    go_enter Tryd.func5, Tryd.ntmps5
    go_wp2_with fail
    refine (lkAwake_any W0 HKT.out).mono ?_
    rintro e w1 ⟨rfl, hb1⟩
    have g0 := (hb1.cell (p := ⟨pb, 0, none⟩) hlt0).trans gb0
    have g1 := (hb1.cell (p := ⟨pb, 1, none⟩) hlt0).trans gb1
    go_wp2_with fail
    go_ret
    exact ⟨rfl, HB0.out.trans (hb1.mono HB0.out.size)⟩
  · have h122 : ¬ (12 : Int) < (rn : Int) := by omega
    go_enter Tryd.func5, Tryd.ntmps5
    go_wp2_with fail
    refine (lkAwake_any W0 HKT.out).mono ?_
    rintro e w1 ⟨rfl, hb1⟩
    have g0 := (hb1.cell (p := ⟨pb, 0, none⟩) hlt0).trans gb0
    have g1 := (hb1.cell (p := ⟨pb, 1, none⟩) hlt0).trans gb1
    obtain ⟨SH, hSH⟩ : ∃ SH : ByteArray, SH = ⟨(stretchL k.data.toList t.data.toList rn zn).toArray⟩ := ⟨_, rfl⟩
    have hSt := kStretch_any x y cx cy k t rn zn w1 (by omega) (by omega) (HKB.out.1.later hb1) (HKB.out.2.later hb1) (HKT.out.later hb1) n1 (by omega) n3 n4
    rw [← hSH] at hSt
    go_wp2_with fail
    refine hSt.mono ?_
    rintro e w2 ⟨⟨B, rfl, _, hIB⟩, hb2⟩
    clear hSt
    have hb02 : Below W0.heap.size W0 w2 := hb1.trans (hb2.mono hb1.size)
    have HRef := show Hid (∀ u au cu av cv, Below W0.heap.size W0 u → IsN .u32 u (.slice au 8 cu) beginS.l → IsN .u32 u (.slice av 64 cv) roundK → Calls Tryd.prog 16 #[.agg #[.slice au 8 cu, .slice av 64 cv], .slice x k.size cx, .slice y t.size cy, .int .i64 (rn : Int), .int .i64 (zn : Int)] u fun e w' => (∃ v, e = .returned v ∧ IsBytes w' v SH) ∧ Below u.heap.size u w') from fun u au cu av cv hbu h1 h2 => by
      have := vStretch_any au av x y cu cv cx cy k t rn zn u h1 h2 (HKB.out.1.later hbu) (HKB.out.2.later hbu) (by omega) (by omega) n1 (by omega) n3 n4
      rw [← hSH] at this
      exact this
    have HU := show Hid (∀ u, Below w2.drew.heap.size w2.drew u → Below W0.heap.size W0 u ∧ u.cell? ⟨pb, 0, none⟩ = some (.slice x k.size cx) ∧ u.cell? ⟨pb, 1, none⟩ = some (.slice y t.size cy) ∧ IsBytes u (.slice (some ⟨B, 0, none⟩) zn zn) SH) from fun u hb => by
      have hbu : Below W0.heap.size W0 u := hb02.drew.trans (hb.mono hb02.drew.size)
      exact ⟨hbu, (hbu.cell (p := ⟨pb, 0, none⟩) hlt0).trans gb0, (hbu.cell (p := ⟨pb, 1, none⟩) hlt0).trans gb1, (hIB.later ((Below.refl _ _).drew)).later hb⟩
    have tS : (SH.toList == SH.toList) = true := by simp
    have HBW := show Hid (Below w.heap.size w w2.drew) from HB0.out.trans ((hb02.drew).mono HB0.out.size)
    clear g0 g1 gb0 gb1 hSH hIB hb1 hb2 hb02
    go_wp2_with fail
    refine free_walk (Sem := semStre x y cx cy rn zn pb B k t SH) rfl (n := 89) (by kernel_rfl) rfl (by kernel_rfl) ?_ ?_ ?_
    · intro ix v u u' h hb
      match ix, h with
      | 0, h => exact h
      | 1, h => exact h
      | 2, h => exact h
      | 3, h => exact h
      | 4, h => exact h
      | 5, h => exact by obtain ⟨au, cu, av, cv, h1, h2, h3⟩ := h; exact ⟨au, cu, av, cv, h1, h2.later hb, h3.later hb⟩
      | 6, h => exact h
      | 7, h => exact h
      | 8, h => exact h
      | 9, h => exact h
      | 10, h => exact h
      | 11, h => exact h
      | 12, h => exact IsBytes.later h hb
      | 13, h => exact h
      | 14, h => exact h
      | 15, h => exact h
      | 16, h => exact h
      | _ + 17, _ => exact trivial
    · intro ix o a u ho hF hbu
      match ix, ho, hF with
      | 0, ho, hF =>
        obtain rfl := Option.some.inj ho
        have h8 : a.tmps[8]? = some (.int .i64 0) := (hF.out 8 rfl).trans rfl
        refine free_step rfl (by rfl) (fun K' hK => ?_)
        go_simp
        exact hK.out _ _ rfl (Below.refl _ _)
      | 1, ho, hF =>
        obtain rfl := Option.some.inj ho
        obtain ⟨v73, h73, s73⟩ := hF.dep 0 73 rfl rfl
        obtain rfl : v73 = .int .i64 0 := s73
        refine free_step rfl (by rfl) (fun K' hK => ?_)
        go_simp
        exact hK.out _ _ rfl (Below.refl _ _)
      | 2, ho, hF =>
        obtain rfl := Option.some.inj ho
        obtain ⟨v74, h74, s74⟩ := hF.dep 1 74 rfl rfl
        obtain rfl : v74 = .bool true := s74
        refine free_step rfl (by rfl) (fun K' hK => ?_)
        go_simp
        exact hK.out _ _ rfl (Below.refl _ _)
      | 3, ho, hF =>
        obtain rfl := Option.some.inj ho
        have h7 : a.tmps[7]? = some (.slice (some ⟨B, 0, none⟩) zn zn) := (hF.out 7 rfl).trans rfl
        obtain ⟨v75, h75, s75⟩ := hF.dep 2 75 rfl rfl
        obtain rfl : v75 = .bool true := s75
        refine free_step rfl (by show (yielded _ a.tmps 2 == some true) = true; unfold yielded; simp [h75]) (fun K' hK => ?_)
        go_simp
        exact hK.out _ _ rfl (Below.refl _ _)
      | 4, ho, hF =>
        obtain rfl := Option.some.inj ho
        obtain ⟨v76, h76, s76⟩ := hF.dep 3 76 rfl rfl
        obtain rfl : v76 = .slice (some ⟨B, 0, none⟩) zn zn := s76
        obtain ⟨v75, h75, s75⟩ := hF.dep 2 75 rfl rfl
        obtain rfl : v75 = .bool true := s75
        have hcv := IsBytes.convert (HU.out u hbu).2.2.2
        refine free_step rfl (by show (yielded _ a.tmps 2 == some true) = true; unfold yielded; simp [h75]) (fun K' hK => ?_)
        go_simp
        exact hK.out _ _ rfl (Below.refl _ _)
      | 5, ho, hF =>
        obtain rfl := Option.some.inj ho
        obtain ⟨v75, h75, s75⟩ := hF.dep 2 75 rfl rfl
        obtain rfl : v75 = .bool true := s75
        refine free_step rfl (by show (yielded _ a.tmps 2 == some true) = true; unfold yielded; simp [h75]) (fun K' hK => ?_)
        go_wp2_with fail
        refine (vNew_any u).mono ?_
        rintro e u' ⟨⟨p, q, rfl, hp, hq⟩, hb⟩
        obtain ⟨au, cu, rfl, _⟩ := id hp
        obtain ⟨av, cv, rfl, _⟩ := id hq
        go_simp
        exact hK.out _ _ ⟨au, cu, av, cv, rfl, hp, hq⟩ hb
      | 6, ho, hF =>
        obtain rfl := Option.some.inj ho
        have h3 : a.tmps[3]? = some (.pointer (some ⟨pb, 0, none⟩)) := (hF.out 3 rfl).trans rfl
        obtain ⟨v75, h75, s75⟩ := hF.dep 2 75 rfl rfl
        obtain rfl : v75 = .bool true := s75
        refine free_step rfl (by show (yielded _ a.tmps 2 == some true) = true; unfold yielded; simp [h75]) (fun K' hK => ?_)
        go_simp
        exact hK.out _ _ rfl (Below.refl _ _)
      | 7, ho, hF =>
        obtain rfl := Option.some.inj ho
        obtain ⟨v79, h79, s79⟩ := hF.dep 6 79 rfl rfl
        obtain rfl : v79 = .pointer (some ⟨pb, 0, none⟩) := s79
        obtain ⟨v75, h75, s75⟩ := hF.dep 2 75 rfl rfl
        obtain rfl : v75 = .bool true := s75
        have gx := (HU.out u hbu).2.1
        refine free_step rfl (by show (yielded _ a.tmps 2 == some true) = true; unfold yielded; simp [h75]) (fun K' hK => ?_)
        go_simp
        exact hK.out _ _ rfl (Below.refl _ _)
      | 8, ho, hF =>
        obtain rfl := Option.some.inj ho
        have h3 : a.tmps[3]? = some (.pointer (some ⟨pb, 0, none⟩)) := (hF.out 3 rfl).trans rfl
        obtain ⟨v75, h75, s75⟩ := hF.dep 2 75 rfl rfl
        obtain rfl : v75 = .bool true := s75
        refine free_step rfl (by show (yielded _ a.tmps 2 == some true) = true; unfold yielded; simp [h75]) (fun K' hK => ?_)
        go_simp
        exact hK.out _ _ rfl (Below.refl _ _)
      | 9, ho, hF =>
        obtain rfl := Option.some.inj ho
        obtain ⟨v81, h81, s81⟩ := hF.dep 8 81 rfl rfl
        obtain rfl : v81 = .pointer (some ⟨pb, 1, none⟩) := s81
        obtain ⟨v75, h75, s75⟩ := hF.dep 2 75 rfl rfl
        obtain rfl : v75 = .bool true := s75
        have gx := (HU.out u hbu).2.2.1
        refine free_step rfl (by show (yielded _ a.tmps 2 == some true) = true; unfold yielded; simp [h75]) (fun K' hK => ?_)
        go_simp
        exact hK.out _ _ rfl (Below.refl _ _)
      | 10, ho, hF =>
        obtain rfl := Option.some.inj ho
        have h1 : a.tmps[1]? = some (.int .i64 (rn : Int)) := (hF.out 1 rfl).trans rfl
        obtain ⟨v75, h75, s75⟩ := hF.dep 2 75 rfl rfl
        obtain rfl : v75 = .bool true := s75
        refine free_step rfl (by show (yielded _ a.tmps 2 == some true) = true; unfold yielded; simp [h75]) (fun K' hK => ?_)
        go_simp
        exact hK.out _ _ rfl (Below.refl _ _)
      | 11, ho, hF =>
        obtain rfl := Option.some.inj ho
        have h2 : a.tmps[2]? = some (.int .i64 (zn : Int)) := (hF.out 2 rfl).trans rfl
        obtain ⟨v75, h75, s75⟩ := hF.dep 2 75 rfl rfl
        obtain rfl : v75 = .bool true := s75
        refine free_step rfl (by show (yielded _ a.tmps 2 == some true) = true; unfold yielded; simp [h75]) (fun K' hK => ?_)
        go_simp
        exact hK.out _ _ rfl (Below.refl _ _)
      | 12, ho, hF =>
        obtain rfl := Option.some.inj ho
        obtain ⟨v78, h78, s78⟩ := hF.dep 5 78 rfl rfl
        replace s78 : ∃ au cu av cv, v78 = .agg #[.slice au 8 cu, .slice av 64 cv] ∧ IsN .u32 u (.slice au 8 cu) beginS.l ∧ IsN .u32 u (.slice av 64 cv) roundK := s78
        obtain ⟨v80, h80, s80⟩ := hF.dep 7 80 rfl rfl
        obtain rfl : v80 = .slice x k.size cx := s80
        obtain ⟨v82, h82, s82⟩ := hF.dep 9 82 rfl rfl
        obtain rfl : v82 = .slice y t.size cy := s82
        obtain ⟨v83, h83, s83⟩ := hF.dep 10 83 rfl rfl
        obtain rfl : v83 = .int .i64 (rn : Int) := s83
        obtain ⟨v84, h84, s84⟩ := hF.dep 11 84 rfl rfl
        obtain rfl : v84 = .int .i64 (zn : Int) := s84
        obtain ⟨v75, h75, s75⟩ := hF.dep 2 75 rfl rfl
        obtain rfl : v75 = .bool true := s75
        refine free_step rfl (by show (yielded _ a.tmps 2 == some true) = true; unfold yielded; simp [h75]) (fun K' hK => ?_)
        obtain ⟨au, cu, av, cv, rfl, hp, hq⟩ := s78
        go_wp2_with fail
        refine (HRef.out u au cu av cv (HU.out u hbu).1 hp hq).mono ?_
        rintro e u' ⟨⟨vv, rfl, hI⟩, hb⟩
        go_simp
        exact hK.out _ _ hI hb
      | 13, ho, hF =>
        obtain rfl := Option.some.inj ho
        obtain ⟨v85, h85, s85⟩ := hF.dep 12 85 rfl rfl
        replace s85 : IsBytes u v85 SH := s85
        obtain ⟨v75, h75, s75⟩ := hF.dep 2 75 rfl rfl
        obtain rfl : v75 = .bool true := s75
        have hcv := IsBytes.convert s85
        refine free_step rfl (by show (yielded _ a.tmps 2 == some true) = true; unfold yielded; simp [h75]) (fun K' hK => ?_)
        go_simp
        exact hK.out _ _ rfl (Below.refl _ _)
      | 14, ho, hF =>
        obtain rfl := Option.some.inj ho
        obtain ⟨v77, h77, s77⟩ := hF.dep 4 77 rfl rfl
        obtain rfl : v77 = .string SH := s77
        obtain ⟨v86, h86, s86⟩ := hF.dep 13 86 rfl rfl
        obtain rfl : v86 = .string SH := s86
        obtain ⟨v75, h75, s75⟩ := hF.dep 2 75 rfl rfl
        obtain rfl : v75 = .bool true := s75
        refine free_step rfl (by show (yielded _ a.tmps 2 == some true) = true; unfold yielded; simp [h75]) (fun K' hK => ?_)
        go_simp
        exact hK.out _ _ rfl (Below.refl _ _)
      | 15, ho, hF =>
        obtain rfl := Option.some.inj ho
        obtain ⟨v75, h75, s75⟩ := hF.dep 2 75 rfl rfl
        obtain rfl : v75 = .bool true := s75
        obtain ⟨v87, h87, s87⟩ := hF.dep 14 87 rfl rfl
        obtain rfl : v87 = .bool true := s87
        refine free_step rfl (by rfl) (fun K' hK => ?_)
        go_simp
        exact hK.out _ _ rfl (Below.refl _ _)
      | 16, ho, hF =>
        obtain rfl := Option.some.inj ho
        obtain ⟨v88, h88, s88⟩ := hF.dep 15 88 rfl rfl
        obtain rfl : v88 = .bool true := s88
        refine free_step rfl (by rfl) (fun K' hK => ?_)
        go_simp
        exact hK.out _ _ rfl (Below.refl _ _)
      | n + 17, ho, _ => exact absurd (Array.getElem?_eq_some_iff.1 ho).1 (by show ¬ n + 17 < 17; omega)
    · intro vs u hS hbu
      have e16 : vs 16 = .bool true := hS 16 6 rfl
      simp only [putFrom, Act.put, List.setIfInBounds_toArray, List.set_cons_succ, List.set_cons_zero, Nat.reduceAdd]
      rw [e16]
      clear hS e16
      generalize vs 0 = z0
      generalize vs 1 = z1
      generalize vs 2 = z2
      generalize vs 3 = z3
      generalize vs 4 = z4
      generalize vs 5 = z5
      generalize vs 6 = z6
      generalize vs 7 = z7
      generalize vs 8 = z8
      generalize vs 9 = z9
      generalize vs 10 = z10
      generalize vs 11 = z11
      generalize vs 12 = z12
      generalize vs 13 = z13
      generalize vs 14 = z14
      generalize vs 15 = z15
      go_wp2_with fail
      go_ret
      exact ⟨rfl, HBW.out.trans (hbu.mono HBW.out.size)⟩
end Go.Proofs.YtgehgcnaoapbbaaDoor
