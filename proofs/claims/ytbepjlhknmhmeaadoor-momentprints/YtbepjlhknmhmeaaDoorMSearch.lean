/-
  Package moment: dateOf, its search.
-/
import Derived.Test.YtbepjlhknmhmeaaDoorMDayN
import Derived.Test.YtbepjlhknmhmeaaDoorHFree
import Derived.Test.YtbepjlhknmhmeaaDoorHGen
import Derived.Shelf.GgClosure.Gives
namespace Go.Proofs.YtbepjlhknmhmeaaDoor
open Go.RowKit Ch
set_option maxRecDepth 100000

def semDF (n i : Nat) : Nat → Value → World → Prop := fun ix v _ => match ix with
  | 0 => v = .int .i64 (n : Int)
  | 1 => v = .int .i64 (i : Int)
  | 2 => v = .int .i64 ((i + 2 : Nat) : Int)
  | 3 => v = .int .i64 (aheadY (i + 2) : Int)
  | 4 => v = .bool (decide (n < aheadY (i + 2)))
  | 5 => v = .bool (decide (n < aheadY (i + 2)))
  | _ => True
set_option maxHeartbeats 2000000 in
theorem mDateOfF_any (n i b : Nat) (w : World) (hi : i ≤ 9998) (hb : b < w.heap.size) (hc : w.cell? ⟨b, 0, none⟩ = some (.int .i64 (n : Int))) :
    Calls Tryd.prog 38 #[.int .i64 (i : Int), .pointer (some ⟨b, 0, none⟩)] w fun e w' => e = .returned (.bool (decide (n < aheadY (i + 2)))) ∧ Below w.heap.size w w' := by
  have HU := show Hid (∀ u, Below w.drew.heap.size w.drew u → u.cell? ⟨b, 0, none⟩ = some (.int .i64 (n : Int))) from fun u hu => (World.cell?_of_block (hu.block b hb)).trans hc
  have HA := show Hid (∀ u, Calls Tryd.prog 32 #[.int .i64 ((i + 2 : Nat) : Int)] u fun e w' => e = .returned (.int .i64 (aheadY (i + 2) : Int)) ∧ w' = u) from fun u => mAhead_any (i + 2) u (by omega) (by omega)
  have HW := show Hid (IntKind.i64.wrap ((i : Int) + 2) = ((i + 2 : Nat) : Int)) from by show IntKind.i64.wrap ((i : Int) + 2) = ((i + 2 : Nat) : Int); rw [IntKind.wrap_i64]; omega
  have HD := show Hid (decide ((n : Int) < (aheadY (i + 2) : Int)) = decide (n < aheadY (i + 2))) from by show decide ((n : Int) < (aheadY (i + 2) : Int)) = decide (n < aheadY (i + 2)); simp only [Int.ofNat_lt]
  clear hc
  go_enter Tryd.func38, Tryd.ntmps38
  go_wp2_with fail
  · skip
    refine free_walk (Sem := semDF n i) rfl (n := 9) (by kernel_rfl) rfl (by kernel_rfl) ?_ ?_ ?_
    · intro ix v u u' h hb
      match ix, h with
      | 0, h => exact h
      | 1, h => exact h
      | 2, h => exact h
      | 3, h => exact h
      | 4, h => exact h
      | 5, h => exact h
      | _ + 6, _ => exact trivial
    · intro ix o a u ho hF hbu
      match ix, ho, hF with
      | 0, ho, hF =>
        obtain rfl := Option.some.inj ho
        have h1 : a.tmps[1]? = some (.pointer (some ⟨b, 0, none⟩)) := (hF.out 1 rfl).trans rfl
        have g0 := HU.out u hbu
        refine free_step rfl (by rfl) (fun K' hK => ?_)
        go_simp
        exact hK.out _ _ rfl (Below.refl _ _)
      | 1, ho, hF =>
        obtain rfl := Option.some.inj ho
        have h0 : a.tmps[0]? = some (.int .i64 (i : Int)) := (hF.out 0 rfl).trans rfl
        refine free_step rfl (by rfl) (fun K' hK => ?_)
        go_simp
        exact hK.out _ _ rfl (Below.refl _ _)
      | 2, ho, hF =>
        obtain rfl := Option.some.inj ho
        obtain ⟨v5, h5, s5⟩ := hF.dep 1 5 rfl rfl
        obtain rfl : v5 = .int .i64 (i : Int) := s5
        have w2 := HW.out
        refine free_step rfl (by rfl) (fun K' hK => ?_)
        go_simp
        exact hK.out _ _ rfl (Below.refl _ _)
      | 3, ho, hF =>
        obtain rfl := Option.some.inj ho
        obtain ⟨v6, h6, s6⟩ := hF.dep 2 6 rfl rfl
        obtain rfl : v6 = .int .i64 ((i + 2 : Nat) : Int) := s6
        have hc := HA.out u
        refine free_step rfl (by rfl) (fun K' hK => ?_)
        go_wp2_with fail
        refine hc.mono ?_
        rintro e u' ⟨rfl, rfl⟩
        go_simp
        exact hK.out _ _ rfl (Below.refl _ _)
      | 4, ho, hF =>
        obtain rfl := Option.some.inj ho
        obtain ⟨v4, h4, s4⟩ := hF.dep 0 4 rfl rfl
        obtain rfl : v4 = .int .i64 (n : Int) := s4
        obtain ⟨v7, h7, s7⟩ := hF.dep 3 7 rfl rfl
        obtain rfl : v7 = .int .i64 (aheadY (i + 2) : Int) := s7
        have w4 := HD.out
        refine free_step rfl (by rfl) (fun K' hK => ?_)
        go_simp
        exact hK.out _ _ rfl (Below.refl _ _)
      | 5, ho, hF =>
        obtain rfl := Option.some.inj ho
        obtain ⟨v8, h8, s8⟩ := hF.dep 4 8 rfl rfl
        obtain rfl : v8 = .bool (decide (n < aheadY (i + 2))) := s8
        refine free_step rfl (by rfl) (fun K' hK => ?_)
        go_simp
        exact hK.out _ _ rfl (Below.refl _ _)
      | n + 6, ho, _ => exact absurd (Array.getElem?_eq_some_iff.1 ho).1 (by show ¬ n + 6 < 6; omega)
    · intro vs u hS hbu
      have e5 : vs 5 = (.bool (decide (n < aheadY (i + 2)))) := hS 5 3 rfl
      simp only [putFrom, Act.put, List.setIfInBounds_toArray, List.set_cons_succ, List.set_cons_zero, Nat.reduceAdd]
      rw [e5]
      clear hS e5
      generalize vs 0 = z0
      generalize vs 1 = z1
      generalize vs 2 = z2
      generalize vs 3 = z3
      generalize vs 4 = z4
      clear HU HA
      go_wp2_with fail
      go_ret
      exact ⟨rfl, bl2 (Below.refl _ w).drew hbu⟩

set_option maxHeartbeats 4000000 in
/-- sort.Search among the years, over whatever tells them apart. -/
theorem sSearch_any (g b y : Nat) (p : Nat → Bool) (w : World) (eg : ∀ args w, (callFunc g args).run Tryd.prog w = .ok (.enter g args) w) (hy : y < 9999)
    (hf : ∀ (u : World) (i : Nat), Below w.heap.size w u → i < 9999 → Calls Tryd.prog g #[.int .i64 (i : Int), .pointer (some ⟨b, 0, none⟩)] u fun e w' => e = .returned (.bool (p i)) ∧ Below u.heap.size u w')
    (hlow : ∀ i, i < y → p i = false) (hhigh : ∀ i, y ≤ i → i < 9999 → p i = true) :
    Calls Tryd.prog 37 #[.int .i64 9999, .func (.func g) #[] #[.pointer (some ⟨b, 0, none⟩)]] w fun e w' => e = .returned (.int .i64 (y : Int)) ∧ Below w.heap.size w w' := by
  have HF := show Hid (∀ (u : World) (i : Nat), Below w.heap.size w u → i < 9999 → Calls Tryd.prog g #[.int .i64 (i : Int), .pointer (some ⟨b, 0, none⟩)] u fun e w' => e = .returned (.bool (p i)) ∧ Below u.heap.size u w') from hf
  have HP := show Hid ((∀ i, i < y → p i = false) ∧ (∀ i, y ≤ i → i < 9999 → p i = true)) from ⟨hlow, hhigh⟩
  clear hf hlow hhigh
  go_enter Tryd.func37, Tryd.ntmps37
  go_wp2_with fail
  go_loopw [5, 6] (fun s t wr => ∃ lo hi : Nat, s = .int .i64 (lo : Int) ∧ t = .int .i64 (hi : Int) ∧ lo ≤ y ∧ y ≤ hi ∧ hi ≤ 9999 ∧ Hid (Below w.heap.size w wr)) (fun s t _ => (intOf t).toNat - (intOf s).toNat)
  case atStart => exact ⟨0, 9999, rfl, rfl, Nat.zero_le _, by omega, Nat.le_refl _, Below.refl _ _⟩
  case round =>
    obtain ⟨lo, hi, rfl, rfl, hl, hh, h9, hb⟩ := hrel
    by_cases hlt : lo < hi
    · have hc := HF.out wr ((lo + hi) / 2) hb.out (by omega)
      obtain ⟨k, hk⟩ : ∃ k, (lo + hi) / 2 = k := ⟨_, rfl⟩
      have hkI : ((lo : Int) + (hi : Int)) / 2 = (k : Int) := by omega
      rw [hk] at hc
      by_cases hp : k < y
      · rw [HP.out.1 k hp] at hc
        go_wp2_with (go_at_fn g; go_must (refine hc.mono ?_; rintro e w3 ⟨rfl, b3⟩))
        go_roundw
        case rel => exact ⟨k + 1, hi, by first | rfl | go_num, rfl, by omega, hh, h9, bl2 hb.out b3⟩
        case measure => simp [intOf]; omega
      · rw [HP.out.2 k (by omega) (by omega)] at hc
        go_wp2_with (go_at_fn g; go_must (refine hc.mono ?_; rintro e w3 ⟨rfl, b3⟩))
        go_roundw
        case rel => exact ⟨lo, k, rfl, by first | rfl | go_num, hl, by omega, by omega, bl2 hb.out b3⟩
        case measure => simp [intOf]; omega
    · obtain rfl : lo = y := by omega
      go_wp2_with fail
      go_ret
      exact ⟨rfl, hb.out⟩
end Go.Proofs.YtbepjlhknmhmeaaDoor
