/-
  The program's steps and fixed codes.
-/
import Derived.Test.YtbhnlomppobbkaaHW2
import Derived.Test.YtbhnlomppobbkaaHStep
import Derived.Outline
namespace Go.Proofs.Ytbhnlomppobbkaa
open Go.RowKit Ch
set_option maxRecDepth 100000

theorem ret2_ints {a b c d : Int} (h1 : a = c) (h2 : b = d) : Ending.returned (.tuple #[.int .i64 a, .int .i64 b]) = .returned (.tuple #[.int .i64 c, .int .i64 d]) := by rw [h1, h2]
set_option maxHeartbeats 2000000 in
theorem hFixedCode_any (s : Nat) (w : World) (hs : s < 288) :
    Calls Try.prog 20 #[.int .i64 (s : Int)] w fun e w' => e = .returned (.tuple #[.int .i64 ((fixC s).1 : Int), .int .i64 ((fixC s).2 : Int)]) ∧ w' = w := by
  unfold fixC
  by_cases h1 : s < 144
  · rw [if_pos h1]
    go_enter Try.func20, Try.ntmps20
    go_wp2
    go_ret2
    exact ⟨rfl, rfl⟩
  · rw [if_neg h1]
    by_cases h2 : s < 256
    · rw [if_pos h2]
      go_enter Try.func20, Try.ntmps20
      go_wp2
      go_ret2
      exact ⟨ret2_ints (a := 400 + s - 144) (b := 9) (by omega) rfl, rfl⟩
    · rw [if_neg h2]
      by_cases h3 : s < 280
      · rw [if_pos h3]
        go_enter Try.func20, Try.ntmps20
        go_wp2
        go_ret2
        exact ⟨ret2_ints (a := s - 256) (b := 7) (by omega) rfl, rfl⟩
      · rw [if_neg h3]
        go_enter Try.func20, Try.ntmps20
        go_wp2
        go_ret2
        exact ⟨ret2_ints (a := 192 + s - 280) (b := 8) (by omega) rfl, rfl⟩
set_option maxHeartbeats 2000000 in
theorem hBitsMore_any (i g : Nat) (w : World) (hi : i < 60) (hg : g = 2 ∨ g = 4) :
    Calls Try.prog 48 #[.int .i64 (i : Int), .int .i64 (g : Int)] w fun e w' => e = .returned (.tuple #[.int .i64 ((moreN i g).1 : Int), .int .i64 ((moreN i g).2 : Int)]) ∧ w' = w := by
  unfold moreN
  by_cases h1 : i < g
  · rw [if_pos h1]
    go_enter Try.func48, Try.ntmps48
    go_wp2
    go_ret2
    exact ⟨rfl, rfl⟩
  · rw [if_neg h1]
    have hw : wrap64 (((g : Int) + (i : Int) % (g : Int)) * 2 ^ (i / g - 1)) = (((g + i % g) * 2 ^ (i / g - 1) : Nat) : Int) := by
      have h2 : 2 ^ (i / g - 1) ≤ 2 ^ 29 := Nat.pow_le_pow_right (by omega) (by rcases hg with rfl | rfl <;> omega)
      have h3 : g + i % g ≤ 8 := by rcases hg with rfl | rfl <;> omega
      have h4 := Nat.mul_le_mul h3 h2
      have e : ((g : Int) + (i : Int) % (g : Int)) * 2 ^ (i / g - 1) = (((g + i % g) * 2 ^ (i / g - 1) : Nat) : Int) := by simp
      rw [e, Go.IntWalk.wrap64_in _ (by generalize (g + i % g) * 2 ^ (i / g - 1) = y at *; omega)]
    rcases hg with rfl | rfl
    · go_enter Try.func48, Try.ntmps48
      go_wp2
      go_ret2
      exact ⟨ret2_ints hw (b := (i : Int) / 2 - 1) (by omega), rfl⟩
    · go_enter Try.func48, Try.ntmps48
      go_wp2
      go_ret2
      exact ⟨ret2_ints hw (b := (i : Int) / 4 - 1) (by omega), rfl⟩
theorem more_two_fin : ∀ i : Fin 40, (moreN i.val 2).1 ≤ 2000000 ∧ (moreN i.val 4).1 ≤ 20000 ∧ (20 ≤ i.val → 1000 < (moreN i.val 2).1) ∧ (36 ≤ i.val → 1000 < (moreN i.val 4).1) := by decide +kernel
theorem more_big {i g : Nat} (hg : g = 2 ∨ g = 4) (h : 36 ≤ i) (hi : i < 40) : 1000 < (moreN i g).1 := by
  obtain ⟨_, _, h1, h2⟩ := more_two_fin ⟨i, hi⟩
  rcases hg with rfl | rfl
  · exact h1 (by show 20 ≤ i; omega)
  · exact h2 h
theorem ge_int {a b : Nat} (h : b ≤ a) : ¬ ((b : Int) > (a : Int)) := by omega
set_option maxHeartbeats 2000000 in
theorem hGreatest_any (x g : Nat) (w : World) (hx : x < 1000) (hg : g = 2 ∨ g = 4) :
    Calls Try.prog 40 #[.int .i64 (x : Int), .int .i64 (g : Int)] w fun e w' => (∃ s, IsStep x g s ∧ s < 40 ∧ e = .returned (.int .i64 (s : Int))) ∧ w' = w := by
  go_enter Try.func40, Try.ntmps40
  go_wp2_with fail
  go_loopw [4, 5] (fun _ t wr => ∃ s : Nat, s < 36 ∧ t = .int .i64 (s : Int) ∧ (moreN s g).1 ≤ x ∧ wr = w) (fun _ t _ => 40 - (intOf t).toNat)
  case atStart => exact ⟨0, by omega, rfl, by rcases hg with rfl | rfl <;> simp [moreN], rfl⟩
  case round =>
    obtain ⟨s, hs, rfl, hle, rfl⟩ := hrel
    have hM := hBitsMore_any (s + 1) g wr (by omega) hg
    obtain ⟨m, hm⟩ : ∃ m, (moreN (s + 1) g).1 = m := ⟨_, rfl⟩
    have hmb : s + 1 = 36 → 1000 < m := fun h => by rw [← hm]; exact more_big hg (by omega) (by omega)
    have HM : Hid ((moreN (s + 1) g).1 = m) := hm
    rw [hm] at hM
    clear hm
    have es : ((s + 1 : Nat) : Int) = (s : Int) + 1 := by omega
    rw [es] at hM
    by_cases hlt : x < m
    · go_wp2_with (go_at_call 48; go_must (refine hM.mono ?_; rintro e w1 ⟨rfl, rfl⟩))
      go_wp2
      go_ret
      exact ⟨⟨s, ⟨hle, by rw [HM.out]; exact hlt⟩, by omega, rfl⟩, rfl⟩
    · have hlt' : ¬ (x : Int) < (m : Int) := by omega
      go_wp2_with (go_at_call 48; go_must (refine hM.mono ?_; rintro e w1 ⟨rfl, rfl⟩))
      go_roundw
      case rel => exact ⟨s + 1, by omega, by go_num, by rw [HM.out]; omega, trivial⟩
      case measure => simp [intOf]; omega
set_option maxHeartbeats 2000000 in
theorem wRest_any (wb : Nat) (pre : List UInt8) (l : List Bool) (v : Value) (w : World) (h : Wr wb pre l v w) (x s g : Nat) (hx : x < 1000) (hs : s < 40) (hg : g = 2 ∨ g = 4) (hle : (moreN s g).1 ≤ x) (hl : (pre ++ pack l).length ≤ 800000) :
    Calls Try.prog 41 #[.pointer (some ⟨wb, 0, none⟩), .int .i64 (x : Int), .int .i64 (s : Int), .int .i64 (g : Int)] w fun e w' => e = .returned (.tuple #[]) ∧ ∃ v', Wr wb pre (l ++ numBits (x - (moreN s g).1) (moreN s g).2) v' w' ∧ Below wb w w' := by
  have hM := hBitsMore_any s g w (by omega) hg
  have hN := wNumber_any wb pre l v w h (x - (moreN s g).1) (moreN s g).2 (by omega) (by unfold moreN; split; omega; rcases hg with rfl | rfl <;> simp <;> omega) hl
  generalize (moreN s g).1 = a at *
  generalize (moreN s g).2 = b at *
  rw [show ((x - a : Nat) : Int) = (x : Int) - (a : Int) by omega] at hN
  go_enter Try.func41, Try.ntmps41
  go_wp2_with (first | (go_at_call 48; go_must (refine hM.mono ?_; rintro e w1 ⟨rfl, rfl⟩)) | (go_at_call 39; go_must (refine hN.mono ?_)))
  rintro e w1 ⟨rfl, v1, hW1, hb1⟩
  go_wp2
  go_end0
  exact ⟨rfl, v1, hW1, hb1⟩
end Go.Proofs.Ytbhnlomppobbkaa
