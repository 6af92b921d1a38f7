/-
  The document's One where the code point has 3 bytes.
-/
import Derived.Test.YtmhbdckgejcdhaaDoorOne1
namespace Go.Proofs.YtmhbdckgejcdhaaDoor
open Go.RowKit Ch

set_option maxRecDepth 100000 in
theorem rOne_cut3 (b o cap m b0 : Nat) (w : World) (hm : m < 3) (hm0 : 0 < m) (c0 : w.cell? ⟨b, o, none⟩ = some (.int .u8 (b0 : Int))) (a1 : 224 ≤ b0) (a2 : b0 < 240) :
    Calls Tryd.prog 24 #[.slice (some ⟨b, o, none⟩) m cap] w fun e w' => e = .returned (.tuple #[.int .i64 0, .int .i64 0]) ∧ w' = w := by
  have hne : ((m : Int) == 0) = false := beq_eq_false_iff_ne.2 (by omega)
  go_enter Tryd.func24, Tryd.ntmps24
  go_wp2
  go_ret2
  exact ⟨rfl, rfl⟩
def rel3 (b0 b1 b2 : Nat) (k : Nat) (c : Int) : Prop := (k = 1 ∧ c = ((b0 : Int) - 224)) ∨ (k = 2 ∧ (128 ≤ b1 ∧ b1 ≤ 191) ∧ c = (((b0 : Int) - 224) * 64 + b1 - 128)) ∨ (k = 3 ∧ (128 ≤ b1 ∧ b1 ≤ 191) ∧ (128 ≤ b2 ∧ b2 ≤ 191) ∧ c = ((((b0 : Int) - 224) * 64 + b1 - 128) * 64 + b2 - 128))
def oneOf3 (b0 b1 b2 : Nat) : Nat × Nat := if (128 ≤ b1 ∧ b1 ≤ 191) ∧ (128 ≤ b2 ∧ b2 ≤ 191) then fit 2048 (((b0 - 224) * 64 + b1 - 128) * 64 + b2 - 128) 3 else (0, 0)
set_option maxHeartbeats 1000000 in
set_option maxRecDepth 100000 in
theorem rOne_3 (b o cap m b0 b1 b2 : Nat) (w : World) (hm : m ≤ 1000000) (hm0 : 3 ≤ m) (c0 : w.cell? ⟨b, o, none⟩ = some (.int .u8 (b0 : Int))) (c1 : w.cell? ⟨b, o + 1, none⟩ = some (.int .u8 (b1 : Int))) (c2 : w.cell? ⟨b, o + 2, none⟩ = some (.int .u8 (b2 : Int))) (l1 : b1 < 256) (l2 : b2 < 256) (a1 : 224 ≤ b0) (a2 : b0 < 240) :
    Calls Tryd.prog 24 #[.slice (some ⟨b, o, none⟩) m cap] w fun e w' => e = .returned (.tuple #[.int .i64 ((oneOf3 b0 b1 b2).1 : Int), .int .i64 ((oneOf3 b0 b1 b2).2 : Int)]) ∧ w' = w := by
  have hne : ((m : Int) == 0) = false := beq_eq_false_iff_ne.2 (by omega)
  have hm2 : decide ((m : Int) < 3) = false := decide_eq_false (by omega)
  have hg1 : decide ((192 : Int) ≤ (b0 : Int)) = true := decide_eq_true (by omega)
  go_enter Tryd.func24, Tryd.ntmps24
  go_wp2
  go_loop [5, 7] (fun c i => ∃ (k : Nat) (x : Int), i = .int .i64 k ∧ c = .int .i64 x ∧ Hid (rel3 b0 b1 b2 k x)) (fun _ i => 3 - (intOf i).toNat)
  case atStart => exact ⟨1, (b0 : Int) - 224, rfl, rfl, .inl ⟨rfl, rfl⟩⟩
  case round =>
    obtain ⟨k, x, rfl, rfl, hr⟩ := hrel
    have hr' := hr.out
    unfold rel3 at hr'
    clear hr
    rcases hr' with ⟨rfl, hx⟩ | ⟨rfl, q1, hx⟩ | ⟨rfl, q1, q2, hx⟩
    · by_cases y1 : b1 < 128
      · have hf : Hid (oneOf3 b0 b1 b2 = (0, 0)) := by unfold Hid oneOf3; rw [if_neg (by omega)]
        clear hx
        go_wp2
        go_ret2
        rw [hf.out]
        exact ⟨rfl, rfl⟩
      by_cases y2 : 191 < b1
      · have hf : Hid (oneOf3 b0 b1 b2 = (0, 0)) := by unfold Hid oneOf3; rw [if_neg (by omega)]
        clear hx
        go_wp2
        go_ret2
        rw [hf.out]
        exact ⟨rfl, rfl⟩
      · have hnx : Hid (rel3 b0 b1 b2 2 (x * 64 + b1 - 128)) := by unfold Hid rel3; subst hx; exact .inr (.inl ⟨rfl, ⟨by omega, by omega⟩, rfl⟩)
        have x0 : 0 ≤ x := by omega
        have x1 : x ≤ 10000000 := by omega
        clear hx
        go_wp2
        go_round
        case rel => first | exact ⟨2, _, by go_num, rfl, hnx⟩ | ((repeat apply Exists.intro); exact ⟨⟨2, rfl, x * 64 + (b1 : Int) - 128, rfl, hnx⟩, rfl, rfl, rfl, rfl⟩)
        case measure => simp [intOf]
    · by_cases y1 : b2 < 128
      · have hf : Hid (oneOf3 b0 b1 b2 = (0, 0)) := by unfold Hid oneOf3; rw [if_neg (by omega)]
        clear hx
        go_wp2
        go_ret2
        rw [hf.out]
        exact ⟨rfl, rfl⟩
      by_cases y2 : 191 < b2
      · have hf : Hid (oneOf3 b0 b1 b2 = (0, 0)) := by unfold Hid oneOf3; rw [if_neg (by omega)]
        clear hx
        go_wp2
        go_ret2
        rw [hf.out]
        exact ⟨rfl, rfl⟩
      · have hnx : Hid (rel3 b0 b1 b2 3 (x * 64 + b2 - 128)) := by unfold Hid rel3; subst hx; exact .inr (.inr (⟨rfl, q1, ⟨by omega, by omega⟩, rfl⟩))
        have x0 : 0 ≤ x := by omega
        have x1 : x ≤ 10000000 := by omega
        clear hx
        go_wp2
        go_round
        case rel => first | exact ⟨3, _, by go_num, rfl, hnx⟩ | ((repeat apply Exists.intro); exact ⟨⟨3, rfl, x * 64 + (b2 : Int) - 128, rfl, hnx⟩, rfl, rfl, rfl, rfl⟩)
        case measure => simp [intOf]
    · have hv : oneOf3 b0 b1 b2 = fit 2048 (((b0 - 224) * 64 + b1 - 128) * 64 + b2 - 128) 3 := by unfold oneOf3; rw [if_pos (by omega)]
      have e : x = (((((b0 - 224) * 64 + b1 - 128) * 64 + b2 - 128) : Nat) : Int) := by omega
      clear hx
      obtain ⟨y, hy⟩ : ∃ y, (((b0 - 224) * 64 + b1 - 128) * 64 + b2 - 128) = y := ⟨_, rfl⟩
      rw [hy] at hv e
      clear hy q1 q2
      subst e
      by_cases z1 : y < 2048
      · have hf : Hid (oneOf3 b0 b1 b2 = (0, 0)) := hv.trans (fit_none (by omega))
        clear hv
        go_wp2
        go_ret2
        rw [hf.out]
        exact ⟨rfl, rfl⟩
      by_cases z2 : 55296 ≤ y
      · by_cases z3 : y ≤ 57343
        · have hf : Hid (oneOf3 b0 b1 b2 = (0, 0)) := hv.trans (fit_none (by omega))
          clear hv
          go_wp2
          go_ret2
          rw [hf.out]
          exact ⟨rfl, rfl⟩
        by_cases z4 : 1114111 < y
        · have hf : Hid (oneOf3 b0 b1 b2 = (0, 0)) := hv.trans (fit_none (by omega))
          clear hv
          go_wp2
          go_ret2
          rw [hf.out]
          exact ⟨rfl, rfl⟩
        · have hf : Hid (oneOf3 b0 b1 b2 = (y, 3)) := hv.trans (fit_some (by omega))
          clear hv
          go_wp2
          go_ret2
          rw [hf.out]
          exact ⟨rfl, rfl⟩
      · have hf : Hid (oneOf3 b0 b1 b2 = (y, 3)) := hv.trans (fit_some (by omega))
        clear hv
        go_wp2
        go_ret2
        rw [hf.out]
        exact ⟨rfl, rfl⟩
end Go.Proofs.YtmhbdckgejcdhaaDoor
