/-
  The program's digitWorth of layer 2: the worth of a digit, at every code point.
-/
import Derived.Test.YtnkefpopkaagaaaDoorGen2
import Derived.Test.YtnkefpopkaagaaaDoorBPlain
namespace Go.Proofs.YtnkefpopkaagaaaDoor
open Go.RowKit Ch
set_option maxRecDepth 100000

theorem ret_i64 {a b : Int} (h : a = b) : Ending.returned (.int .i64 a) = .returned (.int .i64 b) := by rw [h]

set_option maxHeartbeats 400000 in
theorem digitW_any (c : Nat) (w : World) (hc : c ≤ 1114111) :
    Calls Tryd.prog 45 #[.int .i32 (c : Int)] w fun e w' => e = .returned (.int .i64 (digitZ c)) ∧ w' = w := by
  have fin : ∀ {z : Int}, Hid (z = digitZ c) → Ending.returned (.int .i64 z) = .returned (.int .i64 (digitZ c)) := fun h => ret_i64 h.out
  by_cases h1 : 48 ≤ c
  · by_cases h2 : c ≤ 57
    · have hq : Hid ((c : Int) - 48 = digitZ c) := by unfold Hid digitZ; rw [if_pos ⟨h1, h2⟩]
      go_enter Tryd.func45, Tryd.ntmps45
      go_wp2
      go_ret
      exact ⟨fin hq, rfl⟩
    · by_cases h3 : 97 ≤ c
      · by_cases h4 : c ≤ 102
        · have hq : Hid ((c : Int) - 97 + 10 = digitZ c) := by unfold Hid digitZ; rw [if_neg (by omega), if_pos ⟨h3, h4⟩]; omega
          go_enter Tryd.func45, Tryd.ntmps45
          go_wp2
          go_ret
          exact ⟨fin hq, rfl⟩
        · have hq : Hid (-1 = digitZ c) := by unfold Hid digitZ; rw [if_neg (by omega), if_neg (by omega), if_neg (by omega)]
          go_enter Tryd.func45, Tryd.ntmps45
          go_wp2
          go_ret
          exact ⟨fin hq, rfl⟩
      · by_cases h5 : 65 ≤ c
        · by_cases h6 : c ≤ 70
          · have hq : Hid ((c : Int) - 65 + 10 = digitZ c) := by unfold Hid digitZ; rw [if_neg (by omega), if_neg (by omega), if_pos ⟨h5, h6⟩]; omega
            go_enter Tryd.func45, Tryd.ntmps45
            go_wp2
            go_ret
            exact ⟨fin hq, rfl⟩
          · have hq : Hid (-1 = digitZ c) := by unfold Hid digitZ; rw [if_neg (by omega), if_neg (by omega), if_neg (by omega)]
            go_enter Tryd.func45, Tryd.ntmps45
            go_wp2
            go_ret
            exact ⟨fin hq, rfl⟩
        · have hq : Hid (-1 = digitZ c) := by unfold Hid digitZ; rw [if_neg (by omega), if_neg (by omega), if_neg (by omega)]
          go_enter Tryd.func45, Tryd.ntmps45
          go_wp2
          go_ret
          exact ⟨fin hq, rfl⟩
  · have hq : Hid (-1 = digitZ c) := by unfold Hid digitZ; rw [if_neg (by omega), if_neg (by omega), if_neg (by omega)]
    go_enter Tryd.func45, Tryd.ntmps45
    go_wp2
    go_ret
    exact ⟨fin hq, rfl⟩
end Go.Proofs.YtnkefpopkaagaaaDoor
