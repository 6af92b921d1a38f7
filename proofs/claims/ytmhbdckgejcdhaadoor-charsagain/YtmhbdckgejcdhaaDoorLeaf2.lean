/-
  THE SMALL FUNCTIONS, MORE: the document's Char; broken.
-/
import Derived.Test.YtmhbdckgejcdhaaDoorLeaf
import Derived.Test.YtmhbdckgejcdhaaDoorPlain2
namespace Go.Proofs.YtmhbdckgejcdhaaDoor
open Go.RowKit Ch

set_option maxHeartbeats 400000 in
theorem rChar_any (r : Int) (w : World) :
    Calls Tryd.prog 25 #[.int .i64 r] w fun e w' => e = .returned (.bool (charB r)) ∧ w' = w := by
  by_cases h9 : r = 9
  · subst h9
    have hf : Hid (true = charB 9) := rfl
    go_enter Tryd.func25, Tryd.ntmps25
    go_wp2
    go_ret
    exact ⟨ret_bool hf.out, rfl⟩
  by_cases h10 : r = 10
  · subst h10
    have hf : Hid (true = charB 10) := rfl
    go_enter Tryd.func25, Tryd.ntmps25
    go_wp2
    go_ret
    exact ⟨ret_bool hf.out, rfl⟩
  by_cases h13 : r = 13
  · subst h13
    have hf : Hid (true = charB 13) := rfl
    go_enter Tryd.func25, Tryd.ntmps25
    go_wp2
    go_ret
    exact ⟨ret_bool hf.out, rfl⟩
  have e9 : (r == 9) = false := beq_eq_false_iff_ne.2 h9
  have e10 : (r == 10) = false := beq_eq_false_iff_ne.2 h10
  have e13 : (r == 13) = false := beq_eq_false_iff_ne.2 h13
  by_cases h1 : r < 32
  · have hf : Hid (false = charB r) := (decide_eq_false (by omega)).symm
    go_enter Tryd.func25, Tryd.ntmps25
    go_wp2
    go_ret
    exact ⟨ret_bool hf.out, rfl⟩
  by_cases h2 : r ≤ 55295
  · have hf : Hid (true = charB r) := (decide_eq_true (by omega)).symm
    go_enter Tryd.func25, Tryd.ntmps25
    go_wp2
    go_ret
    exact ⟨ret_bool hf.out, rfl⟩
  by_cases h3 : r < 57344
  · have hf : Hid (false = charB r) := (decide_eq_false (by omega)).symm
    go_enter Tryd.func25, Tryd.ntmps25
    go_wp2
    go_ret
    exact ⟨ret_bool hf.out, rfl⟩
  by_cases h4 : r ≤ 65533
  · have hf : Hid (true = charB r) := (decide_eq_true (by omega)).symm
    go_enter Tryd.func25, Tryd.ntmps25
    go_wp2
    go_ret
    exact ⟨ret_bool hf.out, rfl⟩
  by_cases h5 : r < 65536
  · have hf : Hid (false = charB r) := (decide_eq_false (by omega)).symm
    go_enter Tryd.func25, Tryd.ntmps25
    go_wp2
    go_ret
    exact ⟨ret_bool hf.out, rfl⟩
  by_cases h6 : r ≤ 1114111
  · have hf : Hid (true = charB r) := (decide_eq_true (by omega)).symm
    go_enter Tryd.func25, Tryd.ntmps25
    go_wp2
    go_ret
    exact ⟨ret_bool hf.out, rfl⟩
  · have hf : Hid (false = charB r) := (decide_eq_false (by omega)).symm
    go_enter Tryd.func25, Tryd.ntmps25
    go_wp2
    go_ret
    exact ⟨ret_bool hf.out, rfl⟩

set_option maxHeartbeats 400000 in
theorem cBroken_any (s : ByteArray) (i : Nat) (r : Int) (w : World) (_hs : s.size ≤ maxLen) (hi : i ≤ s.size) :
    Calls Tryd.prog 23 #[.string s, .int .i64 (i : Int), .int .i32 r] w fun e w' => e = .returned (.bool (brokenB s i r)) ∧ w' = w := by
  unfold maxLen at _hs
  by_cases h1 : r = 65533
  · subst h1
    go_enter Tryd.func23, Tryd.ntmps23
    go_wp2_with (go_at_call 36; refine (Tryd.strings_HasPrefix _ _ _).mono ?_; rintro e w' ⟨rfl, rfl⟩)
    go_ret
    exact ⟨ret_bool (by rw [brokenB, List.take_of_length_le (by simp)]; simp), rfl⟩
  · have e1 : (r == 65533) = false := beq_eq_false_iff_ne.2 h1
    have hf : Hid (false = brokenB s i r) := by unfold Hid brokenB; simp [h1]
    go_enter Tryd.func23, Tryd.ntmps23
    go_wp2
    go_ret
    exact ⟨ret_bool hf.out, rfl⟩
end Go.Proofs.YtmhbdckgejcdhaaDoor
