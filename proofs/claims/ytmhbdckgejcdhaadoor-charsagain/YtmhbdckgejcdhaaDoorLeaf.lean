/-
  THE SMALL FUNCTIONS: blank, allowed, broken, and the document's Blank and Char: what each answers, for every number.
-/
import Derived.Test.YtmhbdckgejcdhaaDoorRows
import Derived.Test.YtmhbdckgejcdhaaDoorPlain
import Derived.Test.YtmhbdckgejcdhaaDoorShelf
import Derived.WalkKit
import Derived.WalkSpells
import Derived.WalkLawsBesides
namespace Go.Proofs.YtmhbdckgejcdhaaDoor
open Go.RowKit Ch

theorem ret_bool {a b : Bool} (h : a = b) : Ending.returned (.bool a) = .returned (.bool b) := by rw [h]

set_option maxHeartbeats 400000 in
theorem cBlank_any (r : Int) (w : World) :
    Calls Tryd.prog 31 #[.int .i32 r] w fun e w' => e = .returned (.bool (blankB r)) ∧ w' = w := by
  by_cases h1 : r = 32
  · subst h1
    go_enter Tryd.func31, Tryd.ntmps31
    go_wp2
    go_ret
    exact ⟨rfl, rfl⟩
  by_cases h2 : r = 9
  · subst h2
    go_enter Tryd.func31, Tryd.ntmps31
    go_wp2
    go_ret
    exact ⟨rfl, rfl⟩
  by_cases h3 : r = 10
  · subst h3
    go_enter Tryd.func31, Tryd.ntmps31
    go_wp2
    go_ret
    exact ⟨rfl, rfl⟩
  by_cases h4 : r = 13
  · subst h4
    go_enter Tryd.func31, Tryd.ntmps31
    go_wp2
    go_ret
    exact ⟨rfl, rfl⟩
  have e1 : (r == 32) = false := beq_eq_false_iff_ne.2 h1
  have e2 : (r == 9) = false := beq_eq_false_iff_ne.2 h2
  have e3 : (r == 10) = false := beq_eq_false_iff_ne.2 h3
  have e4 : (r == 13) = false := beq_eq_false_iff_ne.2 h4
  have hf : Hid (blankB r = false) := decide_eq_false (by omega)
  go_enter Tryd.func31, Tryd.ntmps31
  go_wp2
  go_ret
  exact ⟨ret_bool hf.out.symm, rfl⟩

set_option maxHeartbeats 400000 in
theorem rBlank_any (r : Int) (w : World) :
    Calls Tryd.prog 32 #[.int .u8 r] w fun e w' => e = .returned (.bool (blankB r)) ∧ w' = w := by
  by_cases h1 : r = 32
  · subst h1
    go_enter Tryd.func32, Tryd.ntmps32
    go_wp2
    go_ret
    exact ⟨rfl, rfl⟩
  by_cases h2 : r = 9
  · subst h2
    go_enter Tryd.func32, Tryd.ntmps32
    go_wp2
    go_ret
    exact ⟨rfl, rfl⟩
  by_cases h3 : r = 10
  · subst h3
    go_enter Tryd.func32, Tryd.ntmps32
    go_wp2
    go_ret
    exact ⟨rfl, rfl⟩
  by_cases h4 : r = 13
  · subst h4
    go_enter Tryd.func32, Tryd.ntmps32
    go_wp2
    go_ret
    exact ⟨rfl, rfl⟩
  have e1 : (r == 32) = false := beq_eq_false_iff_ne.2 h1
  have e2 : (r == 9) = false := beq_eq_false_iff_ne.2 h2
  have e3 : (r == 10) = false := beq_eq_false_iff_ne.2 h3
  have e4 : (r == 13) = false := beq_eq_false_iff_ne.2 h4
  have hf : Hid (blankB r = false) := decide_eq_false (by omega)
  go_enter Tryd.func32, Tryd.ntmps32
  go_wp2
  go_ret
  exact ⟨ret_bool hf.out.symm, rfl⟩

set_option maxHeartbeats 400000 in
theorem cAllowed_any (r : Int) (w : World) :
    Calls Tryd.prog 22 #[.int .i32 r] w fun e w' => e = .returned (.bool (charB r)) ∧ w' = w := by
  by_cases h1 : r < 32
  · have hf : Hid (blankB r = charB r) := by
      unfold blankB charB Hid; congr 1; apply propext; omega
    go_enter Tryd.func22, Tryd.ntmps22
    go_wp2_with (go_at_call 31; refine (cBlank_any _ _).mono ?_; rintro e w' ⟨rfl, rfl⟩)
    go_ret
    exact ⟨ret_bool hf.out, rfl⟩
  have h1' : 32 ≤ r := by omega
  clear h1
  by_cases h2 : r ≤ 55295
  · have hf : Hid (true = charB r) := (decide_eq_true (by omega)).symm
    go_enter Tryd.func22, Tryd.ntmps22
    go_wp2
    go_ret
    exact ⟨ret_bool hf.out, rfl⟩
  by_cases h3 : 57344 ≤ r
  · by_cases h4 : r ≤ 65533
    · have hf : Hid (true = charB r) := (decide_eq_true (by omega)).symm
      go_enter Tryd.func22, Tryd.ntmps22
      go_wp2
      go_ret
      exact ⟨ret_bool hf.out, rfl⟩
    by_cases h5 : 65536 ≤ r
    · by_cases h6 : r ≤ 1114111
      · have hf : Hid (true = charB r) := (decide_eq_true (by omega)).symm
        go_enter Tryd.func22, Tryd.ntmps22
        go_wp2
        go_ret
        exact ⟨ret_bool hf.out, rfl⟩
      · have hf : Hid (false = charB r) := (decide_eq_false (by omega)).symm
        go_enter Tryd.func22, Tryd.ntmps22
        go_wp2
        go_ret
        exact ⟨ret_bool hf.out, rfl⟩
    · have hf : Hid (false = charB r) := (decide_eq_false (by omega)).symm
      go_enter Tryd.func22, Tryd.ntmps22
      go_wp2
      go_ret
      exact ⟨ret_bool hf.out, rfl⟩
  · have hf : Hid (false = charB r) := (decide_eq_false (by omega)).symm
    go_enter Tryd.func22, Tryd.ntmps22
    go_wp2
    go_ret
    exact ⟨ret_bool hf.out, rfl⟩
end Go.Proofs.YtmhbdckgejcdhaaDoor
