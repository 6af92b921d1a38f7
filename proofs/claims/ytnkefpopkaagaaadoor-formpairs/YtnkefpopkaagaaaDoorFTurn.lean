/-
  The program's Attr, Text, Page and Percent.
-/
import Derived.Test.YtnkefpopkaagaaaDoorFRew
import Derived.Test.YtnkefpopkaagaaaDoorDHex
import Derived.Test.YtnkefpopkaagaaaDoorEPlain
namespace Go.Proofs.YtnkefpopkaagaaaDoor
open Go.RowKit Ch
set_option maxRecDepth 100000

/-- What the functions tell of a byte. -/
def tell (how : Nat) (c : UInt8) : List UInt8 := if turn8 how c = [c] then [] else turn8 how c
theorem tell_instead (how : Nat) (l : List UInt8) : insteadL (tell how) l = turnL how l := by
  unfold insteadL turnL
  congr 1
  funext c
  unfold instead8 tell
  by_cases h : turn8 how c = [c]
  · rw [if_pos h, if_pos rfl, h]
  · rw [if_neg h]
    by_cases h0 : turn8 how c = []
    · exfalso
      revert h0
      unfold turn8
      repeat' split
      all_goals simp
    · rw [if_neg h0]
theorem tell_le (how : Nat) (c : UInt8) : (tell how c).length ≤ 10 := by
  unfold tell turn8
  split
  · simp
  · repeat' split
    all_goals simp
theorem tell_none {how : Nat} {c : UInt8} (h : turn8 how c = [c]) : tell how c = [] := if_pos h
theorem tell_some {how : Nat} {c : UInt8} {l : List UInt8} (h : turn8 how c = l) (h2 : l ≠ [c]) : tell how c = l := by
  unfold tell; rw [h, if_neg h2]
theorem ret_text {a b : List UInt8} (h : a = b) : Ending.returned (.string ⟨a.toArray⟩) = .returned (.string ⟨b.toArray⟩) := by rw [h]
set_option maxHeartbeats 1000000 in
theorem attrF_any (c : UInt8) (w : World) :
    Calls Tryd.prog 38 #[.int .u8 (c.toNat : Int)] w fun e w' => e = .returned (.string ⟨(tell 1 c).toArray⟩) ∧ w' = w := by
  by_cases h38 : c = 38
  · subst h38
    go_enter Tryd.func38, Tryd.ntmps38
    go_wp2
    go_ret
    exact ⟨ret_text (by decide +kernel), rfl⟩
  by_cases h60 : c = 60
  · subst h60
    go_enter Tryd.func38, Tryd.ntmps38
    go_wp2
    go_ret
    exact ⟨ret_text (by decide +kernel), rfl⟩
  by_cases h34 : c = 34
  · subst h34
    go_enter Tryd.func38, Tryd.ntmps38
    go_wp2
    go_ret
    exact ⟨ret_text (by decide +kernel), rfl⟩
  by_cases h9 : c = 9
  · subst h9
    go_enter Tryd.func38, Tryd.ntmps38
    go_wp2
    go_ret
    exact ⟨ret_text (by decide +kernel), rfl⟩
  by_cases h10 : c = 10
  · subst h10
    go_enter Tryd.func38, Tryd.ntmps38
    go_wp2
    go_ret
    exact ⟨ret_text (by decide +kernel), rfl⟩
  by_cases h13 : c = 13
  · subst h13
    go_enter Tryd.func38, Tryd.ntmps38
    go_wp2
    go_ret
    exact ⟨ret_text (by decide +kernel), rfl⟩
  have e38 : ((c.toNat : Int) == 38) = false := beq_eq_false_iff_ne.2 (fun e => h38 (UInt8.toNat_inj.1 (by show c.toNat = 38; omega)))
  have e60 : ((c.toNat : Int) == 60) = false := beq_eq_false_iff_ne.2 (fun e => h60 (UInt8.toNat_inj.1 (by show c.toNat = 60; omega)))
  have e34 : ((c.toNat : Int) == 34) = false := beq_eq_false_iff_ne.2 (fun e => h34 (UInt8.toNat_inj.1 (by show c.toNat = 34; omega)))
  have e9 : ((c.toNat : Int) == 9) = false := beq_eq_false_iff_ne.2 (fun e => h9 (UInt8.toNat_inj.1 (by show c.toNat = 9; omega)))
  have e10 : ((c.toNat : Int) == 10) = false := beq_eq_false_iff_ne.2 (fun e => h10 (UInt8.toNat_inj.1 (by show c.toNat = 10; omega)))
  have e13 : ((c.toNat : Int) == 13) = false := beq_eq_false_iff_ne.2 (fun e => h13 (UInt8.toNat_inj.1 (by show c.toNat = 13; omega)))
  have hN : Hid ([] = tell 1 c) := by
    refine (tell_none ?_).symm
    unfold turn8
    simp [h38, h60, h34, h9, h10, h13]
  clear h38 h60 h34 h9 h10 h13
  go_enter Tryd.func38, Tryd.ntmps38
  go_wp2
  go_ret
  exact ⟨ret_text hN.out, rfl⟩
theorem fAttr_any (s : ByteArray) (w : World) (hs : s.size ≤ 1000000) :
    Calls Tryd.prog 20 #[.string s] w fun e w' => e = .returned (.string ⟨(turnL 1 s.data.toList).toArray⟩) ∧ Below w.heap.size w w' := by
  go_enter Tryd.func20, Tryd.ntmps20
  go_wp2_with fail
  refine (rewritten_any 38 (enters_of Tryd.func38 (by kernel_rfl) rfl) (tell 1) (tell_le 1) s w hs (fun W c _ => (attrF_any c W).mono (fun _ _ h => ⟨h.1, by rw [h.2]; exact Below.refl _ _⟩))).mono ?_
  rintro e w1 ⟨rfl, hb⟩
  rw [tell_instead]
  go_wp2_with fail
  go_ret
  exact ⟨rfl, hb⟩

set_option maxHeartbeats 1000000 in
theorem textF_any (c : UInt8) (w : World) :
    Calls Tryd.prog 39 #[.int .u8 (c.toNat : Int)] w fun e w' => e = .returned (.string ⟨(tell 2 c).toArray⟩) ∧ w' = w := by
  by_cases h38 : c = 38
  · subst h38
    go_enter Tryd.func39, Tryd.ntmps39
    go_wp2
    go_ret
    exact ⟨ret_text (by decide +kernel), rfl⟩
  by_cases h60 : c = 60
  · subst h60
    go_enter Tryd.func39, Tryd.ntmps39
    go_wp2
    go_ret
    exact ⟨ret_text (by decide +kernel), rfl⟩
  by_cases h62 : c = 62
  · subst h62
    go_enter Tryd.func39, Tryd.ntmps39
    go_wp2
    go_ret
    exact ⟨ret_text (by decide +kernel), rfl⟩
  by_cases h13 : c = 13
  · subst h13
    go_enter Tryd.func39, Tryd.ntmps39
    go_wp2
    go_ret
    exact ⟨ret_text (by decide +kernel), rfl⟩
  have e38 : ((c.toNat : Int) == 38) = false := beq_eq_false_iff_ne.2 (fun e => h38 (UInt8.toNat_inj.1 (by show c.toNat = 38; omega)))
  have e60 : ((c.toNat : Int) == 60) = false := beq_eq_false_iff_ne.2 (fun e => h60 (UInt8.toNat_inj.1 (by show c.toNat = 60; omega)))
  have e62 : ((c.toNat : Int) == 62) = false := beq_eq_false_iff_ne.2 (fun e => h62 (UInt8.toNat_inj.1 (by show c.toNat = 62; omega)))
  have e13 : ((c.toNat : Int) == 13) = false := beq_eq_false_iff_ne.2 (fun e => h13 (UInt8.toNat_inj.1 (by show c.toNat = 13; omega)))
  have hN : Hid ([] = tell 2 c) := by
    refine (tell_none ?_).symm
    unfold turn8
    simp [h38, h60, h62, h13]
  clear h38 h60 h62 h13
  go_enter Tryd.func39, Tryd.ntmps39
  go_wp2
  go_ret
  exact ⟨ret_text hN.out, rfl⟩
theorem fText_any (s : ByteArray) (w : World) (hs : s.size ≤ 1000000) :
    Calls Tryd.prog 21 #[.string s] w fun e w' => e = .returned (.string ⟨(turnL 2 s.data.toList).toArray⟩) ∧ Below w.heap.size w w' := by
  go_enter Tryd.func21, Tryd.ntmps21
  go_wp2_with fail
  refine (rewritten_any 39 (enters_of Tryd.func39 (by kernel_rfl) rfl) (tell 2) (tell_le 2) s w hs (fun W c _ => (textF_any c W).mono (fun _ _ h => ⟨h.1, by rw [h.2]; exact Below.refl _ _⟩))).mono ?_
  rintro e w1 ⟨rfl, hb⟩
  rw [tell_instead]
  go_wp2_with fail
  go_ret
  exact ⟨rfl, hb⟩

set_option maxHeartbeats 1000000 in
theorem pageF_any (c : UInt8) (w : World) :
    Calls Tryd.prog 40 #[.int .u8 (c.toNat : Int)] w fun e w' => e = .returned (.string ⟨(tell 3 c).toArray⟩) ∧ w' = w := by
  by_cases h38 : c = 38
  · subst h38
    go_enter Tryd.func40, Tryd.ntmps40
    go_wp2
    go_ret
    exact ⟨ret_text (by decide +kernel), rfl⟩
  by_cases h60 : c = 60
  · subst h60
    go_enter Tryd.func40, Tryd.ntmps40
    go_wp2
    go_ret
    exact ⟨ret_text (by decide +kernel), rfl⟩
  by_cases h62 : c = 62
  · subst h62
    go_enter Tryd.func40, Tryd.ntmps40
    go_wp2
    go_ret
    exact ⟨ret_text (by decide +kernel), rfl⟩
  by_cases h34 : c = 34
  · subst h34
    go_enter Tryd.func40, Tryd.ntmps40
    go_wp2
    go_ret
    exact ⟨ret_text (by decide +kernel), rfl⟩
  by_cases h39 : c = 39
  · subst h39
    go_enter Tryd.func40, Tryd.ntmps40
    go_wp2
    go_ret
    exact ⟨ret_text (by decide +kernel), rfl⟩
  have e38 : ((c.toNat : Int) == 38) = false := beq_eq_false_iff_ne.2 (fun e => h38 (UInt8.toNat_inj.1 (by show c.toNat = 38; omega)))
  have e60 : ((c.toNat : Int) == 60) = false := beq_eq_false_iff_ne.2 (fun e => h60 (UInt8.toNat_inj.1 (by show c.toNat = 60; omega)))
  have e62 : ((c.toNat : Int) == 62) = false := beq_eq_false_iff_ne.2 (fun e => h62 (UInt8.toNat_inj.1 (by show c.toNat = 62; omega)))
  have e34 : ((c.toNat : Int) == 34) = false := beq_eq_false_iff_ne.2 (fun e => h34 (UInt8.toNat_inj.1 (by show c.toNat = 34; omega)))
  have e39 : ((c.toNat : Int) == 39) = false := beq_eq_false_iff_ne.2 (fun e => h39 (UInt8.toNat_inj.1 (by show c.toNat = 39; omega)))
  have hN : Hid ([] = tell 3 c) := by
    refine (tell_none ?_).symm
    unfold turn8
    simp [h38, h60, h62, h34, h39]
  clear h38 h60 h62 h34 h39
  go_enter Tryd.func40, Tryd.ntmps40
  go_wp2
  go_ret
  exact ⟨ret_text hN.out, rfl⟩
theorem fPage_any (s : ByteArray) (w : World) (hs : s.size ≤ 1000000) :
    Calls Tryd.prog 22 #[.string s] w fun e w' => e = .returned (.string ⟨(turnL 3 s.data.toList).toArray⟩) ∧ Below w.heap.size w w' := by
  go_enter Tryd.func22, Tryd.ntmps22
  go_wp2_with fail
  refine (rewritten_any 40 (enters_of Tryd.func40 (by kernel_rfl) rfl) (tell 3) (tell_le 3) s w hs (fun W c _ => (pageF_any c W).mono (fun _ _ h => ⟨h.1, by rw [h.2]; exact Below.refl _ _⟩))).mono ?_
  rintro e w1 ⟨rfl, hb⟩
  rw [tell_instead]
  go_wp2_with fail
  go_ret
  exact ⟨rfl, hb⟩

end Go.Proofs.YtnkefpopkaagaaaDoor
