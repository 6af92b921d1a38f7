/-
  Package nat: the piece behind the leading noughts.
-/
import Derived.Test.YthdoginhbhdmbaaHGen
namespace Go.Proofs.Ythdoginhbhdmbaa
open Go.RowKit Ch
set_option maxRecDepth 100000

/-- Without leading noughts. -/
def bareL (l : List UInt8) : List UInt8 := l.dropWhile (· == 0)
theorem bareL_zero (l : List UInt8) : bareL (0 :: l) = bareL l := by simp [bareL]
theorem bareL_stop {c : UInt8} (h : c ≠ 0) (l : List UInt8) : bareL (c :: l) = c :: l := by simp [bareL, h]
set_option maxHeartbeats 2000000 in
theorem nBare_any (x : Option Addr) (cx : Nat) (s : ByteArray) (w : World) (hS : IsBytes w (.slice x s.size cx) s) (hs : s.size ≤ 1000000) :
    Calls Try.prog 60 #[.slice x s.size cx] w fun e w' => (∃ y m c, e = .returned (.slice y m c) ∧ m = (bareL s.data.toList).length ∧ IsBytes w (.slice y m c) ⟨(bareL s.data.toList).toArray⟩) ∧ w' = w := by
  have HS0 := show Hid (IsBytes w (.slice x s.size cx) ⟨(s.data.toList.drop 0).toArray⟩) from by unfold Hid; rw [List.drop_zero]; exact hS
  clear hS
  go_enter Try.func60, Try.ntmps60
  go_wp2_with fail
  go_loopw [0] (fun u wr => ∃ (p m c : Nat) (y : Option Addr), u = .slice y m c ∧ Hid (p + m = s.size) ∧ m ≤ 1000000 ∧ Hid (IsBytes w (.slice y m c) ⟨(s.data.toList.drop p).toArray⟩) ∧ Hid (bareL (s.data.toList.drop p) = bareL s.data.toList) ∧ wr = w) (fun u _ => lenOf u)
  case atStart => exact ⟨0, s.size, cx, x, rfl, by unfold Hid; omega, hs, HS0.out, by unfold Hid; rw [List.drop_zero], rfl⟩
  case round =>
    obtain ⟨p, m, c, y, rfl, hpm, hm, hB, hb, rfl⟩ := hrel
    have hl : (s.data.toList.drop p).length = m := by rw [List.length_drop, len_eq]; have := hpm.out; omega
    have hz : (⟨(s.data.toList.drop p).toArray⟩ : ByteArray).size = m := by rw [size_of_list]; exact hl
    by_cases h0 : 0 < m
    · have h02 : (0 : Int) < (m : Int) := by omega
      obtain ⟨d, rest, hd⟩ : ∃ d rest, s.data.toList.drop p = d :: rest := by
        rcases h : s.data.toList.drop p with _ | ⟨d, rest⟩
        · rw [h] at hl; simp at hl; omega
        · exact ⟨d, rest, rfl⟩
      obtain ⟨bb, oo, rfl, hbl, gc⟩ := IsBytes.cellAt (s := ⟨(s.data.toList.drop p).toArray⟩) (by rw [hz]; exact hB.out) (i := 0) (by rw [hz]; exact h0)
      have hby : byte ⟨(s.data.toList.drop p).toArray⟩ 0 = d.toNat := by rw [byte_list, List.toList_toArray, hd]; rfl
      rw [hby, Nat.add_zero] at gc
      have hcm : m ≤ c := by
        obtain ⟨_, _, e1, e2, _⟩ := hB.out
        simp only [Value.slice.injEq] at e1
        omega
      by_cases hd0 : d = 0
      · have hdz : ((d.toNat : Int) == 0) = true := by rw [hd0]; rfl
        have hrest := IsBytes.rest (s := ⟨(s.data.toList.drop p).toArray⟩) (by rw [hz]; exact hB.out) (k := 1) (by rw [hz]; omega)
        have hseg : seg ⟨(s.data.toList.drop p).toArray⟩ 1 (⟨(s.data.toList.drop p).toArray⟩ : ByteArray).size = s.data.toList.drop (p + 1) := by
          unfold seg
          rw [hz, List.toList_toArray, List.drop_drop, ← hl]
          exact List.take_of_length_le (by rw [List.length_drop, List.length_drop]; omega)
        rw [hseg, hz] at hrest
        have HRS := show Hid (IsBytes wr (.slice (if c = 1 then some ⟨bb, oo, none⟩ else (some ⟨bb, oo, none⟩ : Option Addr).map fun x => x.add 1) (m - 1) (c - 1)) ⟨(s.data.toList.drop (p + 1)).toArray⟩) from hrest
        have HB2 := show Hid (bareL (s.data.toList.drop (p + 1)) = bareL s.data.toList) from by
          unfold Hid
          rw [← hb.out, hd, hd0, bareL_zero]
          congr 1
          rw [← List.drop_drop, hd]
          rfl
        clear hrest hseg hB hb hl hz hby hd
        have h1m : (1 : Int) ≤ (m : Int) := by omega
        have h1c : (1 : Int) ≤ (c : Int) := by omega
        go_wp2_with fail
        go_roundw
        case rel => exact ⟨p + 1, m - 1, c - 1, _, by first | rfl | (congr 1; omega), by unfold Hid; have := hpm.out; omega, by omega, HRS.out, HB2.out, trivial⟩
        case measure => simp [lenOf]; omega
      · have hdz : ((d.toNat : Int) == 0) = false := by
          have : d.toNat ≠ 0 := fun h => hd0 (by rw [← UInt8.toNat_inj]; exact h)
          simp; omega
        have hbd : bareL s.data.toList = s.data.toList.drop p := by rw [← hb.out, hd, bareL_stop hd0]
        have HR := show Hid (m = (bareL s.data.toList).length ∧ IsBytes wr (.slice (some ⟨bb, oo, none⟩) m c) ⟨(bareL s.data.toList).toArray⟩) from ⟨by rw [hbd, hl], by rw [hbd]; exact hB.out⟩
        clear hbd hl hz hby hd hB hb
        go_wp2_with fail
        go_ret
        exact ⟨⟨_, _, _, rfl, HR.out.1, HR.out.2⟩, rfl⟩
    · have h02 : ¬ (0 : Int) < (m : Int) := by omega
      have hd : s.data.toList.drop p = [] := List.eq_nil_of_length_eq_zero (by omega)
      have hbd : bareL s.data.toList = [] := by rw [← hb.out, hd]; rfl
      have HR := show Hid (m = (bareL s.data.toList).length ∧ IsBytes wr (.slice y m c) ⟨(bareL s.data.toList).toArray⟩) from ⟨by rw [hbd]; simp; omega, by rw [hbd, ← hd]; exact hB.out⟩
      clear hbd hl hz hd hB hb
      go_wp2_with fail
      go_ret
      exact ⟨⟨_, _, _, rfl, HR.out.1, HR.out.2⟩, rfl⟩
end Go.Proofs.Ythdoginhbhdmbaa
