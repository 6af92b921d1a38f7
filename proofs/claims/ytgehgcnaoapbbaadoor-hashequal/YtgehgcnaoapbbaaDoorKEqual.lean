/-
  Package hash: Equal.
-/
import Derived.Test.YtgehgcnaoapbbaaDoorKHex
import Derived.Deep.QuietTactic
import Derived.BigQuiet
namespace Go.Proofs.YtgehgcnaoapbbaaDoor
open Go.RowKit Ch
set_option maxRecDepth 100000

/-- The bits in which two texts part, up to a place. -/
def apartN (s t : ByteArray) : Nat → Nat
  | 0 => 0
  | k + 1 => apartN s t k ||| (byte s k ^^^ byte t k)
theorem apartN_lt (s t : ByteArray) (k : Nat) : apartN s t k < 256 := by
  induction k with
  | zero => exact Nat.zero_lt_of_lt (show 0 < 256 by omega)
  | succ k ih => exact Nat.or_lt_two_pow (n := 8) ih (Nat.xor_lt_two_pow (n := 8) (byte_lt _ _) (byte_lt _ _))
theorem or_zero {a b : Nat} : a ||| b = 0 ↔ a = 0 ∧ b = 0 := by
  constructor
  · intro h
    have h1 : a ≤ a ||| b := Nat.left_le_or
    have h2 : b ≤ a ||| b := Nat.right_le_or
    omega
  · rintro ⟨rfl, rfl⟩
    rfl
theorem xor_zero {a b : Nat} : a ^^^ b = 0 ↔ a = b := by
  constructor
  · intro h
    apply Nat.eq_of_testBit_eq
    intro i
    have := congrArg (fun n => n.testBit i) h
    simp only [Nat.testBit_xor, Nat.zero_testBit] at this
    cases ha : a.testBit i <;> cases hb : b.testBit i <;> simp [ha, hb] at this ⊢
  · rintro rfl
    exact Nat.xor_self a
theorem apartN_zero (s t : ByteArray) (k : Nat) : apartN s t k = 0 ↔ ∀ j, j < k → byte s j = byte t j := by
  induction k with
  | zero => exact ⟨fun _ j hj => absurd hj (Nat.not_lt_zero _), fun _ => rfl⟩
  | succ k ih =>
    rw [apartN, or_zero, ih, xor_zero]
    constructor
    · rintro ⟨h1, h2⟩ j hj
      by_cases e : j = k
      · rw [e]; exact h2
      · exact h1 j (by omega)
    · exact fun h => ⟨fun j hj => h j (by omega), h k (by omega)⟩
theorem eq_of_bytes {s t : ByteArray} (h : s.size = t.size) (hb : ∀ j, j < s.size → byte s j = byte t j) : s = t := by
  apply ByteArray.ext
  apply Array.toList_inj.1
  apply List.ext_getElem?
  intro j
  by_cases hj : j < s.size
  · rw [list_at s j hj, list_at t j (by omega)]
    have := hb j hj
    rw [byte_eq s j hj, byte_eq t j (by omega)] at this
    exact congrArg some (UInt8.toNat_inj.1 this)
  · rw [List.getElem?_eq_none (by rw [len_eq]; omega), List.getElem?_eq_none (by rw [len_eq]; omega)]
set_option maxHeartbeats 1000000 in
theorem kEqual_any (x y : Option Addr) (cx cy : Nat) (s t : ByteArray) (w : World) (hs : s.size ≤ 1000000) (hS : IsBytes w (.slice x s.size cx) s) (hT : IsBytes w (.slice y t.size cy) t) (R : Bool) (hR : R = true ↔ s = t) :
    Calls Tryd.prog 17 #[.slice x s.size cx, .slice y t.size cy] w fun e w' => e = .returned (.bool R) ∧ Below w.heap.size w w' := by
  have HR := show Hid (R = true ↔ s = t) from hR
  clear hR
  by_cases hl : s.size = t.size
  · obtain ⟨n, hn⟩ : ∃ n, s.size = n := ⟨_, rfl⟩
    have HSn := show Hid (s.size = n ∧ t.size = n) from ⟨hn, by omega⟩
    have HS := show Hid (IsBytes w (.slice x s.size cx) s) from hS
    have HT := show Hid (IsBytes w (.slice y t.size cy) t) from hT
    rw [← hl, hn]
    rw [hn] at hs
    clear hn hl hS hT
    go_enter Tryd.func17, Tryd.ntmps17
    go_wp2_with fail
    go_loopw [5, 14] (fun u v wr => ∃ i : Nat, i ≤ n ∧ v = .int .i64 (i : Int) ∧ u = .int .u8 (apartN s t i : Int) ∧ Below w.heap.size w wr) (fun _ v _ => n - (intOf v).toNat)
    case atStart => exact ⟨0, Nat.zero_le _, rfl, rfl, Below.refl _ _⟩
    case round =>
      obtain ⟨i, hi, rfl, rfl, hb⟩ := hrel
      by_cases hlt : i < n
      · have hlt2 : (i : Int) < (n : Int) := by omega
        obtain ⟨b1, o1, rfl, hb1, hc1⟩ := HS.out.cellAt (i := i) (by rw [HSn.out.1]; exact hlt)
        obtain ⟨b2, o2, rfl, hb2, hc2⟩ := HT.out.cellAt (i := i) (by rw [HSn.out.2]; exact hlt)
        have g1 := (hb.cell (p := ⟨b1, o1 + i, none⟩) hb1).trans hc1
        have g2 := (hb.cell (p := ⟨b2, o2 + i, none⟩) hb2).trans hc2
        have e1 := xor8 (byte s i) (byte t i) (byte_lt _ _) (byte_lt _ _)
        have e2 := or8 (apartN s t i) (byte s i ^^^ byte t i) (apartN_lt _ _ _) (Nat.xor_lt_two_pow (n := 8) (byte_lt _ _) (byte_lt _ _))
        have HN : Hid (apartN s t (i + 1) = apartN s t i ||| (byte s i ^^^ byte t i)) := rfl
        generalize apartN s t i ||| (byte s i ^^^ byte t i) = Z at *
        generalize byte s i ^^^ byte t i = X at *
        generalize byte s i = A1 at *
        generalize byte t i = A2 at *
        go_wp2_with fail
        go_quiet (fail)
        go_wp2_with fail
        go_roundw
        case rel => exact ⟨i + 1, by omega, by go_num, by rw [HN.out], below_drewN hb nq⟩
        case measure => simp [intOf]; omega
      · have hlt2 : ¬ (i : Int) < (n : Int) := by omega
        obtain rfl : i = n := by omega
        have hz := apartN_zero s t i
        have HZ : Hid (apartN s t i = 0 ↔ s = t) := by
          unfold Hid
          rw [hz]
          constructor
          · exact fun h => eq_of_bytes (by rw [HSn.out.1, HSn.out.2]) (by rw [HSn.out.1]; exact h)
          · rintro rfl j _
            rfl
        clear hz
        generalize apartN s t i = Z at *
        go_wp2_with fail
        go_ret
        refine ⟨ret_bool ?_, hb⟩
        have h1 := HZ.out
        have h2 := HR.out
        cases R with
        | true => exact beq_iff_eq.2 (by have := h1.2 (h2.1 rfl); omega)
        | false => exact beq_eq_false_iff_ne.2 (fun h => by have := h2.2 (h1.1 (by omega)); cases this)
  · have hl2 : ((s.size : Int) == (t.size : Int)) = false := by simp; omega
    go_enter Tryd.func17, Tryd.ntmps17
    go_wp2_with fail
    go_ret
    refine ⟨ret_bool ?_, Below.refl _ _⟩
    cases R with
    | true => exact absurd (congrArg ByteArray.size (HR.out.1 rfl)) hl
    | false => rfl
end Go.Proofs.YtgehgcnaoapbbaaDoor
