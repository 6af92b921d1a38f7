/-
  Package der: isNumber, bytes.Equal; what a key's form says.
-/
import Derived.Test.YthdoginhbhdmbaaXOnly
namespace Go.Proofs.Ythdoginhbhdmbaa
open Go.RowKit Ch
set_option maxRecDepth 100000

theorem bare_head : ∀ (l : List UInt8) (c : UInt8) (r : List UInt8), bareL l = c :: r → c ≠ 0
  | [], c, r, h => by simp [bareL] at h
  | x :: l, c, r, h => by
    by_cases hx : x = 0
    · subst hx
      rw [bareL_zero] at h
      exact bare_head l c r h
    · rw [bareL_stop hx] at h
      simp only [List.cons.injEq] at h
      exact h.1 ▸ hx
theorem bare_num (l : List UInt8) (h0 : bareL l ≠ []) : bareL (numL l) = bareL l := by
  unfold numL
  cases h : bareL l with
  | nil => exact absurd h h0
  | cons c r =>
    have hc := bare_head l c r h
    rw [numC_cons]
    split
    · rw [bareL_zero, bareL_stop hc]
    · rw [bareL_stop hc]
set_option maxHeartbeats 2000000 in
theorem xIsNumber_ok (l : List UInt8) (v : Value) (w : World) (h : IsBytes w v ⟨(numL l).toArray⟩) (h0 : bareL l ≠ []) :
    Calls Try.prog 55 #[v] w fun e w' => e = .returned (.bool true) ∧ w' = w := by
  obtain ⟨R, hR⟩ : ∃ R, numL l = R := ⟨_, rfl⟩
  have hC : R = numC (bareL l) := by rw [← hR]; rfl
  rw [hR] at h
  cases hb : bareL l with
  | nil => exact absurd hb h0
  | cons c r =>
    have hc := bare_head l c r hb
    rw [hb, numC_cons] at hC
    have hc0 : c.toNat ≠ 0 := fun e => hc (UInt8.toNat.inj e)
    obtain ⟨y, cy, rfl⟩ := isb_shape h
    obtain ⟨n0, hn0⟩ : ∃ n, c.toNat = n := ⟨_, rfl⟩
    rw [hn0] at hC hc0
    have hz : (⟨R.toArray⟩ : ByteArray).size = R.length := size_of_list R
    obtain ⟨k, hk⟩ : ∃ k, R.length = k := ⟨_, rfl⟩
    rw [hk] at hz h ⊢
    by_cases h7 : 127 < n0
    · rw [if_pos h7] at hC
      have hk2 : 2 ≤ k := by rw [← hk, hC]; simp
      obtain ⟨b, o, rfl, _, g0'⟩ := IsBytes.cellAt (s := ⟨R.toArray⟩) (by rw [hz]; exact h) (i := 0) (by omega)
      obtain ⟨b2, o2, e2, _, g1'⟩ := IsBytes.cellAt (s := ⟨R.toArray⟩) (by rw [hz]; exact h) (i := 1) (by omega)
      simp only [Option.some.injEq, Addr.mk.injEq, and_true] at e2
      obtain ⟨rfl, rfl⟩ := e2
      rw [byte_list, List.toList_toArray, hC] at g0' g1'
      have g0 : w.cell? ⟨b, o, none⟩ = some (.int .u8 0) := by simpa using g0'
      have g1 : w.cell? ⟨b, o + 1, none⟩ = some (.int .u8 (n0 : Int)) := by rw [← hn0]; simpa using g1'
      have i0 : ((k : Int) == 0) = false := beq_eq_false_iff_ne.2 (by omega)
      have i1 : (0 : Int) < (k : Int) := by omega
      have i2 : (1 : Int) < (k : Int) := by omega
      have i3 : (128 : Int) ≤ (n0 : Int) := by omega
      have i3' : ¬ (n0 : Int) < (128 : Int) := by omega
      have i5 : decide ((128 : Int) ≤ (n0 : Int)) = true := decide_eq_true i3
      clear hR hC hb hc hc0 hn0 h7 hz hk h g0' g1' hk2 h0
      go_enter Try.func55, Try.ntmps55
      go_wp2_with fail
      go_ret
      exact ⟨rfl, rfl⟩
    · rw [if_neg h7] at hC
      have hk2 : 1 ≤ k := by rw [← hk, hC]; simp
      obtain ⟨b, o, rfl, _, g0'⟩ := IsBytes.cellAt (s := ⟨R.toArray⟩) (by rw [hz]; exact h) (i := 0) (by omega)
      rw [byte_list, List.toList_toArray, hC] at g0'
      have g0 : w.cell? ⟨b, o, none⟩ = some (.int .u8 (n0 : Int)) := by rw [← hn0]; simpa using g0'
      have i0 : ((k : Int) == 0) = false := beq_eq_false_iff_ne.2 (by omega)
      have i1 : (0 : Int) < (k : Int) := by omega
      have i3 : ¬ (128 : Int) ≤ (n0 : Int) := by omega
      have i3' : (n0 : Int) < (128 : Int) := by omega
      have i4 : ((n0 : Int) == 0) = false := beq_eq_false_iff_ne.2 (by omega)
      clear hR hC hb hc hc0 hn0 h7 hz hk h g0' hk2 h0
      go_enter Try.func55, Try.ntmps55
      go_wp2_with fail
      go_ret
      exact ⟨rfl, rfl⟩
theorem sEqual_ok (u v : Value) (s : ByteArray) (w : World) (h1 : IsBytes w u s) (h2 : IsBytes w v s) : Calls Try.prog 54 #[u, v] w fun e w' => e = .returned (.bool true) ∧ w' = w := by
  have c1 := h1.convert
  have c2 := h2.convert
  have tS : (s.toList == s.toList) = true := by simp
  clear h1 h2
  go_enter Try.func54, Try.ntmps54
  go_wp2_with fail
  go_ret
  exact ⟨rfl, rfl⟩
theorem isPs_at {w : World} {x : Option Addr} {n c : Nat} {ps : List (UInt8 × List UInt8)} (h : IsPs w (.slice x n c) ps) {i : Nat} {t : UInt8} {bl : List UInt8} (hi : ps[i]? = some (t, bl)) :
    n = ps.length ∧ ∃ b o y k cy, x = some ⟨b, o, none⟩ ∧ b < w.heap.size ∧ w.cell? ⟨b, o + i * 2, none⟩ = some (.int .u8 (t.toNat : Int)) ∧ w.cell? ⟨b, o + i * 2 + 1, none⟩ = some (.slice y k cy) ∧ IsBytes w (.slice y k cy) ⟨bl.toArray⟩ ∧ k = bl.length := by
  obtain ⟨y0, c0, h0, _, h1⟩ := h
  simp only [Value.slice.injEq] at h0
  obtain ⟨b, o, yb, cb, h4, h5, h6, h7, h8⟩ := h1 i _ hi
  exact ⟨h0.2.1, b, o, yb, _, cb, h0.1.trans h4, h5, h6, h7, h8, rfl⟩
/-- What stands in a key's form. -/
def kindB : List UInt8 := putL1 (6, [42, 134, 72, 134, 247, 13, 1, 1, 1]) ++ putL1 (5, [])
def numsB (N E : List UInt8) : List UInt8 := putL1 (2, numL N) ++ putL1 (2, numL E)
def bitsB (N E : List UInt8) : List UInt8 := 0 :: putL1 (48, numsB N E)
def formB (N E : List UInt8) : List UInt8 := kindL 1 ++ putL1 (3, bitsB N E)
theorem infoL_form (N E : List UInt8) : infoL N E = putL1 (48, formB N E) := rfl
theorem formB_put (N E : List UInt8) : putL [(48, kindB), (3, bitsB N E)] = formB N E := by
  simp only [putL, formB, List.append_nil]
  rfl
theorem numsB_put (N E : List UInt8) : putL [(2, numL N), (2, numL E)] = numsB N E := by
  simp only [putL, numsB, List.append_nil]
theorem oneB_put (p : UInt8 × List UInt8) : putL [p] = putL1 p := by simp only [putL, List.append_nil]
theorem numsB_le (N E : List UInt8) (hN : N.length ≤ 10000) (hE : E.length ≤ 10000) : (numsB N E).length ≤ 20012 := by
  have h1 := putNum_le N hN
  have h2 := putNum_le E hE
  unfold numsB
  rw [List.length_append]
  omega
theorem bitsB_le (N E : List UInt8) (hN : N.length ≤ 10000) (hE : E.length ≤ 10000) : (bitsB N E).length ≤ 20017 := by
  have h3 := up_of (p := (48, numsB N E)) (n := 20012) (numsB_le N E hN hE) (by omega)
  unfold bitsB
  rw [List.length_cons]
  omega
theorem formB_le (N E : List UInt8) (hN : N.length ≤ 10000) (hE : E.length ≤ 10000) : (formB N E).length ≤ 20040 := by
  have h3 := up_of (p := (3, bitsB N E)) (n := 20017) (bitsB_le N E hN hE) (by omega)
  have h5 := kindL_len 1
  unfold formB
  rw [List.length_append]
  omega
end Go.Proofs.Ythdoginhbhdmbaa
