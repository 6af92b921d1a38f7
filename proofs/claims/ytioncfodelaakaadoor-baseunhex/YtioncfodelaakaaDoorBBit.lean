/-
  The document's bit of bytes.
-/
import Derived.Test.YtioncfodelaakaaDoorBLeaf
import Derived.Laws.Runes
namespace Go.Proofs.YtioncfodelaakaaDoor
open Go.RowKit Ch

theorem byte_cell {w : World} {b o : Nat} {s : ByteArray} (h : From w b o s 0) {j : Nat} (hj : j < s.size) : w.cell? ⟨b, o + j, none⟩ = some (.int .u8 (byte s j : Int)) := by
  have := h j (by omega)
  rw [Nat.zero_add] at this
  exact this
theorem wrap_nat (n : Nat) (h : n < 9223372036854775808) : IntKind.i64.wrap (n : Int) = (n : Int) := by
  rw [IntKind.wrap_i64]; omega

set_option maxHeartbeats 2000000 in
theorem sBit_in (b o cap : Nat) (s : ByteArray) (i : Nat) (w : World) (hs : s.size ≤ 1000000) (hcap : s.size ≤ cap) (hcap2 : cap ≤ maxLen) (hc : From w b o s 0) (hi : i / 8 < s.size) :
    Calls Tryd.prog 24 #[.slice (some ⟨b, o, none⟩) s.size cap, .int .i64 (i : Int)] w fun e w' => e = .returned (.int .i64 (bitN s i : Int)) ∧ w' = w.drew := by
  unfold maxLen at hcap2
  obtain ⟨q, hq⟩ : ∃ q, i / 8 = q := ⟨_, rfl⟩
  obtain ⟨r, hr⟩ : ∃ r, i % 8 = r := ⟨_, rfl⟩
  have hr8 : r < 8 := by omega
  have hcell := byte_cell hc hi
  rw [hq] at hcell hi
  have hi2 : i < 8000000 := by omega
  have hlt := byte_lt s q
  obtain ⟨x, hx⟩ : ∃ x, byte s q = x := ⟨_, rfl⟩
  have hB : Hid (bitN s i = x / 2 ^ (7 - r) % 2) := by unfold Hid bitN; rw [hq, hr, hx]
  rw [hx] at hcell hlt
  clear hx
  have hcell' : w.drew.cell? ⟨b, o + q, none⟩ = some (.int .u8 (x : Int)) := hcell
  have e1 : (i : Int).tdiv 8 = (q : Int) := by
    rw [Int.tdiv_eq_ediv_of_nonneg (by omega)]; omega
  have e2 : (i : Int).tmod 8 = (r : Int) := by
    rw [Int.tmod_eq_emod_of_nonneg (by omega)]; omega
  obtain ⟨k, hk⟩ : ∃ k, 7 - r = k := ⟨_, rfl⟩
  rw [hk] at hB
  have hk8 : k ≤ 7 := by omega
  have e3 : (7 : Int) - (r : Int) = (k : Int) := by omega
  have w1 := wrap_nat q (by omega)
  have w2 := wrap_nat k (by omega)
  have w3 := wrap_nat r (by omega)
  have w4 := wrap_nat x (by omega)
  have g1 : (0 : Int) ≤ (q : Int) := by omega
  have g2 : (q : Int) < (s.size : Int) := by omega
  have hP := sPow_any k w.drew (by omega)
  obtain ⟨p, hp⟩ : ∃ p, 2 ^ k = p := ⟨_, rfl⟩
  have hp1 : 1 ≤ p := by rw [← hp]; exact Nat.pow_pos (by omega)
  rw [hp] at hP hB
  have e4 : (x : Int).tdiv (p : Int) = ((x / p : Nat) : Int) := by
    rw [Int.tdiv_eq_ediv_of_nonneg (by omega)]; rfl
  have hxp : x / p ≤ x := Nat.div_le_self _ _
  obtain ⟨d, hd⟩ : ∃ d, x / p = d := ⟨_, rfl⟩
  rw [hd] at e4 hB hxp
  have w5 := wrap_nat d (by omega)
  have e5 : (d : Int).tmod 2 = ((d % 2 : Nat) : Int) := by
    rw [Int.tmod_eq_emod_of_nonneg (by omega)]; rfl
  obtain ⟨m, hm⟩ : ∃ m, d % 2 = m := ⟨_, rfl⟩
  rw [hm] at e5 hB
  have w6 := wrap_nat m (by omega)
  have z1 : ((p : Int) == 0) = false := beq_eq_false_iff_ne.2 (by omega)
  have z2 : ((p : Int) = 0) = False := eq_false (by omega)
  have z3 : (p = 0) = False := eq_false (by omega)
  clear hm hd hp hk hr hc
  go_enter Tryd.func24, Tryd.ntmps24
  go_wp2_with fail
  go_region_law (first
    | (go_simp
       go_wp2_with (go_at_call 35; refine hP.mono ?_)
       rintro e w1 ⟨rfl, hw1⟩
       rw [hw1]
       clear hw1 w1))
  all_goals
    go_wp2
    go_ret
    exact ⟨ret_int (by rw [hB.out]), rfl⟩

theorem sBit_out (a : Option Addr) (n cap i : Nat) (w : World) (hi : n ≤ i / 8) (hi2 : i ≤ 9000000) :
    Calls Tryd.prog 24 #[.slice a n cap, .int .i64 (i : Int)] w fun e w' => e = .returned (.int .i64 0) ∧ w' = w := by
  obtain ⟨q, hq⟩ : ∃ q, i / 8 = q := ⟨_, rfl⟩
  have e1 : (i : Int).tdiv 8 = (q : Int) := by
    rw [Int.tdiv_eq_ediv_of_nonneg (by omega)]; omega
  rw [hq] at hi
  go_enter Tryd.func24, Tryd.ntmps24
  go_wp2
  go_ret
  exact ⟨rfl, rfl⟩

theorem sBit_any (a : Option Addr) (cap : Nat) (s : ByteArray) (i : Nat) (w : World) (hs : s.size ≤ 1000000) (hi : i ≤ 9000000) (hB : IsBytes w (.slice a s.size cap) s) :
    Calls Tryd.prog 24 #[.slice a s.size cap, .int .i64 (i : Int)] w fun e w' => e = .returned (.int .i64 (bitN s i : Int)) ∧ Below w.heap.size w w' := by
  rcases Nat.lt_or_ge (i / 8) s.size with h | h
  · obtain ⟨a', cap', hv, hc, hm, ⟨_, h0, _⟩ | ⟨x, ha, h0 | ⟨b, o, hx, hb, hf⟩⟩⟩ := hB
    · omega
    · omega
    · simp only [Value.slice.injEq, true_and] at hv
      obtain ⟨rfl, rfl⟩ := hv
      rw [ha, hx]
      refine (sBit_in b o cap s i w hs hc hm hf h).mono ?_
      rintro e w' ⟨rfl, rfl⟩
      exact ⟨rfl, (Below.refl _ w).drew⟩
  · refine (sBit_out a s.size cap i w h hi).mono ?_
    rintro e w' ⟨rfl, rfl⟩
    refine ⟨ret_int (by rw [bitN_none h]; rfl), Below.refl _ _⟩
theorem sBit_at (a : Option Addr) (cap : Nat) (s : ByteArray) (i j : Nat) (w : World) (hs : s.size ≤ 1000000) (hi : i + j ≤ 9000000) (hB : IsBytes w (.slice a s.size cap) s) :
    Calls Tryd.prog 24 #[.slice a s.size cap, .int .i64 ((i : Int) + (j : Int))] w fun e w' => e = .returned (.int .i64 (bitN s (i + j) : Int)) ∧ Below w.heap.size w w' := sBit_any a cap s (i + j) w hs hi hB
end Go.Proofs.YtioncfodelaakaaDoor
