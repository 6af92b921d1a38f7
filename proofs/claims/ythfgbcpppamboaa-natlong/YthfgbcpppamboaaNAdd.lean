/-
  Package nat: words added to a piece of a row.
-/
import Derived.Test.YthfgbcpppamboaaNRow
import Derived.Test.YthfgbcpppamboaaNBits
namespace Go.Proofs.Ythfgbcpppamboaa
open Go.RowKit Ch
set_option maxRecDepth 100000

/-- The row at g was L and is L'; beyond the n words from o nothing has changed. -/
def Wrote (w w' : World) (g : Nat) (L L' : List Nat) (o n : Nat) : Prop := RowN .u64 w' g L' ∧ AllW L' ∧ L'.length = L.length ∧ (∀ i, (i < o ∨ o + n ≤ i) → L'[i]? = L[i]?) ∧ w.grownBy w' (some g)
theorem Wrote.start {w : World} {g : Nat} {L : List Nat} (h : RowN .u64 w g L) (hA : AllW L) (o : Nat) : Wrote w w g L L o 0 := ⟨h, hA, rfl, fun _ _ => rfl, grown_refl _ _⟩
theorem Wrote.cell {w w' : World} {g : Nat} {L L' : List Nat} {o n i p : Nat} (h : Wrote w w' g L L' o n) (hp : L'[i]? = some p) : w'.cell? ⟨g, i, none⟩ = some (.int .u64 (p : Int)) ∧ w'.frozen? ⟨g, i, none⟩ = false ∧ p < 18446744073709551616 := ⟨h.1.cell hp, h.1.free i, h.2.1.at hp⟩
theorem Wrote.next {w w' : World} {g : Nat} {L L' : List Nat} {o n p : Nat} (h : Wrote w w' g L L' o n) (hp : L'[o + n]? = some p) {s : Nat} (hs : s < 18446744073709551616) : Wrote w (w'.setCell ⟨g, o + n, none⟩ (.int .u64 (s : Int))) g L (L'.set (o + n) s) o (n + 1) := by
  refine ⟨h.1.set hp s, h.2.1.set _ hs, by rw [List.length_set]; exact h.2.2.1, fun i hi => ?_, grown_trans h.2.2.2.2 (grown_cell _ _ _)⟩
  rw [List.getElem?_set_ne (by omega)]
  exact h.2.2.2.1 i (by omega)
theorem Wrote.more {w w' : World} {g : Nat} {L L' : List Nat} {o n m : Nat} (h : Wrote w w' g L L' o n) (hm : n ≤ m) : Wrote w w' g L L' o m := ⟨h.1, h.2.1, h.2.2.1, fun i hi => h.2.2.2.1 i (by omega), h.2.2.2.2⟩
set_option maxHeartbeats 2000000 in
theorem nAddTo_any (g o n c cv : Nat) (yv : Option Addr) (V L : List Nat) (w : World) (hR : RowN .u64 w g L) (hA : AllW L) (hon : o + n ≤ L.length) (hVn : V.length ≤ n) (hn : n ≤ 100000) (hAV : AllW V) (hv : ∀ u, w.grownBy u (some g) → IsN .u64 u (.slice yv V.length cv) V) :
    Calls Try.prog 48 #[.slice (some ⟨g, o, none⟩) n c, .slice yv V.length cv] w fun e w' => e = .returned (.tuple #[]) ∧ ∃ L', Wrote w w' g L L' o n ∧ ∃ k, k ≤ 1 ∧ pv L' o n + k * 18446744073709551616 ^ n = pv L o n + numW V := by
  have HW0 := show Hid (Wrote w w g L L o 0) from Wrote.start hR hA o
  obtain ⟨m, hm⟩ : ∃ m, V.length = m := ⟨_, rfl⟩
  have HV := show Hid (∀ u, w.grownBy u (some g) → IsN .u64 u (.slice yv m cv) V) from by unfold Hid; rw [← hm]; exact hv
  have HM := show Hid (V.length = m) from hm
  rw [hm] at hVn ⊢
  clear hR hv hm
  go_enter Try.func48, Try.ntmps48
  go_wp2_with fail
  go_loopw [10, 4] (fun p q wr => ∃ (i k : Nat) (L' : List Nat), i ≤ m ∧ k ≤ 1 ∧ p = .int .i64 (i : Int) ∧ q = .int .u64 (k : Int) ∧ Hid (Wrote w wr g L L' o i) ∧ Hid (pv L' o i + k * 18446744073709551616 ^ i = pv L o i + numW (V.take i))) (fun p _ _ => m - (intOf p).toNat)
  case atStart => exact ⟨0, 0, L, by omega, by omega, rfl, rfl, HW0.out, by unfold Hid; simp [pv_zero, numW]⟩
  case round =>
    obtain ⟨i, k, L', hi, hk, rfl, rfl, hW, hE⟩ := hrel
    by_cases him : i < m
    · have him2 : (i : Int) < (m : Int) := by omega
      have hin2 : (i : Int) < (n : Int) := by omega
      obtain ⟨x, hx⟩ : ∃ x, V[i]? = some x := ⟨_, List.getElem?_eq_getElem (by rw [HM.out]; exact him)⟩
      obtain ⟨p, hp⟩ : ∃ p, L'[o + i]? = some p := ⟨_, List.getElem?_eq_getElem (by rw [hW.out.2.2.1]; omega)⟩
      have hp0 : L[o + i]? = some p := by rw [← hW.out.2.2.2.1 (o + i) (by omega)]; exact hp
      obtain ⟨hmv, bv, ov, rfl, _, gx⟩ := IsN.cellAt (HV.out wr hW.out.2.2.2.2) hx
      clear hmv
      obtain ⟨gp, gf, hpB⟩ := hW.out.cell hp
      have hxB := hAV.at hx
      have hAdd := add64_run p x k hpB hxB hk
      obtain ⟨s, hs⟩ : ∃ s, (p + x + k) % 18446744073709551616 = s := ⟨_, rfl⟩
      obtain ⟨k', hk'⟩ : ∃ k', (p + x + k) / 18446744073709551616 = k' := ⟨_, rfl⟩
      rw [hs, hk'] at hAdd
      have hsB : s < 18446744073709551616 := by omega
      have hk1 : k' ≤ 1 := by omega
      have HN := show Hid (Wrote w (wr.setCell ⟨g, o + i, none⟩ (.int .u64 (s : Int))) g L (L'.set (o + i) s) o (i + 1) ∧ pv (L'.set (o + i) s) o (i + 1) + k' * 18446744073709551616 ^ (i + 1) = pv L o (i + 1) + numW (V.take (i + 1))) from by
        refine ⟨hW.out.next hp hsB, ?_⟩
        rw [pv_put hp, pv_succ hp0, numW_take hx, Nat.pow_succ]
        exact acc_step hE.out (by omega)
      clear hs hk' hp hp0 hx hE hW hpB hxB
      go_wp2_with fail
      go_roundw
      case rel => exact ⟨i + 1, k', L'.set (o + i) s, by omega, hk1, by go_num, rfl, HN.out.1, HN.out.2⟩
      case measure => simp [intOf]; omega
    · have him2 : ¬ (i : Int) < (m : Int) := by omega
      obtain rfl : i = m := by omega
      have HE := show Hid (pv L' o i + k * 18446744073709551616 ^ i = pv L o i + numW V) from by
        have := hE.out
        rw [List.take_of_length_le (by rw [HM.out]; exact Nat.le_refl _)] at this
        exact this
      clear hE
      go_wp2_with fail
      obtain ⟨w1, hw1⟩ : ∃ w1, w1 = wr := ⟨_, rfl⟩
      subst hw1
      go_loopw [7, 4] (fun p q wr => ∃ (j k : Nat) (L' : List Nat), j ≤ n ∧ k ≤ 1 ∧ p = .int .i64 (j : Int) ∧ q = .int .u64 (k : Int) ∧ Hid (Wrote w wr g L L' o j) ∧ Hid (pv L' o j + k * 18446744073709551616 ^ j = pv L o j + numW V)) (fun p _ _ => n - (intOf p).toNat)
      case atStart => exact ⟨i, k, L', by omega, hk, rfl, rfl, hW.out, HE.out⟩
      case round =>
        obtain ⟨j, k, L', hj, hk, rfl, rfl, hW, hE⟩ := hrel
        by_cases hjn : j < n
        · have hjn2 : (j : Int) < (n : Int) := by omega
          obtain ⟨p, hp⟩ : ∃ p, L'[o + j]? = some p := ⟨_, List.getElem?_eq_getElem (by rw [hW.out.2.2.1]; omega)⟩
          have hp0 : L[o + j]? = some p := by rw [← hW.out.2.2.2.1 (o + j) (by omega)]; exact hp
          obtain ⟨gp, gf, hpB⟩ := hW.out.cell hp
          have hAdd := add64_run p 0 k hpB (by decide) hk
          obtain ⟨s, hs⟩ : ∃ s, (p + 0 + k) % 18446744073709551616 = s := ⟨_, rfl⟩
          obtain ⟨k', hk'⟩ : ∃ k', (p + 0 + k) / 18446744073709551616 = k' := ⟨_, rfl⟩
          rw [hs, hk'] at hAdd
          have hAdd0 : ∀ u, (callFunc 51 #[.int .u64 (p : Int), .int .u64 0, .int .u64 (k : Int)]).run Try.prog u = .ok (.value (.tuple #[.int .u64 (s : Int), .int .u64 (k' : Int)])) u := hAdd
          have hsB : s < 18446744073709551616 := by omega
          have hk1 : k' ≤ 1 := by omega
          have HN := show Hid (Wrote w (wr.setCell ⟨g, o + j, none⟩ (.int .u64 (s : Int))) g L (L'.set (o + j) s) o (j + 1) ∧ pv (L'.set (o + j) s) o (j + 1) + k' * 18446744073709551616 ^ (j + 1) = pv L o (j + 1) + numW V) from by
            refine ⟨hW.out.next hp hsB, ?_⟩
            rw [pv_put hp, pv_succ hp0, Nat.pow_succ]
            have := acc_step (x := 0) (p := p) (p' := s) (c' := k') hE.out (by omega)
            rw [Nat.mul_zero, Nat.add_zero] at this
            exact this
          clear hs hk' hp hp0 hE hW hpB hAdd
          go_wp2_with fail
          go_roundw
          case rel => exact ⟨j + 1, k', L'.set (o + j) s, by omega, hk1, by go_num, rfl, HN.out.1, HN.out.2⟩
          case measure => simp [intOf]; omega
        · have hjn2 : ¬ (j : Int) < (n : Int) := by omega
          obtain rfl : j = n := by omega
          go_wp2_with fail
          go_end0
          exact ⟨rfl, L', hW.out, k, hk, hE.out⟩
end Go.Proofs.Ythfgbcpppamboaa
