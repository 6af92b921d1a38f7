/-
  math/bits.Add64 and Sub64, as the model has them.
  Package nat: words added to a piece of a row.
  CONTRACTS OF THE LIBRARY AT THIS PROGRAM: each is one application of a theorem of the kit (laid by its own tools, in plain words).
  Package nat: words taken from a piece of a row, so many times.
-/
import Derived.Test.YtpcmpeeflnlkpaaDoorUTwoEtc
import Derived.Shelf.Spec.BitsCarry
import Derived.Test.YtpcmpeeflnlkpaaDoorHFreeZEtc
import Derived.Shelf.Small.Bits
import Derived.Shelf.Strconv.Itoa0
import Derived.Shelf.Bits.Mul64
import Derived.Ground.Names2Prog
import Derived.Shelf.Slices.SearchI
import Derived.Test.YtpcmpeeflnlkpaaDoorProg
namespace Go.Proofs.YtpcmpeeflnlkpaaDoor
open Go.RowKit Ch
set_option maxRecDepth 100000

theorem add64_run (x y c : Nat) (hx : x < 18446744073709551616) (hy : y < 18446744073709551616) (hc : c ≤ 1) (w : World) :
    (callFunc 61 #[.int .u64 (x : Int), .int .u64 (y : Int), .int .u64 (c : Int)]).run Tryd.prog w = .ok (.value (.tuple #[.int .u64 (((x + y + c) % 18446744073709551616 : Nat) : Int), .int .u64 (((x + y + c) / 18446744073709551616 : Nat) : Int)])) w := by
  rw [run_callFunc_extern Tryd.func61 (by kernel_rfl) (by kernel_rfl) (by kernel_rfl) (e := add64Entry) (by kernel_rfl), run_add64 x y c (by omega) (by omega) (by omega) (by omega)]
  simp only [Result.andThen]
  congr 5 <;> omega
theorem sub64_run (x y b : Nat) (hb : b ≤ 1) (w : World) :
    (callFunc 82 #[.int .u64 (x : Int), .int .u64 (y : Int), .int .u64 (b : Int)]).run Tryd.prog w = .ok (.value (.tuple #[.int .u64 (((x + 18446744073709551616 - y - b) % 18446744073709551616 : Nat) : Int), .int .u64 ((if x < y + b then 1 else 0 : Nat) : Int)])) w := by
  rw [run_callFunc_extern Tryd.func82 (by kernel_rfl) (by kernel_rfl) (by kernel_rfl) (e := sub64Entry) (by kernel_rfl), run_sub64 x y b hb]
  rfl
end Go.Proofs.YtpcmpeeflnlkpaaDoor

namespace Go.Proofs.YtpcmpeeflnlkpaaDoor
open Go.RowKit Ch
set_option maxRecDepth 100000

/-- The row at g was L and is L'; beyond the n words from o nothing has changed. -/
def Wrote (w w' : World) (g : Nat) (L L' : List Nat) (o n : Nat) : Prop := RowN .u64 w' g L' ∧ AllW L' ∧ L'.length = L.length ∧ (∀ i, (i < o ∨ o + n ≤ i) → L'[i]? = L[i]?) ∧ w.grownBy w' (some g)
theorem Wrote.start {w : World} {g : Nat} {L : List Nat} (h : RowN .u64 w g L) (hA : AllW L) (o : Nat) : Wrote w w g L L o 0 := ⟨h, hA, rfl, fun _ _ => rfl, grown_refl _ _⟩
theorem Wrote.cell {w w' : World} {g : Nat} {L L' : List Nat} {o n i p : Nat} (h : Wrote w w' g L L' o n) (hp : L'[i]? = some p) : w'.cell? ⟨g, i, none⟩ = some (.int .u64 (p : Int)) ∧ w'.frozen? ⟨g, i, none⟩ = false ∧ p < 18446744073709551616 := ⟨h.1.cell hp, h.1.free i, h.2.1.at hp⟩
theorem Wrote.next {w w' : World} {g : Nat} {L L' : List Nat} {o n p : Nat} (h : Wrote w w' g L L' o n) (hp : L'[o + n]? = some p) {s : Nat} (hs : s < 18446744073709551616) : Wrote w (w'.setCell ⟨g, o + n, none⟩ (.int .u64 (s : Int))) g L (L'.set (o + n) s) o (n + 1) := by
  refine ⟨h.1.set hp s, h.2.1.set _ hs, by rw [List.length_set]; exact h.2.2.1, fun i hi => ?_, grown_trans h.2.2.2.2 (grown_cell _ _ _)⟩
  rw [List.getElem?_set_ne (by omega)]
  exact h.2.2.2.1 i (by omega)
theorem Wrote.more {w w' : World} {g : Nat} {L L' : List Nat} {o n m : Nat} (h : Wrote w w' g L L' o n) (hm : n ≤ m) : Wrote w w' g L L' o m := ⟨h.1, h.2.1, h.2.2.1, fun i hi => h.2.2.2.1 i (by omega), h.2.2.2.2⟩
set_option maxHeartbeats 2000000 in
theorem nAddTo_any (g o n c cv : Nat) (yv : Option Addr) (V L : List Nat) (w : World) (hR : RowN .u64 w g L) (hA : AllW L) (hon : o + n ≤ L.length) (hVn : V.length ≤ n) (hn : n ≤ 100000) (hAV : AllW V) (hv : ∀ u, w.grownBy u (some g) → IsN .u64 u (.slice yv V.length cv) V) :
    Calls Tryd.prog 68 #[.slice (some ⟨g, o, none⟩) n c, .slice yv V.length cv] w fun e w' => e = .returned (.tuple #[]) ∧ ∃ L', Wrote w w' g L L' o n ∧ ∃ k, k ≤ 1 ∧ pv L' o n + k * 18446744073709551616 ^ n = pv L o n + numW V := by
  have HW0 := show Hid (Wrote w w g L L o 0) from Wrote.start hR hA o
  obtain ⟨m, hm⟩ : ∃ m, V.length = m := ⟨_, rfl⟩
  have HV := show Hid (∀ u, w.grownBy u (some g) → IsN .u64 u (.slice yv m cv) V) from by unfold Hid; rw [← hm]; exact hv
  have HM := show Hid (V.length = m) from hm
  rw [hm] at hVn ⊢
  clear hR hv hm
  go_enter Tryd.func68, Tryd.ntmps68
  go_wp2_with fail
  go_loopw [10, 4] (fun p q wr => ∃ (i k : Nat) (L' : List Nat), i ≤ m ∧ k ≤ 1 ∧ p = .int .i64 (i : Int) ∧ q = .int .u64 (k : Int) ∧ Hid (Wrote w wr g L L' o i) ∧ Hid (pv L' o i + k * 18446744073709551616 ^ i = pv L o i + numW (V.take i))) (fun p _ _ => m - (intOf p).toNat)
  case atStart => exact ⟨0, 0, L, by omega, by omega, rfl, rfl, HW0.out, by unfold Hid; simp [pv_zero, numW]⟩
  case round =>
    obtain ⟨i, k, L', hi, hk, rfl, rfl, hW, hE⟩ := hrel
    by_cases him : i < m
    · have him2 : (i : Int) < (m : Int) := by omega
      have hin2 : (i : Int) < (n : Int) := by omega
      obtain ⟨x, hx⟩ : ∃ x, V[i]? = some x := ⟨_, List.getElem?_eq_getElem (by rw [HM.out]; exact him)⟩
      obtain ⟨p, hp⟩ : ∃ p, L'[o + i]? = some p := ⟨_, List.getElem?_eq_getElem (by rw [hW.out.2.2.1]; omega)⟩
      have hp0 : L[o + i]? = some p := by rw [← hW.out.2.2.2.1 (o + i) (by omega)]; exact hp
      obtain ⟨hmv, bv, ov, rfl, _, gx⟩ := IsN.cellAt (HV.out wr hW.out.2.2.2.2) hx
      clear hmv
      obtain ⟨gp, gf, hpB⟩ := hW.out.cell hp
      have hxB := hAV.at hx
      have hAdd := add64_run p x k hpB hxB hk
      obtain ⟨s, hs⟩ : ∃ s, (p + x + k) % 18446744073709551616 = s := ⟨_, rfl⟩
      obtain ⟨k', hk'⟩ : ∃ k', (p + x + k) / 18446744073709551616 = k' := ⟨_, rfl⟩
      rw [hs, hk'] at hAdd
      have hsB : s < 18446744073709551616 := by omega
      have hk1 : k' ≤ 1 := by omega
      have HN := show Hid (Wrote w (wr.setCell ⟨g, o + i, none⟩ (.int .u64 (s : Int))) g L (L'.set (o + i) s) o (i + 1) ∧ pv (L'.set (o + i) s) o (i + 1) + k' * 18446744073709551616 ^ (i + 1) = pv L o (i + 1) + numW (V.take (i + 1))) from by
        refine ⟨hW.out.next hp hsB, ?_⟩
        rw [pv_put hp, pv_succ hp0, numW_take hx, Nat.pow_succ]
        exact acc_step hE.out (by omega)
      clear hs hk' hp hp0 hx hE hW hpB hxB
      go_wp2_with fail
      go_roundw
      case rel => exact ⟨i + 1, k', L'.set (o + i) s, by omega, hk1, by go_num, rfl, HN.out.1, HN.out.2⟩
      case measure => simp [intOf]; omega
    · have him2 : ¬ (i : Int) < (m : Int) := by omega
      obtain rfl : i = m := by omega
      have HE := show Hid (pv L' o i + k * 18446744073709551616 ^ i = pv L o i + numW V) from by
        have := hE.out
        rw [List.take_of_length_le (by rw [HM.out]; exact Nat.le_refl _)] at this
        exact this
      clear hE
      go_wp2_with fail
      obtain ⟨w1, hw1⟩ : ∃ w1, w1 = wr := ⟨_, rfl⟩
      subst hw1
      go_loopw [7, 4] (fun p q wr => ∃ (j k : Nat) (L' : List Nat), j ≤ n ∧ k ≤ 1 ∧ p = .int .i64 (j : Int) ∧ q = .int .u64 (k : Int) ∧ Hid (Wrote w wr g L L' o j) ∧ Hid (pv L' o j + k * 18446744073709551616 ^ j = pv L o j + numW V)) (fun p _ _ => n - (intOf p).toNat)
      case atStart => exact ⟨i, k, L', by omega, hk, rfl, rfl, hW.out, HE.out⟩
      case round =>
        obtain ⟨j, k, L', hj, hk, rfl, rfl, hW, hE⟩ := hrel
        by_cases hjn : j < n
        · have hjn2 : (j : Int) < (n : Int) := by omega
          obtain ⟨p, hp⟩ : ∃ p, L'[o + j]? = some p := ⟨_, List.getElem?_eq_getElem (by rw [hW.out.2.2.1]; omega)⟩
          have hp0 : L[o + j]? = some p := by rw [← hW.out.2.2.2.1 (o + j) (by omega)]; exact hp
          obtain ⟨gp, gf, hpB⟩ := hW.out.cell hp
          have hAdd := add64_run p 0 k hpB (by decide) hk
          obtain ⟨s, hs⟩ : ∃ s, (p + 0 + k) % 18446744073709551616 = s := ⟨_, rfl⟩
          obtain ⟨k', hk'⟩ : ∃ k', (p + 0 + k) / 18446744073709551616 = k' := ⟨_, rfl⟩
          rw [hs, hk'] at hAdd
          have hAdd0 : ∀ u, (callFunc 61 #[.int .u64 (p : Int), .int .u64 0, .int .u64 (k : Int)]).run Tryd.prog u = .ok (.value (.tuple #[.int .u64 (s : Int), .int .u64 (k' : Int)])) u := hAdd
          have hsB : s < 18446744073709551616 := by omega
          have hk1 : k' ≤ 1 := by omega
          have HN := show Hid (Wrote w (wr.setCell ⟨g, o + j, none⟩ (.int .u64 (s : Int))) g L (L'.set (o + j) s) o (j + 1) ∧ pv (L'.set (o + j) s) o (j + 1) + k' * 18446744073709551616 ^ (j + 1) = pv L o (j + 1) + numW V) from by
            refine ⟨hW.out.next hp hsB, ?_⟩
            rw [pv_put hp, pv_succ hp0, Nat.pow_succ]
            have := acc_step (x := 0) (p := p) (p' := s) (c' := k') hE.out (by omega)
            rw [Nat.mul_zero, Nat.add_zero] at this
            exact this
          clear hs hk' hp hp0 hE hW hpB hAdd
          go_wp2_with fail
          go_roundw
          case rel => exact ⟨j + 1, k', L'.set (o + j) s, by omega, hk1, by go_num, rfl, HN.out.1, HN.out.2⟩
          case measure => simp [intOf]; omega
        · have hjn2 : ¬ (j : Int) < (n : Int) := by omega
          obtain rfl : j = n := by omega
          go_wp2_with fail
          go_end0
          exact ⟨rfl, L', hW.out, k, hk, hE.out⟩
end Go.Proofs.YtpcmpeeflnlkpaaDoor

namespace Go.Proofs
open Go.Shelf
def Tryd.lays134_ren : Go.Shelf.Ren := ⟨fun | 134 => 64 | 129 => 80 | n => n, fun | 53 => 69 | 3 => 3 | 4 => 4 | 46 => 96 | 5 => 5 | 9 => 9 | n => n, fun | n => n⟩
theorem Tryd.lays134 : Go.Proofs.Lays.n134 Tryd.prog Tryd.lays134_ren := {
  mixed := by kernel_rfl
  f129 := Tryd.func80.trans (congrArg some (by kernel_rfl))
  f134 := Tryd.func64.trans (congrArg some (by kernel_rfl))
  t3 := Tryd.underlying3
  a3 := Tryd.isAgg3
  z3 := Tryd.sizeOf3
  v3 := Tryd.zeroValue3
  t4 := Tryd.underlying4
  a4 := Tryd.isAgg4
  z4 := Tryd.sizeOf4
  v4 := Tryd.zeroValue4
  t5 := Tryd.underlying5
  a5 := Tryd.isAgg5
  z5 := Tryd.sizeOf5
  v5 := Tryd.zeroValue5
  t9 := Tryd.underlying9
  a9 := Tryd.isAgg9
  z9 := Tryd.sizeOf9
  v9 := Tryd.zeroValue9
  t46 := Tryd.underlying96
  a46 := Tryd.isAgg96
  z46 := Tryd.sizeOf96
  v46 := Tryd.zeroValue96
  t53 := Tryd.underlying69
  a53 := Tryd.isAgg69
  z53 := Tryd.sizeOf69
  v53 := Tryd.zeroValue69 }
theorem Tryd.bits_LeadingZeros64 (x : Int) (w : World) (h0 : 0 ≤ x) (h1 : x ≤ 18446744073709551615) :
    Calls Tryd.prog 64 #[.int .u64 x] w fun e w' => e = .returned (.int .i64 (64 - (Lib.bitLen x.toNat : Int))) ∧ w' = w := Any.bits_LeadingZeros64 Tryd.lays134 x w h0 h1
def Tryd.lays264_ren : Go.Shelf.Ren := ⟨fun | 264 => 60 | n => n, fun | 53 => 69 | 46 => 96 | n => n, fun | n => n⟩
theorem Tryd.lays264 : Go.Proofs.Lays.n264 Tryd.prog Tryd.lays264_ren := {
  mixed := by kernel_rfl
  f264 := Tryd.func60.trans (congrArg some (by kernel_rfl))
  t46 := Tryd.underlying96
  a46 := Tryd.isAgg96
  z46 := Tryd.sizeOf96
  v46 := Tryd.zeroValue96
  t53 := Tryd.underlying69
  a53 := Tryd.isAgg69
  z53 := Tryd.sizeOf69
  v53 := Tryd.zeroValue69 }
open Go.RowKit Go.Lib in
theorem Tryd.bits_Mul64 (x y : Nat) (hx : x < 18446744073709551616) (hy : y < 18446744073709551616) (w : World) :
    Calls Tryd.prog 60 #[.int .u64 x, .int .u64 y] w fun e w' => e = .returned (.tuple #[.int .u64 ((x * y / 18446744073709551616 : Nat) : Int), .int .u64 ((x * y % 18446744073709551616 : Nat) : Int)]) ∧ w' = w := Any.bits_Mul64 Tryd.lays264 x y hx hy w
end Go.Proofs

namespace Go.Proofs.YtpcmpeeflnlkpaaDoor
open Go.RowKit Ch
set_option maxRecDepth 100000

/-- What is left where something was taken, and whether it came below nought. -/
def Took (w w' : World) (g : Nat) (L : List Nat) (o n : Nat) (V : List Nat) (t : Nat) (e : Ending) : Prop := ∃ R L' k, e = .returned (.bool R) ∧ (R = true ↔ k ≠ 0) ∧ Wrote w w' g L L' o n ∧ pv L' o n + t * numW V = pv L o n + k * 18446744073709551616 ^ n
theorem took_mk {w w' : World} {g : Nat} {L : List Nat} {o n : Nat} {V : List Nat} {t : Nat} {R : Bool} {L' : List Nat} {k : Nat} (h1 : R = true ↔ k ≠ 0) (h2 : Wrote w w' g L L' o n) (h3 : pv L' o n + t * numW V = pv L o n + k * 18446744073709551616 ^ n) : Took w w' g L o n V t (.returned (.bool R)) := ⟨R, L', k, rfl, h1, h2, h3⟩
set_option maxHeartbeats 4000000 in
theorem nTakeFrom_any (g o n c cv t : Nat) (yv : Option Addr) (V L : List Nat) (w : World) (hR : RowN .u64 w g L) (hA : AllW L) (hon : o + n ≤ L.length) (hVn : V.length ≤ n) (hnc : n ≤ c) (hn : n ≤ 100000) (hAV : AllW V) (ht : t < 18446744073709551616) (hv : ∀ u, w.grownBy u (some g) → IsN .u64 u (.slice yv V.length cv) V) :
    Calls Tryd.prog 67 #[.slice (some ⟨g, o, none⟩) n c, .slice yv V.length cv, .int .u64 (t : Int)] w fun e w' => Took w w' g L o n V t e := by
  have HW0 := show Hid (Wrote w w g L L o 0) from Wrote.start hR hA o
  obtain ⟨m, hm⟩ : ∃ m, V.length = m := ⟨_, rfl⟩
  have HV := show Hid (∀ u, w.grownBy u (some g) → IsN .u64 u (.slice yv m cv) V) from by unfold Hid; rw [← hm]; exact hv
  have HM := show Hid (V.length = m) from hm
  rw [hm] at hVn ⊢
  clear hR hv hm
  have hmc : (m : Int) ≤ (c : Int) := by omega
  have hmc2 : m ≤ c := by omega
  go_enter Tryd.func67, Tryd.ntmps67
  go_wp2_with fail
  go_loopw [21, 7] (fun p q wr => ∃ (i k : Nat) (L' : List Nat), i ≤ m ∧ k < 18446744073709551616 ∧ p = .int .i64 (i : Int) ∧ q = .int .u64 (k : Int) ∧ Hid (Wrote w wr g L L' o i) ∧ Hid (pv L' o i + t * numW (V.take i) = pv L o i + k * 18446744073709551616 ^ i)) (fun p _ _ => m - (intOf p).toNat)
  case atStart => exact ⟨0, 0, L, by omega, by omega, rfl, rfl, HW0.out, by unfold Hid; simp [pv_zero, numW]⟩
  case round =>
    obtain ⟨i, k, L', hi, hk, rfl, rfl, hW, hE⟩ := hrel
    by_cases him : i < m
    · have him2 : (i : Int) < (m : Int) := by omega
      obtain ⟨x, hx⟩ : ∃ x, V[i]? = some x := ⟨_, List.getElem?_eq_getElem (by rw [HM.out]; exact him)⟩
      obtain ⟨p, hp⟩ : ∃ p, L'[o + i]? = some p := ⟨_, List.getElem?_eq_getElem (by rw [hW.out.2.2.1]; omega)⟩
      have hp0 : L[o + i]? = some p := by rw [← hW.out.2.2.2.1 (o + i) (by omega)]; exact hp
      obtain ⟨hmv, bv, ov, rfl, _, gx⟩ := IsN.cellAt (HV.out wr hW.out.2.2.2.2) hx
      clear hmv
      obtain ⟨gp, gf, hpB⟩ := hW.out.cell hp
      have hxB := hAV.at hx
      obtain ⟨p', k', hp'B, hk'B, hpl, hp'e, hk'e⟩ := take_place hxB ht hpB hk
      have hM := Tryd.bits_Mul64 x t hxB ht
      obtain ⟨z, hz⟩ : ∃ z, x * t = z := ⟨_, rfl⟩
      have hzl := mul_lt_word hxB ht
      have HPL := show Hid (p' + t * x + k = p + k' * 18446744073709551616) from hpl
      rw [hz] at hM hp'e hk'e hzl
      clear hz hpl
      obtain ⟨hi64, hhi⟩ : ∃ a, z / 18446744073709551616 = a := ⟨_, rfl⟩
      obtain ⟨lo64, hlo⟩ : ∃ a, z % 18446744073709551616 = a := ⟨_, rfl⟩
      rw [hhi, hlo] at hM hk'e
      rw [hlo] at hp'e
      have hloB : lo64 < 18446744073709551616 := by omega
      have hhiB : hi64 < 18446744073709551615 := by omega
      clear hhi hlo hzl z
      have hA1 := add64_run lo64 k 0 hloB hk (by omega)
      obtain ⟨l1, hl1⟩ : ∃ a, (lo64 + k) % 18446744073709551616 = a := ⟨_, rfl⟩
      obtain ⟨c1, hc1⟩ : ∃ a, (lo64 + k) / 18446744073709551616 = a := ⟨_, rfl⟩
      rw [Nat.add_zero, hl1, hc1] at hA1
      rw [hl1] at hp'e
      rw [hl1, hc1] at hk'e
      have hl1B : l1 < 18446744073709551616 := by omega
      have hc1B : c1 ≤ 1 := by omega
      clear hl1 hc1
      have hA2 := add64_run hi64 0 c1 (by omega) (by omega) hc1B
      have e2 : (hi64 + 0 + c1) % 18446744073709551616 = hi64 + c1 := by omega
      obtain ⟨d2, hd2⟩ : ∃ a, (hi64 + 0 + c1) / 18446744073709551616 = a := ⟨_, rfl⟩
      rw [e2, hd2] at hA2
      clear e2 hd2
      obtain ⟨h2, hh2⟩ : ∃ a, hi64 + c1 = a := ⟨_, rfl⟩
      rw [hh2] at hA2 hk'e
      have hh2B : h2 < 18446744073709551616 := by omega
      clear hh2
      have hS1 := sub64_run p l1 0 (by omega)
      rw [Nat.sub_zero, Nat.add_zero l1] at hS1
      rw [← hp'e] at hS1
      obtain ⟨b1, hb1⟩ : ∃ a, (if p < l1 then 1 else 0) = a := ⟨_, rfl⟩
      rw [hb1] at hS1 hk'e
      have hb1B : b1 ≤ 1 := by rw [← hb1]; split <;> omega
      clear hb1 hp'e
      have hA3 := add64_run h2 0 b1 hh2B (by omega) hb1B
      have e3 : (h2 + 0 + b1) % 18446744073709551616 = k' := by omega
      obtain ⟨d3, hd3⟩ : ∃ a, (h2 + 0 + b1) / 18446744073709551616 = a := ⟨_, rfl⟩
      rw [e3, hd3] at hA3
      clear e3 hd3 hk'e
      have HN := show Hid (Wrote w (wr.setCell ⟨g, o + i, none⟩ (.int .u64 (p' : Int))) g L (L'.set (o + i) p') o (i + 1) ∧ pv (L'.set (o + i) p') o (i + 1) + t * numW (V.take (i + 1)) = pv L o (i + 1) + k' * 18446744073709551616 ^ (i + 1)) from by
        refine ⟨hW.out.next hp hp'B, ?_⟩
        rw [pv_put hp, pv_succ hp0, numW_take hx, Nat.pow_succ]
        exact sub_step hE.out HPL.out
      clear hp hp0 hx hE hW hpB hxB HPL
      have hA1' : ∀ u, (callFunc 61 #[.int .u64 (lo64 : Int), .int .u64 (k : Int), .int .u64 0]).run Tryd.prog u = .ok (.value (.tuple #[.int .u64 (l1 : Int), .int .u64 (c1 : Int)])) u := hA1
      have hA2' : ∀ u, (callFunc 61 #[.int .u64 (hi64 : Int), .int .u64 0, .int .u64 (c1 : Int)]).run Tryd.prog u = .ok (.value (.tuple #[.int .u64 (h2 : Int), .int .u64 (d2 : Int)])) u := hA2
      have hA3' : ∀ u, (callFunc 61 #[.int .u64 (h2 : Int), .int .u64 0, .int .u64 (b1 : Int)]).run Tryd.prog u = .ok (.value (.tuple #[.int .u64 (k' : Int), .int .u64 (d3 : Int)])) u := hA3
      have hS1' : ∀ u, (callFunc 82 #[.int .u64 (p : Int), .int .u64 (l1 : Int), .int .u64 0]).run Tryd.prog u = .ok (.value (.tuple #[.int .u64 (p' : Int), .int .u64 (b1 : Int)])) u := hS1
      clear hA1 hA2 hA3 hS1
      go_wp2_with fail
      refine (hM _).mono ?_
      rintro e w5 ⟨rfl, rfl⟩
      clear hM
      go_wp2_with fail
      go_roundw
      case rel => exact ⟨i + 1, k', L'.set (o + i) p', by omega, hk'B, by go_num, rfl, HN.out.1, HN.out.2⟩
      case measure => simp [intOf]; omega
    · have him2 : ¬ (i : Int) < (m : Int) := by omega
      obtain rfl : i = m := by omega
      have HE := show Hid (pv L' o i + t * numW V = pv L o i + k * 18446744073709551616 ^ i) from by
        have := hE.out
        rw [List.take_of_length_le (by rw [HM.out]; exact Nat.le_refl _)] at this
        exact this
      clear hE
      go_wp2_with fail
      obtain ⟨w1, hw1⟩ : ∃ w1, w1 = wr := ⟨_, rfl⟩
      subst hw1
      go_loopw [14, 7] (fun p q wr => ∃ (j k : Nat) (L' : List Nat), j ≤ n ∧ k < 18446744073709551616 ∧ p = .int .i64 (j : Int) ∧ q = .int .u64 (k : Int) ∧ Hid (Wrote w wr g L L' o j) ∧ Hid (pv L' o j + t * numW V = pv L o j + k * 18446744073709551616 ^ j)) (fun p _ _ => n - (intOf p).toNat)
      case atStart => exact ⟨i, k, L', by omega, hk, rfl, rfl, hW.out, HE.out⟩
      case round =>
        obtain ⟨j, k, L', hj, hk, rfl, rfl, hW, hE⟩ := hrel
        by_cases hjn : j < n
        · have hjn2 : (j : Int) < (n : Int) := by omega
          obtain ⟨p, hp⟩ : ∃ p, L'[o + j]? = some p := ⟨_, List.getElem?_eq_getElem (by rw [hW.out.2.2.1]; omega)⟩
          have hp0 : L[o + j]? = some p := by rw [← hW.out.2.2.2.1 (o + j) (by omega)]; exact hp
          obtain ⟨gp, gf, hpB⟩ := hW.out.cell hp
          obtain ⟨p', k', hp'B, hk'B, hpl, hp'e, hk'e⟩ := take_end hpB hk
          have hS1 := sub64_run p k 0 (by omega)
          rw [Nat.sub_zero, Nat.add_zero k, ← hp'e, ← hk'e] at hS1
          have hS1' : ∀ u, (callFunc 82 #[.int .u64 (p : Int), .int .u64 (k : Int), .int .u64 0]).run Tryd.prog u = .ok (.value (.tuple #[.int .u64 (p' : Int), .int .u64 (k' : Int)])) u := hS1
          have HN := show Hid (Wrote w (wr.setCell ⟨g, o + j, none⟩ (.int .u64 (p' : Int))) g L (L'.set (o + j) p') o (j + 1) ∧ pv (L'.set (o + j) p') o (j + 1) + t * numW V = pv L o (j + 1) + k' * 18446744073709551616 ^ (j + 1)) from by
            refine ⟨hW.out.next hp hp'B, ?_⟩
            rw [pv_put hp, pv_succ hp0, Nat.pow_succ]
            have := sub_step (x := 0) (t := t) (p := p) (p' := p') (c' := k') hE.out (by omega)
            rw [Nat.mul_zero, Nat.add_zero] at this
            exact this
          clear hp hp0 hE hW hpB hS1 hp'e hk'e hpl
          go_wp2_with fail
          go_roundw
          case rel => exact ⟨j + 1, k', L'.set (o + j) p', by omega, hk'B, by go_num, rfl, HN.out.1, HN.out.2⟩
          case measure => simp [intOf]; omega
        · have hjn2 : ¬ (j : Int) < (n : Int) := by omega
          obtain rfl : j = n := by omega
          by_cases hk0 : k = 0
          · subst hk0
            go_wp2_with fail
            go_ret
            exact took_mk (k := 0) (by simp) hW.out hE.out
          · have hk2 : ((k : Int) != 0) = true := by simp; omega
            go_wp2_with fail
            go_ret
            exact took_mk (k := k) (by simp [hk0]) hW.out hE.out
end Go.Proofs.YtpcmpeeflnlkpaaDoor
