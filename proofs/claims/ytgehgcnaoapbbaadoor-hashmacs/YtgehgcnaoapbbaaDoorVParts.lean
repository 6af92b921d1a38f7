/-
  The document's parts and shift, rot and low.
-/
import Derived.Test.YtgehgcnaoapbbaaDoorUGen
import Derived.Test.YtgehgcnaoapbbaaDoorKPlain
namespace Go.Proofs.YtgehgcnaoapbbaaDoor
open Go.RowKit Ch
set_option maxRecDepth 100000

def R64 : KR := ⟨.u64, 49, 69, 8, Tryd.underlying69, by kernel_rfl, by decide⟩
/-- Divided by 65536 so many times. -/
def dv (n : Nat) : Nat → Nat
  | 0 => n
  | i + 1 => dv n i / 65536
def partsN (n i : Nat) : List Nat := (List.range i).map fun j => dv n j % 65536
theorem partsN_succ (n i : Nat) : partsN n (i + 1) = partsN n i ++ [dv n i % 65536] := by simp [partsN, List.range_succ]
theorem dv_lt {n : Nat} (h : n < 18446744073709551616) : ∀ i, dv n i < 18446744073709551616
  | 0 => h
  | i + 1 => Nat.lt_of_le_of_lt (Nat.div_le_self _ _) (dv_lt h i)
set_option maxHeartbeats 2000000 in
theorem vParts_any (n : Nat) (w : World) (hn : n < 18446744073709551616) :
    Calls Tryd.prog 44 #[.int .u64 (n : Int)] w fun e w' => (∃ v, e = .returned v ∧ w'.ownsRow w.heap.size 49 1 v (partsN n 4).length (kc .u64 (partsN n 4))) ∧ Below w.heap.size w w' := by
  go_enter Tryd.func44, Tryd.ntmps44
  go_wp2_with fail
  go_loopw [0, 3, 4] (fun u v t wr => ∃ i : Nat, i ≤ 4 ∧ t = .int .i64 (i : Int) ∧ u = .int .u64 (dv n i : Int) ∧ wr.ownsRow w.heap.size 49 1 v (partsN n i).length (kc .u64 (partsN n i)) ∧ Below w.heap.size w wr) (fun _ _ t _ => 4 - (intOf t).toNat)
  case atStart => exact ⟨0, by omega, rfl, rfl, own_nil _ _ _, Below.refl _ _⟩
  case round =>
    obtain ⟨i, hi, rfl, rfl, hown, hb⟩ := hrel
    by_cases hlt : i < 4
    · have hlt2 : (i : Int) < 4 := by omega
      have hN := dv_lt hn i
      have hpl : (partsN n i).length ≤ 1000000 := by simp [partsN]; omega
      have hs := partsN_succ n i
      have hq : dv n (i + 1) = dv n i / 65536 := rfl
      obtain ⟨N, hNe⟩ : ∃ N, dv n i = N := ⟨_, rfl⟩
      rw [hNe] at hN hs hq ⊢
      obtain ⟨m, hm⟩ : ∃ m, N % 65536 = m := ⟨_, rfl⟩
      obtain ⟨q, hqe⟩ : ∃ q, N / 65536 = q := ⟨_, rfl⟩
      have e1 : (N : Int).tmod 65536 = (m : Int) := by rw [← hm, Int.tmod_eq_emod_of_nonneg (by omega)]; omega
      have e2 : (N : Int).tdiv 65536 = (q : Int) := by rw [← hqe, Int.tdiv_eq_ediv_of_nonneg (by omega)]; omega
      have hq64 : q < 18446744073709551616 := by omega
      have hm64 : m < 65536 := by omega
      rw [hm] at hs
      have HA : Hid (partsN n i ++ [m] = partsN n (i + 1)) := hs.symm
      have HQ : Hid (q = dv n (i + 1)) := by unfold Hid; rw [hq, hqe]
      have hbz := hb.size
      clear hs hq hNe hm hqe
      go_wp2_with (at_builtin; go_must (refine wpList_append_n R64 rfl _ _ rfl w.heap.size _ _ rfl hown _ rfl m rfl _ HA hpl hbz hb ?_; intro v2 w2 ho2 hb2))
      go_roundw
      case rel => exact ⟨i + 1, by omega, by go_num, by rw [HQ.out], ho2, hb2⟩
      case measure => simp [intOf]; omega
    · have hlt2 : ¬ (i : Int) < 4 := by omega
      obtain rfl : i = 4 := by omega
      go_wp2_with fail
      go_ret
      exact ⟨⟨_, rfl, hown⟩, hb⟩
end Go.Proofs.YtgehgcnaoapbbaaDoor
