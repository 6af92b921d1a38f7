/-
  The reference's num and word: bits of a number, of a code.
-/
import Derived.Test.YtbhnlomppobbkaaJInt
namespace Go.Proofs.Ytbhnlomppobbkaa
open Go.RowKit Ch
set_option maxRecDepth 100000

set_option maxHeartbeats 1000000 in
theorem jNum_any (base : Nat) (v : Value) (acc : List Nat) (x k : Nat) (w : World) (hown : w.ownsRow base 3 1 v acc.length (intCells acc)) (hbase : base ≤ w.heap.size) (ha : acc.length ≤ 100000) (hk : k ≤ 64) (hx : x ≤ 9223372036854775807) :
    Calls Try.prog 27 #[v, .int .i64 (x : Int), .int .i64 (k : Int)] w fun e w' => (∃ v' L', e = .returned v' ∧ Hid (acc ++ natBits (numBits x k) = L') ∧ w'.ownsRow base 3 1 v' L'.length (intCells L')) ∧ Below base w w' := by
  go_enter Try.func27, Try.ntmps27
  go_wp2_with fail
  go_loopw [0, 1, 7] (fun u y t wr => ∃ (j n : Nat) (L : List Nat), j ≤ k ∧ t = .int .i64 (j : Int) ∧ y = .int .i64 (n : Int) ∧ Hid (n = x / 2 ^ j) ∧ n ≤ 9223372036854775807 ∧ Hid (acc ++ natBits (numBits x j) = L) ∧ L.length ≤ acc.length + j ∧ wr.ownsRow base 3 1 u L.length (intCells L) ∧ Below base w wr) (fun _ _ t _ => k - (intOf t).toNat)
  case atStart => exact ⟨0, x, acc, Nat.zero_le _, rfl, rfl, by unfold Hid; simp, hx, by unfold Hid; simp [natBits, numBits], by omega, hown, Below.refl _ _⟩
  case round =>
    obtain ⟨j, n, L, hj, rfl, rfl, hn, hn2, hL, hLl, ho, hb⟩ := hrel
    clear hown
    by_cases hlt : j < k
    · have hlt2 : (j : Int) < (k : Int) := by omega
      have hbw := Nat.le_trans hbase hb.size
      have hbit : Hid ((n : Int) % 2 = ((x.testBit j).toNat : Int)) := by
        unfold Hid
        have := bit_of x j
        rw [← hn.out] at this
        omega
      have hnext : Hid (n / 2 = x / 2 ^ (j + 1)) := by unfold Hid; rw [hn.out, div_step]
      have he : Hid (L ++ [(x.testBit j).toNat] = acc ++ natBits (numBits x (j + 1))) := by
        unfold Hid
        rw [← hL.out, numBits_succ, natBits_append, List.append_assoc]
        rfl
      have hl2 : Hid ((acc ++ natBits (numBits x (j + 1))).length ≤ acc.length + (j + 1)) := by unfold Hid; rw [List.length_append, natBits_length, numBits_length]; omega
      generalize acc ++ natBits (numBits x (j + 1)) = L2 at *
      have hL2 : Hid (acc ++ natBits (numBits x (j + 1)) = L2) := by
        unfold Hid
        rw [← he.out, ← hL.out, numBits_succ, natBits_append, List.append_assoc]
        rfl
      obtain ⟨m, hm⟩ : ∃ m, n / 2 = m := ⟨_, rfl⟩
      have hm2 : (n : Int) / 2 = (m : Int) := by omega
      have hm3 : m ≤ 9223372036854775807 := by omega
      have HM : Hid (m = x / 2 ^ (j + 1)) := by unfold Hid; rw [← hm]; exact hnext.out
      clear hm hnext hL hn
      go_wp2_with (at_builtin; go_must (refine wpList_append_int rfl _ _ rfl base _ L rfl ho _ rfl _ hbit L2 he (by omega) hbw hb ?_; intro v2 w2 ho2 hb2))
      go_roundw
      case rel => exact ⟨j + 1, m, L2, by omega, by go_num, rfl, HM, hm3, hL2, hl2.out, ho2, hb2⟩
      case measure => simp [intOf]; omega
    · obtain rfl : j = k := by omega
      have hlt2 : ¬ (j : Int) < (j : Int) := by omega
      go_wp2_with fail
      go_ret
      exact ⟨⟨_, rfl, L, hL, ho⟩, hb⟩
set_option maxHeartbeats 1000000 in
theorem jWord_any (base : Nat) (v : Value) (acc : List Nat) (x k : Nat) (w : World) (hown : w.ownsRow base 3 1 v acc.length (intCells acc)) (hbase : base ≤ w.heap.size) (ha : acc.length ≤ 100000) (hk : k ≤ 64) (hx : x ≤ 9223372036854775807) :
    Calls Try.prog 25 #[v, .agg #[.int .i64 (x : Int), .int .i64 (k : Int)]] w fun e w' => (∃ v' L', e = .returned v' ∧ Hid (acc ++ natBits (codeBits x k) = L') ∧ w'.ownsRow base 3 1 v' L'.length (intCells L')) ∧ Below base w w' := by
  go_enter Try.func25, Try.ntmps25
  go_wp2_with fail
  have hb0 : Below w.heap.size w (w.alloc (.cells #[.int .i64 (x : Int), .int .i64 (k : Int)] 53)) := (Below.refl _ w).alloc (Nat.le_refl _) _
  have hN := heap_push_at w (.cells #[.int .i64 (x : Int), .int .i64 (k : Int)] 53)
  have hsz : (w.alloc (.cells #[.int .i64 (x : Int), .int .i64 (k : Int)] 53)).heap.size = w.heap.size + 1 := by simp
  have hown0 := ownsRow_later hown hb0
  generalize w.alloc (.cells #[.int .i64 (x : Int), .int .i64 (k : Int)] 53) = W0 at *
  have HSZ : Hid (W0.heap.size = w.heap.size + 1) := hsz
  have HN : Hid (W0.heap[w.heap.size]? = some (.cells #[.int .i64 (x : Int), .int .i64 (k : Int)] 53 (0, 0))) := hN
  have HO : Hid (W0.ownsRow base 3 1 v acc.length (intCells acc)) := hown0
  clear hown hsz hN hown0
  go_loopw [5, 6, 7] (fun u y t wr => ∃ (j n : Nat) (L : List Nat), j ≤ k ∧ t = .int .i64 (j : Int) ∧ y = .int .i64 (n : Int) ∧ Hid (n = x / 2 ^ j) ∧ n ≤ 9223372036854775807 ∧ Hid (natBits (codeBits x j) = L) ∧ L.length ≤ j ∧ wr.ownsRow (w.heap.size + 1) 3 1 u L.length (intCells L) ∧ Below (w.heap.size + 1) W0 wr) (fun _ _ t _ => k - (intOf t).toNat)
  case atStart => exact ⟨0, x, [], Nat.zero_le _, rfl, rfl, by unfold Hid; simp, hx, rfl, by simp, World.ownsRow_nil _ _ _ _, Below.refl _ _⟩
  case round =>
    obtain ⟨j, n, L, hj, rfl, rfl, hn, hn2, hL, hLl, ho, hb⟩ := hrel
    have hbk := (hb.block w.heap.size (Nat.lt_succ_self _)).trans HN.out
    have g0 := block_cell 0 hbk rfl
    have g1 := block_cell 1 hbk rfl
    have hbw : w.heap.size + 1 ≤ wr.heap.size := by have := hb.size; have := HSZ.out; omega
    clear hbk
    by_cases hlt : j < k
    · have hlt2 : (j : Int) < (k : Int) := by omega
      have hbit : Hid ((n : Int) % 2 = ((x.testBit j).toNat : Int)) := by
        unfold Hid
        have := bit_of x j
        rw [← hn.out] at this
        omega
      have hnext : Hid (n / 2 = x / 2 ^ (j + 1)) := by unfold Hid; rw [hn.out, div_step]
      have he : Hid ([(x.testBit j).toNat] ++ L = natBits (codeBits x (j + 1))) := by
        unfold Hid
        rw [← hL.out, codeBits_succ]
        rfl
      have hl2 : Hid ((natBits (codeBits x (j + 1))).length ≤ j + 1) := by unfold Hid; rw [natBits_length, codeBits_length]; omega
      generalize hq : natBits (codeBits x (j + 1)) = L2 at *
      have hL2 : Hid (natBits (codeBits x (j + 1)) = L2) := hq
      obtain ⟨m, hm⟩ : ∃ m, n / 2 = m := ⟨_, rfl⟩
      have hm2 : (n : Int) / 2 = (m : Int) := by omega
      have hm3 : m ≤ 9223372036854775807 := by omega
      have HM : Hid (m = x / 2 ^ (j + 1)) := by unfold Hid; rw [← hm]; exact hnext.out
      have hnew : (wr.alloc (.cells #[.int .i64 ((n : Int) % 2)] 3)).ownsRow (w.heap.size + 1) 3 1 (.slice (some ⟨wr.heap.size, 0, none⟩) 1 1) [(x.testBit j).toNat].length (intCells [(x.testBit j).toNat]) := by
        refine ⟨by simp [intCells], .inr ⟨wr.heap.size, 1, #[.int .i64 ((n : Int) % 2)], rfl, by omega, heap_push_at _ _, by simp, by unfold maxLen; omega, by simp, ?_⟩⟩
        simp [intCells, hbit.out]
      have hw2 : w.heap.size + 1 ≤ (wr.alloc (.cells #[.int .i64 ((n : Int) % 2)] 3)).heap.size := by simp; omega
      have ho' := ho.alloc (.cells #[.int .i64 ((n : Int) % 2)] 3)
      clear hm hnext hL hn hq
      go_wp2_with (at_builtin; go_must (refine wpList_append_ints rfl _ _ rfl (w.heap.size + 1) _ _ rfl hnew (w.heap.size + 1) _ L rfl ho' L2 he (by simp; omega) hw2 ?_; intro v2 w2 ho2 hb2))
      go_roundw
      case rel => exact ⟨j + 1, m, L2, by omega, by go_num, rfl, HM, hm3, hL2, hl2.out, ho2, (hb.alloc hbw _).trans hb2⟩
      case measure => simp [intOf]; omega
    · obtain rfl : j = k := by omega
      have hlt2 : ¬ (j : Int) < (j : Int) := by omega
      have hoA : wr.ownsRow base 3 1 v acc.length (intCells acc) := ownsRow_later HO.out (by rw [HSZ.out]; exact hb)
      have hbb : Below base w wr := (hb0.mono hbase).trans (hb.mono (by omega))
      have hbw2 : base ≤ wr.heap.size := by omega
      have he : Hid (acc ++ L = acc ++ natBits (codeBits x j)) := by unfold Hid; rw [hL.out]
      generalize hq : acc ++ natBits (codeBits x j) = L2 at *
      have hL2 : Hid (acc ++ natBits (codeBits x j) = L2) := hq
      clear hq
      go_wp2_with (at_builtin; go_must (refine wpList_append_ints rfl _ _ rfl base _ acc rfl hoA (w.heap.size + 1) _ L rfl ho L2 he (by omega) hbw2 ?_; intro v2 w2 ho2 hb2))
      go_ret
      exact ⟨⟨_, rfl, L2, hL2, ho2⟩, hbb.trans hb2⟩
end Go.Proofs.Ytbhnlomppobbkaa
