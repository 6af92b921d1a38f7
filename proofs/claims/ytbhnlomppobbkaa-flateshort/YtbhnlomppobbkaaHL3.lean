/-
  FlateRuns, walked.
-/
import Derived.Test.YtbhnlomppobbkaaHL2
namespace Go.Proofs.Ytbhnlomppobbkaa
open Go.RowKit Ch
set_option maxRecDepth 100000

/-- A piece, so many times. -/
def repL (l : List UInt8) (j : Nat) : List UInt8 := (List.replicate j l).flatten
theorem repL_front (l : List UInt8) (j : Nat) : repL l (j + 1) = l ++ repL l j := by simp [repL, List.replicate_succ]
theorem repL_back (l : List UInt8) (j : Nat) : repL l (j + 1) = repL l j ++ l := by simp [repL, List.replicate_succ']
theorem repL_length (l : List UInt8) (j : Nat) : (repL l j).length = j * l.length := by
  induction j with
  | zero => simp [repL]
  | succ j ih => rw [repL_back, List.length_append, ih, Nat.succ_mul]
theorem repL_run (l : List UInt8) (k i : Nat) (h1 : l.length ≤ i) (h2 : i < (repL l k).length) : (repL l k)[i]? = (repL l k)[i - l.length]? := by
  cases k with
  | zero => simp [repL] at h2
  | succ k =>
    have hl := repL_length l k
    have e1 : (repL l (k + 1))[i]? = (repL l k)[i - l.length]? := by rw [repL_front, List.getElem?_append_right h1]
    rw [repL_length, Nat.succ_mul] at h2
    have e2 : (repL l (k + 1))[i - l.length]? = (repL l k)[i - l.length]? := by rw [repL_back, List.getElem?_append_left (by omega)]
    rw [e1, e2]
def repB (s : ByteArray) (j : Nat) : ByteArray := ⟨(repL s.data.toList j).toArray⟩
theorem repB_list (s : ByteArray) (j : Nat) : (repB s j).data.toList = repL s.data.toList j := List.toList_toArray
theorem repB_size (s : ByteArray) (j : Nat) : (repB s j).size = j * s.size := by rw [← len_eq, repB_list, repL_length, len_eq]
theorem repB_cat (s : ByteArray) (j : Nat) : cat (repB s j) s = repB s (j + 1) := by
  apply ByteArray.ext
  apply Array.toList_inj.1
  rw [repB_list, repL_back, ← repB_list]
  simp [cat]
theorem repB_run (s : ByteArray) (k i : Nat) (h1 : s.size ≤ i) (h2 : i < (repB s k).size) : byte (repB s k) i = byte (repB s k) (i - s.size) := by
  rw [byte_list, byte_list, repB_list, repL_run _ _ _ (by rw [len_eq]; exact h1) (by rw [← repB_list, len_eq]; exact h2), len_eq]
theorem rem_400 (n : Int) : ∃ k : Nat, k < 400 ∧ (wrap64 (n.tmod 400 + 400)).tmod 400 = (k : Int) := by
  obtain ⟨k, h1, h2⟩ := rem_any n 400 (by omega) (by omega)
  exact ⟨k, h1, h2⟩
set_option maxHeartbeats 2000000 in
theorem lFlRuns_any (x : Option Addr) (cap : Nat) (s : ByteArray) (c : Int) (w : World) (hB : IsBytes w (.slice x s.size cap) s) :
    Calls Try.prog 7 #[.slice x s.size cap, .int .i64 c] w fun e w' => e = .returned (.bool true) ∧ Below w.heap.size w w' := by
  by_cases hs : 1 ≤ s.size ∧ s.size ≤ 40
  · have hs0 : ¬ (s.size : Int) < 1 := by omega
    have hs1 : ¬ (40 : Int) < (s.size : Int) := by omega
    have hd0 : decide ((s.size : Int) < 1) = false := decide_eq_false hs0
    have hd1 : decide ((40 : Int) < (s.size : Int)) = false := decide_eq_false hs1
    obtain ⟨k0, hk0, ek0⟩ := rem_400 c
    obtain ⟨k, hk⟩ : ∃ k, 40 + k0 = k := ⟨_, rfl⟩
    have ek : (40 : Int) + (k0 : Int) = (k : Int) := by omega
    obtain ⟨i0, hi, hz0, hz1, hz2⟩ := info5
    go_enter Try.func7, Try.ntmps7
    go_wp2_with fail
    refine (flAwake_any w).mono ?_
    rintro e w1 ⟨rfl, hb1⟩
    have HB := show Hid (IsBytes w1 (.slice x s.size cap) s) from hB.later hb1
    have HK : Hid (k < 440 ∧ 1 ≤ s.size ∧ s.size ≤ 40 ∧ 40 ≤ k) := by unfold Hid; omega
    clear hB hs
    go_wp2_with fail
    clear ek0 ek hk0 hk
    go_loopw [6, 7] (fun u t wr => ∃ j : Nat, j ≤ k ∧ t = .int .i64 (j : Int) ∧ wr.ownsRow w1.heap.size 5 1 u (repB s j).size (byteVals (repB s j)) ∧ Below w1.heap.size w1 wr) (fun _ t _ => k - (intOf t).toNat)
    case atStart => exact ⟨0, Nat.zero_le _, rfl, World.ownsRow_nil _ _ _ _, Below.refl _ _⟩
    case round =>
      obtain ⟨j, hj, rfl, hown, hb⟩ := hrel
      by_cases hlt : j < k
      · have hlt2 : (j : Int) < (k : Int) := by omega
        have hsz : (repB s j).size + s.size ≤ 100000 := by
          have := HK.out
          rw [repB_size, ← Nat.succ_mul]
          have h1 : j.succ * s.size ≤ 440 * 40 := Nat.mul_le_mul (by omega) (by omega)
          omega
        have hsw := hb.size
        have hj4 : j < 440 := by have := HK.out; omega
        go_wp2_with (at_builtin; go_must (refine wpList_append_bytes rfl _ _ rfl w1.heap.size _ (repB s j) rfl hown _ s rfl (HB.out.later hb) (by omega) hsw ?_; intro v2 w2 ho2 hb2))
        rw [repB_cat] at ho2
        go_roundw
        case rel => exact ⟨j + 1, by omega, by go_num, ho2, hb.trans hb2⟩
        case measure => simp [intOf]; omega
      · obtain rfl : j = k := by omega
        have hlt2 : ¬ (j : Int) < (j : Int) := by omega
        obtain ⟨a, cc, rfl⟩ := own_shape hown
        have hIB := own_bytes hown
        have hlen : (repB s j).size ≤ 20000 := by
          have := HK.out
          rw [repB_size]
          have h1 : j * s.size ≤ 440 * 40 := Nat.mul_le_mul (by omega) (by omega)
          omega
        have hsh := run_short (byte (repB s j)) (repB s j).size s.size (by omega) (by omega) (by
          have := HK.out
          rw [repB_size]
          exact Nat.le_mul_of_pos_left _ (by omega)) (fun i h1 h2 => repB_run s j i h1 h2)
        have hI := defl_infl noOwn (repB s j) [] (repB s j).size
        rw [List.append_nil, if_pos (Nat.le_refl _)] at hI
        have hD := hDeflate_any a cc (repB s j) wr hlen hIB
        have hpk := pack_length ([true, true, false] ++ deflB (byte (repB s j)) (repB s j).size 0)
        rw [show deflL (repB s j) = pack ([true, true, false] ++ deflB (byte (repB s j)) (repB s j).size 0) from rfl] at hD
        generalize repB s j = B at *
        generalize ([true, true, false] ++ deflB (byte B) B.size 0).length = q at *
        generalize pack ([true, true, false] ++ deflB (byte B) B.size 0) = D at *
        obtain ⟨m, hm⟩ : ∃ m, B.size / 64 = m := ⟨_, rfl⟩
        rw [hm] at hsh
        have em : (B.size : Int) / 64 = (m : Int) := by omega
        have hml : m ≤ 400 := by omega
        have hgt : ¬ (2 * (s.size : Int) + 16 + (m : Int) < (D.length : Int)) := by omega
        have hDl : D.length ≤ 10000 := by omega
        have HQ : Hid ((q + 7) / 8 = D.length) := hpk.symm
        clear hm hsh hpk hown
        go_wp2_with fail
        refine hD.mono ?_
        rintro e w3 ⟨⟨v3, rfl, ho3⟩, hb3⟩
        obtain ⟨a3, c3, rfl⟩ := own_shape ho3
        have hzD : (⟨D.toArray⟩ : ByteArray).size = D.length := size_of_list D
        have hIn := hInflate_any noOwn a3 c3 ⟨D.toArray⟩ B.size w3 (fun rb => noOwn_ok rb _ _) (by omega) (by rw [hzD]; exact own_text ho3) (by omega) (by rw [List.toList_toArray, hI]; intro e; cases e)
        rw [hzD, List.toList_toArray, hI] at hIn
        clear hI hD
        go_wp2_with fail
        refine hIn.mono ?_
        rintro e w4 ⟨⟨v4, rfl, ho4⟩, hb4⟩
        rw [HQ.out]
        obtain ⟨a4, c4', rfl⟩ := own_shape ho4
        have c4 := own_convert ho4
        rw [len_eq] at c4
        have c5 := ((hIB.later hb3).later hb4).convert
        have eB : (⟨B.data.toList.toArray⟩ : ByteArray) = B := rfl
        rw [eB] at c4
        have te : (B.toList == B.toList) = true := by simp
        obtain ⟨w5, hrun, hown5, hgr⟩ := run_makeSlice_full (P := Try.prog) (w := w4) w4.heap.size 22 5 i0 (.int .u8 0) 1 Try.underlying22 hi hz0 hz1 .i64 .i64 65537 (by omega) (by rw [hz2]; omega) (by unfold maxLen; omega) (Nat.le_refl _)
        have hb5 : Below w4.heap.size w4 w5 := (Below.refl _ w4).grown hgr (Nat.le_refl _) (fun k e => by cases e)
        clear hIn ho4 ho3 hown5 hgr
        have e65 : ((65537 : Nat) : Int) = 65537 := rfl
        rw [e65] at hrun
        go_wp2_with fail
        refine (hDeflate_long _ 65537 _ w5 (by omega)).mono ?_
        rintro e w6 ⟨rfl, rfl⟩
        go_wp2_with fail
        go_ret
        exact ⟨rfl, below2 (below2 (below2 (below2 hb1 hb) hb3) hb4) hb5⟩
  · have hd : (s.size : Int) < 1 ∨ ¬ (s.size : Int) < 1 ∧ (40 : Int) < (s.size : Int) := by omega
    rcases hd with hd | ⟨hd1, hd2⟩
    · go_enter Try.func7, Try.ntmps7
      go_wp2_with fail
      refine (flAwake_any w).mono ?_
      rintro e w1 ⟨rfl, hb1⟩
      go_wp2_with fail
      refine (flAwake_any w1).mono ?_
      rintro e w2 ⟨rfl, hb2⟩
      go_wp2_with fail
      go_ret
      exact ⟨rfl, below2 hb1 hb2⟩
    · go_enter Try.func7, Try.ntmps7
      go_wp2_with fail
      refine (flAwake_any w).mono ?_
      rintro e w1 ⟨rfl, hb1⟩
      go_wp2_with fail
      refine (flAwake_any w1).mono ?_
      rintro e w2 ⟨rfl, hb2⟩
      go_wp2_with fail
      go_ret
      exact ⟨rfl, below2 hb1 hb2⟩
end Go.Proofs.Ytbhnlomppobbkaa
