/-
  FlateLong, walked.
-/
import Derived.Test.YtbhnlomppobbkaaHL0
import Derived.Test.YtbhnlomppobbkaaHR12
import Derived.Test.YtbhnlomppobbkaaHPl1
import Derived.Laws.OwnMore
namespace Go.Proofs.Ytbhnlomppobbkaa
open Go.RowKit Ch
set_option maxRecDepth 100000

theorem below2 {a b c : World} (h1 : Below a.heap.size a b) (h2 : Below b.heap.size b c) : Below a.heap.size a c := h1.trans (h2.mono h1.size)
/-- No block by codes of its own is looked at. -/
def noOwn : Nat → List UInt8 → Except Nat (Nat × List UInt8) := fun _ _ => .error 99
theorem noOwn_ok (rb : Nat) (s : ByteArray) (most : Nat) : OwnOk rb s most noOwn := ⟨fun _ _ _ _ _ _ _ _ _ h => absurd rfl h, fun _ _ _ _ h => by cases h⟩
theorem rem_ex (n : Int) : ∃ k : Nat, k < 200000 ∧ (wrap64 (n.tmod 200000 + 200000)).tmod 200000 = (k : Int) := by
  have h1 := Int.tmod_lt_of_pos n (show (0 : Int) < 200000 by omega)
  have h2 : -200000 < n.tmod 200000 := Int.lt_tmod_of_pos n (by omega)
  rw [Go.IntWalk.wrap64_in _ (by omega), Int.tmod_eq_emod_of_nonneg (by omega)]
  refine ⟨((n.tmod 200000 + 200000) % 200000).toNat, by omega, by omega⟩
/-- The bytes of the text. -/
def longL (c : UInt8) (k : Nat) : List UInt8 := (List.range k).map fun j => UInt8.ofNat ((c.toNat + j) % 256)
theorem longL_length (c : UInt8) (k : Nat) : (longL c k).length = k := by simp [longL]
theorem long_cells {c : UInt8} {k : Nat} {xs : List Value} (hx : xs.length = k) (h : ∀ j, j < k → xs[j]? = some (.int .u8 (((c.toNat : Int) + (j : Int)) % 256))) : xs = Lib.byteCells (longL c k) := by
  apply List.ext_getElem?
  intro j
  by_cases hj : j < k
  · rw [h j hj]
    have e : ((UInt8.ofNat ((c.toNat + j) % 256)).toNat : Int) = ((c.toNat : Int) + (j : Int)) % 256 := by rw [UInt8.toNat_ofNat']; omega
    simp [Lib.byteCells, longL, hj]
  · rw [List.getElem?_eq_none (by omega), List.getElem?_eq_none (by rw [Lib.byteCells_length, longL_length]; omega)]
theorem own_text {w : World} {base : Nat} {v : Value} {l : List UInt8} (h : w.ownsRow base 5 1 v l.length (Lib.byteCells l)) : IsBytes w v ⟨l.toArray⟩ := by
  refine own_bytes (base := base) ?_
  have e : (⟨l.toArray⟩ : ByteArray).size = l.length := size_of_list l
  rw [e]
  exact h
set_option maxHeartbeats 600000 in
theorem lFlLong_any (n : Int) (c : UInt8) (w : World) :
    Calls Try.prog 8 #[.int .i64 n, .int .u8 (c.toNat : Int)] w fun e w' => e = .returned (.bool true) ∧ Below w.heap.size w w' := by
  obtain ⟨i0, hi, hz0, hz1, hz2⟩ := info5
  obtain ⟨k, hk, ek⟩ := rem_ex n
  go_enter Try.func8, Try.ntmps8
  go_wp2_with fail
  refine (flAwake_any w).mono ?_
  rintro e w1 ⟨rfl, hb1⟩
  obtain ⟨w2, hrun, hown, hgr⟩ := run_makeSlice_full (P := Try.prog) (w := w1) w1.heap.size 22 5 i0 (.int .u8 0) 1 Try.underlying22 hi hz0 hz1 .i64 .i64 k (by omega) (by rw [hz2]; omega) (by unfold maxLen; omega) (Nat.le_refl _)
  obtain ⟨xs, hxs⟩ : ∃ xs, (madeCells (Value.int IntKind.u8 0).cells (k * 1)).toList = xs := ⟨_, rfl⟩
  rw [hxs] at hown
  have hb2 : Below w1.heap.size w1 w2 := (Below.refl _ w1).grown hgr (Nat.le_refl _) (fun k e => by cases e)
  have hsz := hgr.size
  clear hxs hgr
  go_wp2_with fail
  go_loopw [7] (fun t wr => ∃ (j : Nat) (xs : List Value), j ≤ k ∧ t = .int .i64 (j : Int) ∧ wr.ownsRow w1.heap.size 5 1 (.slice (some ⟨w1.heap.size, 0, none⟩) k k) k xs ∧ Hid (∀ i, i < j → xs[i]? = some (.int .u8 (((c.toNat : Int) + (i : Int)) % 256))) ∧ Below w1.heap.size w1 wr) (fun t _ => k - (intOf t).toNat)
  case atStart => exact ⟨0, xs, Nat.zero_le _, rfl, hown, fun j h => absurd h (Nat.not_lt_zero _), hb2⟩
  case round =>
    obtain ⟨j, xs, hj, rfl, hown, hinv, hb⟩ := hrel
    clear hrun hb2
    by_cases hlt : j < k
    · obtain ⟨g', cap, hv, _, hbg, hg, hc, hfz, hset⟩ := own_set hown hlt
      simp only [Value.slice.injEq, Option.some.injEq, Addr.mk.injEq, and_true, true_and] at hv
      obtain ⟨rfl, rfl⟩ := hv
      have hxl : xs.length = k := by have := hown.1; omega
      rw [List.getElem?_eq_getElem (by omega)] at hc
      have HS := show Hid (∀ u, (wr.setCell ⟨w1.heap.size, j, none⟩ u).ownsRow w1.heap.size 5 1 (.slice (some ⟨w1.heap.size, 0, none⟩) k k) k (xs.set j u)) from hset
      generalize xs[j] = u0 at hc
      have HV : Hid (∀ i, i < j + 1 → (xs.set j (.int .u8 (((c.toNat : Int) + (j : Int)) % 256)))[i]? = some (.int .u8 (((c.toNat : Int) + (i : Int)) % 256))) := by
        intro i hi2
        by_cases e : i = j
        · rw [e, List.getElem?_set_self (by omega)]
        · rw [List.getElem?_set_ne (fun h => e h.symm)]
          exact hinv.out i (by omega)
      clear hset hinv
      go_wp2_with fail
      go_roundw
      case rel => exact ⟨j + 1, _, by omega, by go_num, HS.out _, HV, hb.setCell (p := ⟨w1.heap.size, j, none⟩) (Nat.le_refl _) _⟩
      case measure => simp [intOf]; omega
    · obtain rfl : j = k := by omega
      have hxl : xs.length = j := by have := hown.1; omega
      have hL := long_cells hxl hinv.out
      have hT : (longL c j).length = j := longL_length c j
      have hSL := storedL_length (longL c j).length (longL c j) (Nat.le_refl _)
      have hIF := stored_infl noOwn j (longL c j) []
      rw [List.append_nil, hT, if_pos (Nat.le_refl _)] at hIF
      rw [hT] at hSL
      generalize longL c j = T at *
      subst hL
      have hown' : wr.ownsRow w1.heap.size 5 1 (.slice (some ⟨w1.heap.size, 0, none⟩) j j) T.length (Lib.byteCells T) := by rw [hT]; exact hown
      have hsT : (⟨T.toArray⟩ : ByteArray).size = j := by rw [size_of_list]; exact hT
      have hIB := own_text hown'
      have hS := hStored_any (some ⟨w1.heap.size, 0, none⟩) j ⟨T.toArray⟩ wr (by omega) (by rw [hsT]; exact hIB)
      rw [hsT, show (⟨T.toArray⟩ : ByteArray).data.toList = T from List.toList_toArray] at hS
      generalize storedL T = ST at *
      have hsST : (⟨ST.toArray⟩ : ByteArray).size = ST.length := size_of_list ST
      obtain ⟨m, hm⟩ : ∃ m, (j + 65534) / 65535 = m := ⟨_, rfl⟩
      obtain ⟨m1, hm1⟩ : ∃ m1, max 1 m = m1 := ⟨_, rfl⟩
      rw [hm, hm1] at hSL
      have e9 : ((j : Int) + 65534) / 65535 = (m : Int) := by omega
      have e10 : max 1 (m : Int) = (m1 : Int) := by omega
      have e11 : ((ST.length : Int) == (j : Int) + 5 * (m1 : Int)) = true := beq_iff_eq.2 (by omega)
      have hST2 : ST.length ≤ 300000 := by omega
      have hm2 : m1 ≤ 10 := by omega
      clear hSL hm hm1
      clear hinv hxl hown hIB
      go_wp2_with fail
      refine hS.mono ?_
      rintro e w3 ⟨⟨v3, rfl, ho3⟩, hb3⟩
      obtain ⟨a3, c3, rfl⟩ := own_shape ho3
      have hI := hInflate_any noOwn a3 c3 ⟨ST.toArray⟩ j w3 (fun rb => noOwn_ok rb _ _) (by omega) (by rw [hsST]; exact own_text ho3) (by omega) (by rw [show (⟨ST.toArray⟩ : ByteArray).data.toList = ST from List.toList_toArray, hIF]; intro e; cases e)
      rw [hsST, show (⟨ST.toArray⟩ : ByteArray).data.toList = ST from List.toList_toArray, hIF] at hI
      go_wp2_with fail
      refine hI.mono ?_
      rintro e w4 ⟨⟨v4, rfl, ho4⟩, hb4⟩
      have c4 := own_convert ho4
      have c1 := own_convert (ownsRow_later (ownsRow_later hown' hb3) hb4)
      have e8 : (ST.length * 8 + 7) / 8 = ST.length := by omega
      rw [e8]
      have te : ((⟨T.toArray⟩ : ByteArray).toList == (⟨T.toArray⟩ : ByteArray).toList) = true := by simp
      clear e8 hI hS ho3 ho4 hIF hsT hsST hown'
      have HT : Hid (T.length = j) := hT
      clear hT
      go_wp2_with fail
      go_ret
      exact ⟨rfl, below2 (below2 (below2 hb1 hb) hb3) hb4⟩
end Go.Proofs.Ytbhnlomppobbkaa
