/-
  FlateCuts, walked.
-/
import Derived.Test.YtbhnlomppobbkaaHL1
import Derived.Test.YtbhnlomppobbkaaHPl4
namespace Go.Proofs.Ytbhnlomppobbkaa
open Go.RowKit Ch
set_option maxRecDepth 100000

theorem noOwn_no : ∀ p t x, noOwn p t ≠ .ok x := fun _ _ _ h => by cases h
/-- What is asked of a form of a text. -/
structure Form (s : ByteArray) (F : List UInt8) : Prop where
  pos : 0 < F.length
  most : F.length ≤ 1000
  cut : ∀ k, k < F.length → inflL noOwn (F.take k) 1048576 = .error 11
  full : ∀ m, s.size ≤ m → ∃ q, inflL noOwn F m = .ok (q, s.data.toList)
  less : ∀ m, m < s.size → inflL noOwn F m = .error 12
theorem form_defl (s : ByteArray) (hs : s.size ≤ 600) : Form s (deflL s) := by
  have hI := fun m => defl_infl noOwn s [] m
  simp only [List.append_nil] at hI
  have hl : (deflL s).length = (([true, true, false] ++ deflB (byte s) s.size 0).length + 7) / 8 := pack_length _
  have hb := deflB_le (byte s) s.size _ 0 (Nat.le_refl _)
  have hl2 : ([true, true, false] ++ deflB (byte s) s.size 0).length = 3 + (deflB (byte s) s.size 0).length := by rw [List.length_append]; rfl
  refine ⟨by omega, by omega, fun k hk => ?_, fun m hm => ?_, fun m hm => ?_⟩
  · have h1 := hI 1048576
    rw [if_pos (by omega)] at h1
    exact infl_cut noOwn_no h1 (Nat.le_of_lt hk) (by omega)
  · exact ⟨_, by rw [show deflL s = pack ([true, true, false] ++ deflB (byte s) s.size 0) from rfl, hI, if_pos hm]⟩
  · rw [show deflL s = pack ([true, true, false] ++ deflB (byte s) s.size 0) from rfl, hI, if_neg (by omega)]
theorem form_stored (s : ByteArray) (hs : s.size ≤ 600) : Form s (storedL s.data.toList) := by
  have hI := fun m => stored_infl noOwn m s.data.toList []
  simp only [List.append_nil] at hI
  have hl := storedL_length s.data.toList.length s.data.toList (Nat.le_refl _)
  rw [len_eq] at hl hI
  refine ⟨by omega, by omega, fun k hk => ?_, fun m hm => ?_, fun m hm => ?_⟩
  · have h1 := hI 1048576
    rw [if_pos (by omega)] at h1
    exact infl_cut noOwn_no h1 (Nat.le_of_lt hk) (by omega)
  · exact ⟨_, by rw [hI, if_pos hm]⟩
  · rw [hI, if_neg (by omega)]
theorem rem_any (c : Int) (n : Nat) (hn : 0 < n) (hn2 : n ≤ 1000000) : ∃ k : Nat, k < n ∧ (wrap64 (c.tmod n + n)).tmod n = (k : Int) := by
  have h1 := Int.tmod_lt_of_pos c (show (0 : Int) < n by omega)
  have h2 : -(n : Int) < c.tmod n := Int.lt_tmod_of_pos c (by omega)
  rw [Go.IntWalk.wrap64_in _ (by omega), Int.tmod_eq_emod_of_nonneg (by omega)]
  have h3 := Int.emod_nonneg (c.tmod n + n) (show (n : Int) ≠ 0 by omega)
  have h4 := Int.emod_lt_of_pos (c.tmod n + n) (show (0 : Int) < n by omega)
  refine ⟨((c.tmod n + n) % n).toNat, by omega, by omega⟩
set_option maxHeartbeats 2000000 in
theorem lFlCuts_any (x : Option Addr) (cap : Nat) (s : ByteArray) (c : Int) (w : World) (hB : IsBytes w (.slice x s.size cap) s) :
    Calls Try.prog 6 #[.slice x s.size cap, .int .i64 c] w fun e w' => e = .returned (.bool true) ∧ Below w.heap.size w w' := by
  by_cases hs : s.size ≤ 600
  · have hs0 : ¬ (600 : Int) < (s.size : Int) := by omega
    go_enter Try.func6, Try.ntmps6
    go_wp2_with fail
    refine (flAwake_any w).mono ?_
    rintro e w1 ⟨rfl, hb1⟩
    go_wp2_with fail
    refine (hDeflate_any x cap s w1 (by omega) (hB.later hb1)).mono ?_
    rintro e w2 ⟨⟨v2, rfl, ho2⟩, hb2⟩
    obtain ⟨a2, c2, rfl⟩ := own_shape ho2
    go_wp2_with fail
    refine (hStored_any x cap s w2 (by omega) ((hB.later hb1).later hb2)).mono ?_
    rintro e w3 ⟨⟨v3, rfl, ho3⟩, hb3⟩
    obtain ⟨a3, c3, rfl⟩ := own_shape ho3
    have hs1 : decide ((600 : Int) < (s.size : Int)) = false := decide_eq_false (by omega)
    have HPK : Hid (∀ i, i < 2 → ∃ F a cc, Form s F ∧ ∀ wr, Below (w3.heap.size + 1) (w3.alloc (.cells #[.slice a2 (deflL s).length c2, .slice a3 (storedL s.data.toList).length c3] 22)) wr → wr.cell? ⟨w3.heap.size, i, none⟩ = some (.slice a F.length cc) ∧ IsBytes wr (.slice a F.length cc) ⟨F.toArray⟩) := by
      intro i hi
      have hN := heap_push_at w3 (.cells #[.slice a2 (deflL s).length c2, .slice a3 (storedL s.data.toList).length c3] 22)
      have hb4 : Below w3.heap.size w3 (w3.alloc (.cells #[.slice a2 (deflL s).length c2, .slice a3 (storedL s.data.toList).length c3] 22)) := (Below.refl _ w3).alloc (Nat.le_refl _) _
      have hsz : (w3.alloc (.cells #[.slice a2 (deflL s).length c2, .slice a3 (storedL s.data.toList).length c3] 22)).heap.size = w3.heap.size + 1 := by simp
      rcases (by omega : i = 0 ∨ i = 1) with rfl | rfl
      · refine ⟨deflL s, a2, c2, form_defl s hs, fun wr hb => ⟨block_cell 0 ((hb.block w3.heap.size (by omega)).trans hN) rfl, own_text (ownsRow_later (ownsRow_later (ownsRow_later ho2 hb3) hb4) (by rw [hsz]; exact hb))⟩⟩
      · refine ⟨storedL s.data.toList, a3, c3, form_stored s hs, fun wr hb => ⟨block_cell 1 ((hb.block w3.heap.size (by omega)).trans hN) rfl, own_text (ownsRow_later (ownsRow_later ho3 hb4) (by rw [hsz]; exact hb))⟩⟩
    have hb4 : Below w.heap.size w (w3.alloc (.cells #[.slice a2 (deflL s).length c2, .slice a3 (storedL s.data.toList).length c3] 22)) := below2 (below2 (below2 hb1 hb2) hb3) ((Below.refl _ w3).alloc (Nat.le_refl _) _)
    have hws : w.heap.size ≤ w3.heap.size := (below2 (below2 hb1 hb2) hb3).size
    have HS : Hid (s.size ≤ 600) := hs
    clear ho2 ho3 hB
    go_wp2_with fail
    have hz4 : (w3.alloc (.cells #[.slice a2 (deflL s).length c2, .slice a3 (storedL s.data.toList).length c3] 22)).heap.size = w3.heap.size + 1 := by simp
    generalize (deflL s).length = n2 at *
    generalize (storedL s.data.toList).length = n3 at *
    generalize hw4 : w3.alloc (.cells #[.slice a2 n2 c2, .slice a3 n3 c3] 22) = w4 at *
    have HZ4 : Hid (w4.heap.size = w3.heap.size + 1) := hz4
    clear hz4 hw4 hb3 hb2 hb1
    go_loopw [9] (fun t wr => ∃ i : Nat, i ≤ 2 ∧ t = .int .i64 (i : Int) ∧ Below (w3.heap.size + 1) w4 wr) (fun t _ => 2 - (intOf t).toNat)
    case atStart => exact ⟨0, by omega, rfl, Below.refl _ _⟩
    case round =>
      obtain ⟨i, hi, rfl, hb⟩ := hrel
      by_cases hlt : i < 2
      · obtain ⟨F, a, cc, hF, hP⟩ := HPK.out i hlt
        have HF : Hid (Form s F) := hF
        have h1000 := hF.most
        have hpos := hF.pos
        obtain ⟨k, hk, ek⟩ := rem_any c F.length hF.pos (by omega)
        have HP : Hid (∀ wr, Below (w3.heap.size + 1) w4 wr → wr.cell? ⟨w3.heap.size, i, none⟩ = some (.slice a F.length cc) ∧ IsBytes wr (.slice a F.length cc) ⟨F.toArray⟩) := hP
        obtain ⟨g1, _⟩ := hP wr hb
        clear hP hF
        generalize hn : F.length = n at *
        have HN : Hid (F.length = n) := hn
        clear hn
        have hi2 : (i : Int) < 2 := by omega
        go_wp2_with fail
        go_quiet (fail)
        have hbq := below_drewN hb nq
        generalize wr.drewN nq = wq at *
        obtain ⟨g2, hIB⟩ := HP.out wq hbq
        have hzF : (⟨F.toArray⟩ : ByteArray).size = n := by rw [size_of_list]; exact HN.out
        have hzK : (⟨(F.take k).toArray⟩ : ByteArray).size = k := by rw [size_of_list, List.length_take, HN.out]; omega
        have hH : IsBytes wq (.slice a k cc) ⟨(F.take k).toArray⟩ := by
          have := IsBytes.head (s := ⟨F.toArray⟩) (k := k) (by rw [hzF]; exact hIB) (by omega)
          have e : seg ⟨F.toArray⟩ 0 k = F.take k := by unfold seg; simp
          rw [e] at this
          exact this
        have hI1 := hInflate_any noOwn a cc ⟨(F.take k).toArray⟩ 1048576 wq (fun rb => noOwn_ok rb _ _) (by omega) (by rw [hzK]; exact hH) (by omega) (by rw [List.toList_toArray, HF.out.cut k (by rw [HN.out]; exact hk)]; intro e; cases e)
        rw [hzK, List.toList_toArray, HF.out.cut k (by rw [HN.out]; exact hk)] at hI1
        have hkn : (k : Int) ≤ (n : Int) := by omega
        have hncc : (n : Int) ≤ (cc : Int) := by
          obtain ⟨_, _, e1, e2, _⟩ := hIB
          simp only [Value.slice.injEq] at e1
          omega
        have hkc : (k : Int) ≤ (cc : Int) := by omega
        clear hIB hH ek g1
        go_wp2_with fail
        refine hI1.mono ?_
        rintro e w5 ⟨rfl, hb5⟩
        have hb5' : Below (w3.heap.size + 1) w4 w5 := hbq.trans (hb5.mono (by have := hbq.size; have := HZ4.out; omega))
        obtain ⟨g3, hIB5⟩ := HP.out w5 hb5'
        obtain ⟨q, hq⟩ := HF.out.full s.size (Nat.le_refl _)
        have hI2 := hInflate_any noOwn a cc ⟨F.toArray⟩ s.size w5 (fun rb => noOwn_ok rb _ _) (by omega) (by rw [hzF]; exact hIB5) (by omega) (by rw [List.toList_toArray, hq]; intro e; cases e)
        rw [hzF, List.toList_toArray, hq] at hI2
        clear hI1 hq hIB5 g2
        have e11 : ((11 : Nat) : Int) = 11 := rfl
        rw [e11]
        go_wp2_with fail
        refine hI2.mono ?_
        rintro e w6 ⟨⟨v6, rfl, _⟩, hb6⟩
        have hb6' : Below (w3.heap.size + 1) w4 w6 := hb5'.trans (hb6.mono (by have := hb5'.size; have := HZ4.out; omega))
        obtain ⟨g4, hIB6⟩ := HP.out w6 hb6'
        clear hI2 g3
        by_cases h0 : s.size ≤ 0
        · have hI3 := hInflate_neg (.slice a n cc) ((s.size : Int) - 1) w6 (by omega)
          have hz0 : ¬ (0 : Int) < (s.size : Int) := by omega
          go_wp2_with fail
          refine hI3.mono ?_
          rintro e w7 ⟨rfl, hb7⟩
          clear hI3
          go_wp2_with fail
          go_roundw
          case rel => exact ⟨i + 1, by omega, by go_num, hb6'.trans (hb7.mono (by have := hb6'.size; have := HZ4.out; omega))⟩
          case measure => simp [intOf]; omega
        · have hq3 := HF.out.less (s.size - 1) (by omega)
          have hI3 := hInflate_any noOwn a cc ⟨F.toArray⟩ (s.size - 1) w6 (fun rb => noOwn_ok rb _ _) (by omega) (by rw [hzF]; exact hIB6) (by omega) (by rw [List.toList_toArray, hq3]; intro e; cases e)
          rw [hzF, List.toList_toArray, hq3, show ((s.size - 1 : Nat) : Int) = (s.size : Int) - 1 by omega] at hI3
          have hz0 : (0 : Int) < (s.size : Int) := by omega
          clear hq3
          go_wp2_with fail
          refine hI3.mono ?_
          rintro e w7 ⟨rfl, hb7⟩
          clear hI3
          have e12 : ((12 : Nat) : Int) = 12 := rfl
          rw [e12]
          go_wp2_with fail
          go_roundw
          case rel => exact ⟨i + 1, by omega, by go_num, hb6'.trans (hb7.mono (by have := hb6'.size; have := HZ4.out; omega))⟩
          case measure => simp [intOf]; omega
      · have hi2 : ¬ (i : Int) < 2 := by omega
        go_wp2_with fail
        go_ret
        exact ⟨rfl, hb4.trans (hb.mono (by omega))⟩
  · have hs0 : (600 : Int) < (s.size : Int) := by omega
    go_enter Try.func6, Try.ntmps6
    go_wp2_with fail
    refine (flAwake_any w).mono ?_
    rintro e w1 ⟨rfl, hb1⟩
    go_wp2_with fail
    refine (flAwake_any w1).mono ?_
    rintro e w2 ⟨rfl, hb2⟩
    go_wp2_with fail
    go_ret
    exact ⟨rfl, below2 hb1 hb2⟩
end Go.Proofs.Ytbhnlomppobbkaa
