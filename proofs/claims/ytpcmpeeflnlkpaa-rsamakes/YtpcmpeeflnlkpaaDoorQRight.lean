/-
  Package rsa: Right.
-/
import Derived.Test.YtpcmpeeflnlkpaaDoorNCmpIEtc
import Derived.Test.YtpcmpeeflnlkpaaDoorQOwn
namespace Go.Proofs.YtpcmpeeflnlkpaaDoor
open Go.RowKit Ch
set_option maxRecDepth 100000

theorem and1 (t : Nat) (ht : t < 256) : bits .and .u8 (t : Int) 1 = ((t % 2 : Nat) : Int) := by
  have h := bits_mask .u8 8 (by decide) wraps_u8 1 (by decide) (t : Int) (by omega) (by omega)
  have e : ((2 : Int) ^ 1 - 1) = 1 := rfl
  rw [e] at h
  rw [h]
  omega
theorem numB_parity {s : ByteArray} {k : Nat} (h : s.size = k + 1) : numB s.data.toList % 2 = byte s k % 2 := by
  have hl : k < s.data.toList.length := by rw [len_eq]; omega
  have e : s.data.toList = s.data.toList.take k ++ [s.data.toList[k]] := by
    have h1 := List.take_length (l := s.data.toList)
    rw [len_eq, h, List.take_add_one, List.getElem?_eq_getElem hl] at h1
    exact h1.symm
  rw [byte_list, List.getElem?_eq_getElem hl]
  conv => lhs; rw [e]
  rw [numB_snoc]
  simp only [Option.getD_some]
  omega
theorem rFits_any (n : Nat) (w : World) (hn : n ≤ 1000000) : Calls Tryd.prog 23 #[.int .i64 (n : Int)] w fun e w' => e = .returned (.bool (decide (62 ≤ n ∧ n ≤ 512))) ∧ w' = w := by
  by_cases h1 : 62 ≤ n
  · have i1 : (62 : Int) ≤ (n : Int) := by omega
    by_cases h2 : n ≤ 512
    · have i2 : (n : Int) ≤ 512 := by omega
      rw [decide_eq_true ⟨h1, h2⟩]
      go_enter Tryd.func23, Tryd.ntmps23
      go_wp2_with fail
      go_ret
      exact ⟨rfl, rfl⟩
    · have i2 : ¬ (n : Int) ≤ 512 := by omega
      rw [decide_eq_false (fun h => h2 h.2)]
      go_enter Tryd.func23, Tryd.ntmps23
      go_wp2_with fail
      go_ret
      exact ⟨rfl, rfl⟩
  · have i1 : ¬ (62 : Int) ≤ (n : Int) := by omega
    rw [decide_eq_false (fun h => h1 h.1)]
    go_enter Tryd.func23, Tryd.ntmps23
    go_wp2_with fail
    go_ret
    exact ⟨rfl, rfl⟩
theorem rOdd_any (x : Option Addr) (cx : Nat) (s : ByteArray) (w : World) (hS : IsBytes w (.slice x s.size cx) s) (hs : s.size ≤ 1000000) : Calls Tryd.prog 31 #[.slice x s.size cx] w fun e w' => e = .returned (.bool (decide (numB s.data.toList % 2 = 1))) ∧ w' = w := by
  by_cases h0 : s.size = 0
  · have hl : s.data.toList = [] := List.eq_nil_of_length_eq_zero (by rw [len_eq]; exact h0)
    rw [hl, h0]
    rw [show decide (numB [] % 2 = 1) = false by decide]
    clear hS hl h0 hs
    go_enter Tryd.func31, Tryd.ntmps31
    go_wp2_with fail
    go_ret
    exact ⟨rfl, rfl⟩
  · obtain ⟨k, hk⟩ : ∃ k, s.size = k + 1 := ⟨s.size - 1, by omega⟩
    obtain ⟨b, o, rfl, hbl, gc⟩ := IsBytes.cellAt hS (i := k) (by omega)
    rw [numB_parity hk]
    obtain ⟨n, hn⟩ : ∃ n, s.size = n := ⟨_, rfl⟩
    obtain ⟨t, ht⟩ : ∃ t, byte s k = t := ⟨_, rfl⟩
    have ht8 : t < 256 := by rw [← ht]; exact byte_lt s k
    rw [hn] at hk h0 hs ⊢
    rw [ht] at gc ⊢
    have ha := and1 t ht8
    have i0 : (0 : Int) < (n : Int) := by omega
    have e1 : (n : Int) - 1 = (k : Int) := by omega
    have wk : IntKind.i64.wrap (k : Int) = (k : Int) := by rw [IntKind.wrap_i64]; omega
    have hkn : (k : Int) < (n : Int) := by omega
    have hk0 : (0 : Int) ≤ (k : Int) := by omega
    obtain ⟨m, hm⟩ : ∃ m, t % 2 = m := ⟨_, rfl⟩
    rw [hm] at ha ⊢
    clear hS hn ht hk h0 hm hbl
    by_cases h : m = 1
    · have h1 : ((m : Int) == 1) = true := by simp [h]
      have h2 : (m : Int) = 1 := by omega
      rw [decide_eq_true h]
      clear h
      go_enter Tryd.func31, Tryd.ntmps31
      go_wp2_with fail
      go_ret
      exact ⟨rfl, rfl⟩
    · have h1 : ((m : Int) == 1) = false := beq_eq_false_iff_ne.2 (by omega)
      have h2 : ¬ (m : Int) = 1 := by omega
      rw [decide_eq_false h]
      clear h
      go_enter Tryd.func31, Tryd.ntmps31
      go_wp2_with fail
      go_ret
      exact ⟨rfl, rfl⟩
theorem rBelow_any (x : Option Addr) (cx : Nat) (s : ByteArray) (w : World) (hS : IsBytes w (.slice x s.size cx) s) (hs : s.size ≤ 1000000) : Calls Tryd.prog 20 #[.slice x s.size cx] w fun e w' => e = .returned (.bool (decide (numB s.data.toList < 3))) ∧ Below w.heap.size w w' := by
  obtain ⟨W1, hW1⟩ : ∃ W, w.alloc (.cells #[.int .u8 3] 5) = W := ⟨_, rfl⟩
  have b1 : Below w.heap.size w W1 := by rw [← hW1]; exact alB _ _
  have h3 : IsBytes W1 (.slice (some ⟨w.heap.size, 0, none⟩) 1 1) ⟨#[3]⟩ := by rw [← hW1]; exact litD w 3
  have hC := show Calls Tryd.prog 32 #[.slice x s.size cx, .slice (some ⟨w.heap.size, 0, none⟩) 1 1] W1 _ from nCmp_any x _ cx 1 s ⟨#[3]⟩ W1 (hS.later b1) h3 hs (by decide)
  have hc := (cmp_num s.data.toList [3]).1
  rw [show numB [3] = 3 from rfl] at hc
  rw [show (⟨#[3]⟩ : ByteArray).data.toList = [3] from rfl] at hC
  obtain ⟨cc, hcc⟩ : ∃ c, cmpL s.data.toList [3] = c := ⟨_, rfl⟩
  rw [hcc] at hc hC
  have HB := show Hid (Below w.heap.size w W1) from b1
  clear b1 h3 hcc hS
  by_cases h : numB s.data.toList < 3
  · have hq : cc < 0 := hc.2 h
    rw [decide_eq_true h]
    clear hc h
    go_enter Tryd.func20, Tryd.ntmps20
    go_wp2_with fail
    refine hC.mono ?_
    rintro e w2 ⟨rfl, rfl⟩
    clear hC hW1
    go_wp2_with fail
    go_ret
    exact ⟨rfl, HB.out⟩
  · have hq : decide (cc < 0) = false := decide_eq_false (fun h' => h (hc.1 h'))
    rw [decide_eq_false h]
    clear hc h
    go_enter Tryd.func20, Tryd.ntmps20
    go_wp2_with fail
    refine hC.mono ?_
    rintro e w2 ⟨rfl, rfl⟩
    clear hC hW1
    go_wp2_with fail
    go_ret
    exact ⟨rfl, HB.out⟩
/-- May there be such a key? -/
def rightP (N E D : List UInt8) : Prop := (62 ≤ (bareL N).length ∧ (bareL N).length ≤ 512) ∧ numB N % 2 = 1 ∧ numB E % 2 = 1 ∧ ¬ numB E < 3 ∧ numB E < numB N ∧ numB D < numB N
instance (N E D : List UInt8) : Decidable (rightP N E D) := by unfold rightP; infer_instance
set_option maxHeartbeats 8000000 in
theorem rRight_any (x y z : Option Addr) (cx cy cz : Nat) (sN sE sD : ByteArray) (w : World) (hN : IsBytes w (.slice x sN.size cx) sN) (hE : IsBytes w (.slice y sE.size cy) sE) (hD : IsBytes w (.slice z sD.size cz) sD) (lN : sN.size ≤ 1000000) (lE : sE.size ≤ 1000000) (lD : sD.size ≤ 1000000) :
    Calls Tryd.prog 14 #[.agg #[.slice x sN.size cx, .slice y sE.size cy, .slice z sD.size cz]] w fun e w' => e = .returned (.bool (decide (rightP sN.data.toList sE.data.toList sD.data.toList))) ∧ Below w.heap.size w w' := by
  obtain ⟨q, hq⟩ : ∃ q, w.heap.size = q := ⟨_, rfl⟩
  obtain ⟨W0, hW0⟩ : ∃ W, w.alloc (.cells #[.slice x sN.size cx, .slice y sE.size cy, .slice z sD.size cz] 25) = W := ⟨_, rfl⟩
  have b0 : Below w.heap.size w W0 := by rw [← hW0]; exact alB _ _
  have hB := heap_push_at w (.cells #[.slice x sN.size cx, .slice y sE.size cy, .slice z sD.size cz] 25)
  rw [hW0, hq] at hB
  have k0 := block_cell (v := .slice x sN.size cx) 0 hB rfl
  have k1 := block_cell (v := .slice y sE.size cy) 1 hB rfl
  have k2 := block_cell (v := .slice z sD.size cz) 2 hB rfl
  have HU := show Hid (∀ u, Below W0.heap.size W0 u → u.cell? ⟨q, 0, none⟩ = some (.slice x sN.size cx) ∧ u.cell? ⟨q, 1, none⟩ = some (.slice y sE.size cy) ∧ u.cell? ⟨q, 2, none⟩ = some (.slice z sD.size cz) ∧ IsBytes u (.slice x sN.size cx) sN ∧ IsBytes u (.slice y sE.size cy) sE ∧ IsBytes u (.slice z sD.size cz) sD ∧ Below w.heap.size w u) from fun u hu =>
    ⟨(hu.cell (p := ⟨q, 0, none⟩) (block_lt hB)).trans k0, (hu.cell (p := ⟨q, 1, none⟩) (block_lt hB)).trans k1, (hu.cell (p := ⟨q, 2, none⟩) (block_lt hB)).trans k2, hN.later (bl2 b0 hu), hE.later (bl2 b0 hu), hD.later (bl2 b0 hu), bl2 b0 hu⟩
  have hbl : (bareL sN.data.toList).length ≤ sN.size := by
    rw [← len_eq]
    unfold bareL
    exact (List.dropWhile_sublist _).length_le
  have HL := show Hid (sN.size ≤ 1000000 ∧ sE.size ≤ 1000000 ∧ sD.size ≤ 1000000 ∧ (bareL sN.data.toList).length ≤ 1000000) from ⟨lN, lE, lD, by omega⟩
  have hTr := nTrim_any x cx sN W0 (HU.out W0 (Below.refl _ _)).2.2.2.1 lN
  have g0 := k0
  clear k0 k1 k2 hB b0 hbl hN hE hD lN lE lD
  go_enter Tryd.func14, Tryd.ntmps14
  go_wp2_with fail
  refine hTr.mono ?_
  rintro e w1 ⟨v1, rfl, ho1, hb1⟩
  clear hTr g0
  obtain ⟨y1, c1, rfl⟩ := own_shape ho1
  have g0 := (HU.out w1 hb1).1
  have HB1 := show Hid (Below W0.heap.size W0 w1) from hb1
  obtain ⟨nl, hnl⟩ : ∃ n, (bareL sN.data.toList).length = n := ⟨_, rfl⟩
  have hFt := rFits_any nl w1 (by have := HL.out.2.2.2; omega)
  have HNL := show Hid ((bareL sN.data.toList).length = nl) from hnl
  rw [hnl] at ho1 ⊢
  clear ho1 hb1 hnl
  go_wp2_with fail
  refine hFt.mono ?_
  rintro e w2 ⟨rfl, rfl⟩
  clear hFt
  by_cases hp0 : ¬ (62 ≤ nl ∧ nl ≤ 512)
  · rw [decide_eq_false hp0]
    have hn : ¬ (62 ≤ (bareL sN.data.toList).length ∧ (bareL sN.data.toList).length ≤ 512) := by rw [HNL.out]; exact hp0
    have HF := show Hid (Below w.heap.size w w2) from (HU.out w2 HB1.out).2.2.2.2.2.2
    clear hp0 HNL g0
    go_wp2_with fail
    go_ret
    exact ⟨by rw [decide_eq_false (fun h : rightP sN.data.toList sE.data.toList sD.data.toList => hn h.1)] <;> rfl, HF.out⟩
  have hp0 := Classical.not_not.1 hp0
  rw [decide_eq_true hp0]
  have HP0 := show Hid (62 ≤ (bareL sN.data.toList).length ∧ (bareL sN.data.toList).length ≤ 512) from by rw [HNL.out]; exact hp0
  clear hp0 HNL
  have hC := rOdd_any x cx sN w2 (HU.out w2 HB1.out).2.2.2.1 HL.out.1
  go_wp2_with fail
  refine hC.mono ?_
  rintro e w3 ⟨rfl, rfl⟩
  clear hC g0
  have g1 := (HU.out w3 HB1.out).2.1
  by_cases hp1 : ¬ (numB sN.data.toList % 2 = 1)
  · rw [decide_eq_false hp1]
    have HF := show Hid (Below w.heap.size w w3) from (HU.out w3 HB1.out).2.2.2.2.2.2
    clear g1
    go_wp2_with fail
    go_ret
    exact ⟨by rw [decide_eq_false (fun h : rightP sN.data.toList sE.data.toList sD.data.toList => hp1 h.2.1)] <;> rfl, HF.out⟩
  have hp1 := Classical.not_not.1 hp1
  rw [decide_eq_true hp1]
  have HP1 := show Hid (numB sN.data.toList % 2 = 1) from hp1
  clear hp1
  have hC := rOdd_any y cy sE w3 (HU.out w3 HB1.out).2.2.2.2.1 HL.out.2.1
  go_wp2_with fail
  refine hC.mono ?_
  rintro e w4 ⟨rfl, rfl⟩
  clear hC
  by_cases hp2 : ¬ (numB sE.data.toList % 2 = 1)
  · rw [decide_eq_false hp2]
    have HF := show Hid (Below w.heap.size w w4) from (HU.out w4 HB1.out).2.2.2.2.2.2
    clear g1
    go_wp2_with fail
    go_ret
    exact ⟨by rw [decide_eq_false (fun h : rightP sN.data.toList sE.data.toList sD.data.toList => hp2 h.2.2.1)] <;> rfl, HF.out⟩
  have hp2 := Classical.not_not.1 hp2
  rw [decide_eq_true hp2]
  have HP2 := show Hid (numB sE.data.toList % 2 = 1) from hp2
  clear hp2
  have hC := rBelow_any y cy sE w4 (HU.out w4 HB1.out).2.2.2.2.1 HL.out.2.1
  go_wp2_with fail
  refine hC.mono ?_
  rintro e w5 ⟨rfl, hb5⟩
  clear hC g1
  have HB5 := show Hid (Below W0.heap.size W0 w5) from HB1.out.trans (hb5.mono HB1.out.size)
  clear hb5
  have g0 := (HU.out w5 HB5.out).1
  have g1 := (HU.out w5 HB5.out).2.1
  by_cases hp3 : numB sE.data.toList < 3
  · rw [decide_eq_true hp3]
    have HF := show Hid (Below w.heap.size w w5) from (HU.out w5 HB5.out).2.2.2.2.2.2
    clear g0 g1
    go_wp2_with fail
    go_ret
    exact ⟨by rw [decide_eq_false (fun h : rightP sN.data.toList sE.data.toList sD.data.toList => h.2.2.2.1 hp3)] <;> rfl, HF.out⟩
  rw [decide_eq_false hp3]
  have HP3 := show Hid (¬ numB sE.data.toList < 3) from hp3
  clear hp3
  have hC := nCmp_any y x cy cx sE sN w5 (HU.out w5 HB5.out).2.2.2.2.1 (HU.out w5 HB5.out).2.2.2.1 HL.out.2.1 HL.out.1
  go_wp2_with fail
  refine hC.mono ?_
  rintro e w6 ⟨rfl, rfl⟩
  clear hC g1
  have hc := (cmp_num sE.data.toList sN.data.toList).1
  obtain ⟨cc, hcc⟩ : ∃ c, cmpL sE.data.toList sN.data.toList = c := ⟨_, rfl⟩
  rw [hcc] at hc ⊢
  clear hcc
  have g2 := (HU.out w6 HB5.out).2.2.1
  by_cases hp4 : ¬ (numB sE.data.toList < numB sN.data.toList)
  · have hq : decide (cc < 0) = false := decide_eq_false (fun h => hp4 (hc.1 h))
    have HF := show Hid (Below w.heap.size w w6) from (HU.out w6 HB5.out).2.2.2.2.2.2
    clear g0 g2 hc
    go_wp2_with fail
    go_ret
    exact ⟨by rw [decide_eq_false (fun h : rightP sN.data.toList sE.data.toList sD.data.toList => hp4 h.2.2.2.2.1)] <;> rfl, HF.out⟩
  have hp4 := Classical.not_not.1 hp4
  have hq : cc < 0 := hc.2 hp4
  have HP4 := show Hid (numB sE.data.toList < numB sN.data.toList) from hp4
  clear hp4 hc
  have hC := nCmp_any z x cz cx sD sN w6 (HU.out w6 HB5.out).2.2.2.2.2.1 (HU.out w6 HB5.out).2.2.2.1 HL.out.2.2.1 HL.out.1
  go_wp2_with fail
  refine hC.mono ?_
  rintro e w7 ⟨rfl, rfl⟩
  clear hC g0 g2 hq
  have hc := (cmp_num sD.data.toList sN.data.toList).1
  obtain ⟨cd, hcc⟩ : ∃ c, cmpL sD.data.toList sN.data.toList = c := ⟨_, rfl⟩
  rw [hcc] at hc ⊢
  clear hcc
  have HF := show Hid (Below w.heap.size w w7) from (HU.out w7 HB5.out).2.2.2.2.2.2
  by_cases hp5 : ¬ (numB sD.data.toList < numB sN.data.toList)
  · have hq : decide (cd < 0) = false := decide_eq_false (fun h => hp5 (hc.1 h))
    clear hc
    go_wp2_with fail
    go_ret
    exact ⟨by rw [decide_eq_false (fun h : rightP sN.data.toList sE.data.toList sD.data.toList => hp5 h.2.2.2.2.2)] <;> rfl, HF.out⟩
  have hp5 := Classical.not_not.1 hp5
  have hq : cd < 0 := hc.2 hp5
  have HP5 := show Hid (numB sD.data.toList < numB sN.data.toList) from hp5
  clear hp5 hc
  go_wp2_with fail
  go_ret
  exact ⟨by rw [decide_eq_true (show rightP sN.data.toList sE.data.toList sD.data.toList from ⟨HP0.out, HP1.out, HP2.out, HP3.out, HP4.out, HP5.out⟩)] <;> rfl, HF.out⟩
end Go.Proofs.YtpcmpeeflnlkpaaDoor
