/-
  The document's Words and New.
-/
import Derived.Test.YtgehgcnaoapbbaaDoorVPrimes
import Derived.Test.YtgehgcnaoapbbaaDoorVKb
namespace Go.Proofs.YtgehgcnaoapbbaaDoor
open Go.RowKit Ch
set_option maxRecDepth 100000

def hL (i : Nat) : List Nat := ((prK 310).take (min i 8)).map (fun p => rootN p false)
def kL (i : Nat) : List Nat := ((prK 310).take i).map (fun p => rootN p true)
theorem hL_succ {i p : Nat} (h : (prK 310)[i]? = some p) (hi : i < 8) : hL i ++ [rootN p false] = hL (i + 1) := by
  unfold hL
  rw [Nat.min_eq_left (by omega), Nat.min_eq_left (by omega), List.take_add_one, h, List.map_append]
  rfl
theorem hL_same {i : Nat} (hi : ¬ i < 8) : hL (i + 1) = hL i := by
  unfold hL
  rw [Nat.min_eq_right (by omega), Nat.min_eq_right (by omega)]
theorem kL_succ {i p : Nat} (h : (prK 310)[i]? = some p) : kL i ++ [rootN p true] = kL (i + 1) := by
  unfold kL
  rw [List.take_add_one, h, List.map_append]
  rfl
theorem hL_64 : hL 64 = beginS.l := words_h
theorem kL_64 : kL 64 = roundK := by
  unfold kL
  rw [List.take_of_length_le (by rw [prK_310]; exact Nat.le_refl _)]
  exact words_k
theorem hL_len (i : Nat) : (hL i).length ≤ 8 := by
  unfold hL
  rw [List.length_map, List.length_take]; omega
theorem kL_len (i : Nat) : (kL i).length ≤ 64 := by
  unfold kL
  rw [List.length_map, List.length_take, prK_310]; omega
theorem prK_lt {i p : Nat} (h : (prK 310)[i]? = some p) : p < 18446744073709551616 := by
  have := prK_pos 310 p (List.mem_of_getElem? h)
  omega
set_option maxHeartbeats 2000000 in
theorem vWords_any (w : World) :
    Calls Tryd.prog 22 #[] w fun e w' => (∃ u v, e = .returned (.tuple #[u, v]) ∧ w'.ownsRow w.heap.size 46 1 u beginS.l.length (kc .u32 beginS.l) ∧ w'.ownsRow w.heap.size 46 1 v roundK.length (kc .u32 roundK)) ∧ Below w.heap.size w w' := by
  go_enter Tryd.func22, Tryd.ntmps22
  go_wp2_with fail
  refine (vPrimes_64 w).mono ?_
  rintro e w1 ⟨⟨vp, rfl, hop⟩, hb1⟩
  obtain ⟨xp, cp, rfl⟩ := own_shape hop
  have HIP := show Hid (IsN .u64 w1 (.slice xp 64 cp) (prK 310)) from by have := own_n hop; rw [prK_310] at this; exact this
  rw [prK_310]
  clear hop
  go_wp2_with fail
  go_loopw [3, 4, 5] (fun u v t wr => ∃ i : Nat, i ≤ 64 ∧ t = .int .i64 (i : Int) ∧ wr.ownsRow w1.heap.size 46 1 u (hL i).length (kc .u32 (hL i)) ∧ wr.ownsRow w1.heap.size 46 1 v (kL i).length (kc .u32 (kL i)) ∧ Hid (Apart u v) ∧ Below w1.heap.size w1 wr) (fun _ _ t _ => 64 - (intOf t).toNat)
  case atStart => exact ⟨0, by omega, rfl, own_nil _ _ _, own_nil _ _ _, apart_nil _, Below.refl _ _⟩
  case round =>
    obtain ⟨i, hi, rfl, hu, hv, hap, hb⟩ := hrel
    by_cases hlt : i < 64
    · have hlt2 : (i : Int) < 64 := by omega
      have hps : (prK 310)[i]? = some (atN (prK 310) i) := atN_some (by rw [prK_310]; exact hlt)
      obtain ⟨p, hp⟩ : ∃ p, atN (prK 310) i = p := ⟨_, rfl⟩
      rw [hp] at hps
      have hp64 := prK_lt hps
      obtain ⟨x1, bp, op, rfl, hbl, gP⟩ := IsN.cellAt (HIP.out.later hb) hps
      have HK := show Hid (kL i ++ [rootN p true] = kL (i + 1)) from kL_succ hps
      have HH := show Hid (∀ h : i < 8, hL i ++ [rootN p false] = hL (i + 1)) from fun h => hL_succ hps h
      have hkl : (kL i).length ≤ 1000000 := Nat.le_trans (kL_len i) (by omega)
      have hhl : (hL i).length ≤ 1000000 := Nat.le_trans (hL_len i) (by omega)
      have HPS := show Hid ((prK 310)[i]? = some p) from hps
      clear x1 hps hp
      by_cases h8 : i < 8
      · have h82 : (i : Int) < 8 := by omega
        have HHL := show Hid (hL i ++ [rootN p false] = hL (i + 1)) from HH.out h8
        have hr1 := vRoot_any p false wr hp64
        have hr2 := fun w => vRoot_any p true w hp64
        clear HH
        generalize rootN p false = rf at *
        generalize rootN p true = rt at *
        go_wp2_with fail
        refine hr1.mono ?_
        rintro e w3 ⟨rfl, hb3⟩
        have hu3 := ownsRow_later hu hb3
        have hv3 := ownsRow_later hv hb3
        have hbw3 := hb.trans (hb3.mono hb.size)
        have hz3 := hbw3.size
        clear hr1 hu hv hb3
        go_wp2_with (at_builtin; go_must (refine wpList_append_two R32 rfl _ _ rfl w1.heap.size u3 _ rfl hu3 _ rfl rf rfl _ HHL hhl hz3 hbw3 46 1 _ _ _ hv3 hap.out ?_; intro v4 w4 ho4 hb4 hv4 hap4; have HA4 := show Hid (Apart v4 _) from hap4; clear hap4; have hgP := IsN.cellIn (HIP.out.later hb4) HPS.out))
        refine (hr2 w4).mono ?_
        rintro e w5 ⟨rfl, hb5⟩
        have hu5 := ownsRow_later ho4 hb5
        have hv5 := ownsRow_later hv4 hb5
        have hbw5 := hb4.trans (hb5.mono hb4.size)
        have hz5 := hbw5.size
        clear hr2
        go_wp2_with (at_builtin; go_must (refine wpList_append_two R32 rfl _ _ rfl w1.heap.size u4 _ rfl hv5 _ rfl rt rfl _ HK hkl hz5 hbw5 46 1 _ _ _ hu5 HA4.out.symm ?_; intro v9 w9 ho9 hb9 hu9 hap9))
        go_roundw
        case rel => exact ⟨i + 1, by omega, by go_num, hu9, ho9, hap9.symm, hb9⟩
        case measure => simp [intOf]; omega
      · have h82 : ¬ (i : Int) < 8 := by omega
        have HHL := show Hid (hL (i + 1) = hL i) from hL_same h8
        have hr2 := fun w => vRoot_any p true w hp64
        generalize rootN p true = rt at *
        go_wp2_with fail
        refine (hr2 wr).mono ?_
        rintro e w5 ⟨rfl, hb5⟩
        have hu5 := ownsRow_later hu hb5
        have hv5 := ownsRow_later hv hb5
        have hbw5 := hb.trans (hb5.mono hb.size)
        have hz5 := hbw5.size
        go_wp2_with (at_builtin; go_must (refine wpList_append_two R32 rfl _ _ rfl w1.heap.size u4 _ rfl hv5 _ rfl rt rfl _ HK hkl hz5 hbw5 46 1 _ _ _ hu5 hap.out.symm ?_; intro v9 w9 ho9 hb9 hu9 hap9))
        go_roundw
        case rel => exact ⟨i + 1, by omega, by go_num, by rw [HHL.out]; exact hu9, ho9, hap9.symm, hb9⟩
        case measure => simp [intOf]; omega
    · have hlt2 : ¬ (i : Int) < 64 := by omega
      obtain rfl : i = 64 := by omega
      have hU := own_monoN hu hb1.size
      have hV := own_monoN hv hb1.size
      rw [hL_64] at hU
      rw [kL_64] at hV
      have hbw := hb1.trans (hb.mono hb1.size)
      clear hu hv
      go_wp2_with fail
      go_ret2
      exact ⟨⟨_, _, rfl, hU, hV⟩, hbw⟩
end Go.Proofs.YtgehgcnaoapbbaaDoor
