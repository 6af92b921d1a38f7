/-
  The document's side of layer 6: trim and at.
-/
import Derived.Test.YthfgbcpppamboaaNTrim
namespace Go.Proofs.Ythfgbcpppamboaa
open Go.RowKit Ch
set_option maxRecDepth 100000

set_option maxHeartbeats 2000000 in
theorem dTrim_any (y : Option Addr) (c : Nat) (L : List Nat) (w : World) (hS : IsN .i64 w (.slice y L.length c) L) (hs : L.length ≤ 1000000) :
    Calls Try.prog 30 #[.slice y L.length c] w fun e w' => e = .returned (.slice y (trimL L).length c) ∧ IsN .i64 w (.slice y (trimL L).length c) (trimL L) ∧ w' = w := by
  have HS := show Hid (IsN .i64 w (.slice y L.length c) L) from hS
  have hcL : L.length ≤ c := by
    obtain ⟨_, _, e1, e2, _⟩ := hS
    simp only [Value.slice.injEq] at e1
    omega
  obtain ⟨n, hn⟩ : ∃ n, L.length = n := ⟨_, rfl⟩
  have HN := show Hid (L.length = n) from hn
  rw [hn] at hs hcL ⊢
  clear hS hn
  go_enter Try.func30, Try.ntmps30
  go_wp2_with fail
  go_loopw [0] (fun u wr => ∃ m : Nat, u = .slice y m c ∧ m ≤ n ∧ Hid (trimL (L.take m) = trimL L) ∧ wr = w) (fun u _ => lenOf u)
  case atStart => exact ⟨n, rfl, Nat.le_refl _, by unfold Hid; rw [List.take_of_length_le (by rw [HN.out]; exact Nat.le_refl _)], rfl⟩
  case round =>
    obtain ⟨m, rfl, hmn, hT, rfl⟩ := hrel
    by_cases h0 : 0 < m
    · have h02 : (0 : Int) < (m : Int) := by omega
      obtain ⟨m1, hm1⟩ : ∃ m1, m - 1 = m1 := ⟨_, rfl⟩
      have e1 : (m : Int) - 1 = (m1 : Int) := by omega
      have wi : IntKind.i64.wrap (m1 : Int) = (m1 : Int) := by rw [IntKind.wrap_i64]; omega
      have hlt : (m1 : Int) < (m : Int) := by omega
      have hm1c : (m1 : Int) ≤ (c : Int) := by omega
      have hm1c2 : m1 ≤ c := by omega
      have hdg : L[m1]? = some (atN L m1) := atN_some (by have := HN.out; omega)
      obtain ⟨d, hd⟩ : ∃ d, atN L m1 = d := ⟨_, rfl⟩
      rw [hd] at hdg
      have htk : L.take m = L.take m1 ++ [d] := by
        rw [show m = m1 + 1 by omega, List.take_add_one, hdg]
        rfl
      obtain ⟨x1, b, o, rfl, hbl, gc⟩ := IsN.cellAt HS.out hdg
      clear x1
      have HT2 := show Hid (trimL (L.take m1 ++ [d]) = trimL L) from by unfold Hid; rw [← htk]; exact hT.out
      have HTK := show Hid (L.take m = L.take m1 ++ [d]) from htk
      clear hT htk hdg hd
      by_cases hd0 : d = 0
      · subst hd0
        have HT3 := show Hid (trimL (L.take m1) = trimL L) from by unfold Hid; rw [← HT2.out, trimL_zero]
        clear HT2 HTK
        go_wp2_with fail
        go_roundw
        case rel => exact ⟨m1, rfl, by omega, HT3.out, trivial⟩
        case measure => simp [lenOf]; omega
      · have hdz : ((d : Int) == 0) = false := by simp; omega
        have hbd : trimL L = L.take m := by rw [← HT2.out, trimL_stop hd0, HTK.out]
        have hlm : (L.take m).length = m := by rw [List.length_take, HN.out]; omega
        have HR := show Hid ((trimL L).length = m ∧ IsN .i64 wr (.slice (some ⟨b, o, none⟩) m c) (trimL L)) from ⟨by rw [hbd, hlm], by rw [hbd]; exact HS.out.take (by rw [HN.out]; exact hmn)⟩
        clear hbd hlm HT2 HTK
        go_wp2_with fail
        go_ret
        exact ⟨by rw [HR.out.1]; rfl, by rw [HR.out.1]; exact HR.out.2, rfl⟩
    · have h02 : ¬ (0 : Int) < (m : Int) := by omega
      obtain rfl : m = 0 := by omega
      have hbd : trimL L = L.take 0 := by rw [← hT.out, List.take_zero]; rfl
      have HR := show Hid ((trimL L).length = 0 ∧ IsN .i64 wr (.slice y 0 c) (trimL L)) from ⟨by rw [hbd]; rfl, by rw [hbd]; exact HS.out.take (Nat.zero_le _)⟩
      clear hbd hT
      go_wp2_with fail
      go_ret
      exact ⟨by rw [HR.out.1]; rfl, by rw [HR.out.1]; exact HR.out.2, rfl⟩
set_option maxHeartbeats 1000000 in
theorem dAt_any (y : Option Addr) (n c : Nat) (L : List Nat) (i : Nat) (w : World) (hS : IsN .i64 w (.slice y n c) L) (hn : L.length = n) :
    Calls Try.prog 38 #[.slice y n c, .int .i64 (i : Int)] w fun e w' => e = .returned (.int .i64 ((L.getD i 0 : Nat) : Int)) ∧ w' = w := by
  by_cases h : i < n
  · have h1 : (i : Int) < (n : Int) := by omega
    have hdg : L[i]? = some (atN L i) := atN_some (by omega)
    have HG := show Hid (L.getD i 0 = atN L i) from by unfold Hid; rw [List.getD_eq_getElem?_getD, hdg]; rfl
    obtain ⟨x1, b, o, rfl, hbl, gc⟩ := IsN.cellAt hS hdg
    clear x1 hS hdg hn
    go_enter Try.func38, Try.ntmps38
    go_wp2_with fail
    go_ret
    exact ⟨by rw [HG.out]; rfl, rfl⟩
  · have h1 : ¬ (i : Int) < (n : Int) := by omega
    have HG := show Hid (L[i]?.getD 0 = 0) from by unfold Hid; rw [List.getElem?_eq_none (by omega)]; rfl
    clear hS hn
    go_enter Try.func38, Try.ntmps38
    go_wp2_with fail
    go_ret
    exact ⟨by rw [HG.out]; rfl, rfl⟩
end Go.Proofs.Ythfgbcpppamboaa
