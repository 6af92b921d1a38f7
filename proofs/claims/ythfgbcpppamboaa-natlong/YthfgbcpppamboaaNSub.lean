/-
  Package nat: Sub.
-/
import Derived.Test.YthfgbcpppamboaaNOrd
import Derived.Test.YthfgbcpppamboaaNDv
namespace Go.Proofs.Ythfgbcpppamboaa
open Go.RowKit Ch
set_option maxRecDepth 100000

set_option maxHeartbeats 1000000 in
theorem nSub_less (x y : Option Addr) (cx cy : Nat) (s t : ByteArray) (w : World) (hS : IsBytes w (.slice x s.size cx) s) (hT : IsBytes w (.slice y t.size cy) t) (hs : s.size ≤ 1024) (ht : t.size ≤ 1024) (hlt : numB s.data.toList < numB t.data.toList) :
    Calls Try.prog 15 #[.slice x s.size cx, .slice y t.size cy] w fun e w' => e = .returned (.tuple #[.slice none 0 0, .int .i64 2]) ∧ Below w.heap.size w w' := by
  have hSl := IsSl.two hS hT
  have hb0 : Below w.heap.size w (w.alloc (.cells #[.slice x s.size cx, .slice y t.size cy] 22)) := (Below.refl _ w).alloc (Nat.le_refl _) _
  have hL := nAnyLong_any _ _ _ hSl (by simp)
  have hlo : longAny [s, t] = false := by simp [longAny]; omega
  rw [hlo] at hL
  have hC := nCmp_any x y cx cy s t _ (hS.later hb0) (hT.later hb0) (by omega) (by omega)
  have hc0 := (cmp_num s.data.toList t.data.toList).1.2 hlt
  generalize hW : w.alloc (.cells #[.slice x s.size cx, .slice y t.size cy] 22) = W0 at *
  generalize cmpL s.data.toList t.data.toList = cc at *
  have HB0 := show Hid (Below w.heap.size w W0) from hb0
  clear hS hT hb0 hSl hlo hlt
  go_enter Try.func15, Try.ntmps15
  go_wp2_with fail
  refine hL.mono ?_
  rintro e w1 ⟨rfl, rfl⟩
  clear hL hW
  go_wp2_with fail
  refine hC.mono ?_
  rintro e w2 ⟨rfl, rfl⟩
  clear hC
  go_wp2_with fail
  go_ret2
  exact ⟨rfl, HB0.out⟩
set_option maxHeartbeats 1000000 in
theorem nSub_any (x y : Option Addr) (cx cy : Nat) (s t : ByteArray) (w : World) (hS : IsBytes w (.slice x s.size cx) s) (hT : IsBytes w (.slice y t.size cy) t) (hs : s.size ≤ 1024) (ht : t.size ≤ 1024) (hle : numB t.data.toList ≤ numB s.data.toList) :
    Calls Try.prog 15 #[.slice x s.size cx, .slice y t.size cy] w fun e w' => NumOk w w' (numB s.data.toList - numB t.data.toList) e := by
  have hSl := IsSl.two hS hT
  have hb0 : Below w.heap.size w (w.alloc (.cells #[.slice x s.size cx, .slice y t.size cy] 22)) := (Below.refl _ w).alloc (Nat.le_refl _) _
  have hL := nAnyLong_any _ _ _ hSl (by simp)
  have hlo : longAny [s, t] = false := by simp [longAny]; omega
  rw [hlo] at hL
  have hC := nCmp_any x y cx cy s t _ (hS.later hb0) (hT.later hb0) (by omega) (by omega)
  have hc0 : ¬ cmpL s.data.toList t.data.toList < 0 := fun h => absurd ((cmp_num s.data.toList t.data.toList).1.1 h) (by omega)
  generalize hW : w.alloc (.cells #[.slice x s.size cx, .slice y t.size cy] 22) = W0 at *
  generalize cmpL s.data.toList t.data.toList = cc at *
  have HS := show Hid (IsBytes W0 (.slice x s.size cx) s ∧ IsBytes W0 (.slice y t.size cy) t ∧ Below w.heap.size w W0) from ⟨hS.later hb0, hT.later hb0, hb0⟩
  clear hS hT hb0 hSl hlo
  go_enter Try.func15, Try.ntmps15
  go_wp2_with fail
  refine hL.mono ?_
  rintro e w1 ⟨rfl, rfl⟩
  clear hL hW
  go_wp2_with fail
  refine hC.mono ?_
  rintro e w2 ⟨rfl, rfl⟩
  clear hC
  go_wp2_with fail
  refine (wFrom x cx s w2 HS.out.1 hs).mono ?_
  rintro e w3 ⟨⟨v3, rfl, h3⟩, hb3⟩
  go_wp2_with fail
  refine (wFrom y cy t w3 (HS.out.2.1.later hb3) ht).mono ?_
  rintro e w4 ⟨⟨v4, rfl, h4⟩, hb4⟩
  go_wp2_with fail
  refine (wDifference 128 128 v3 v4 _ _ w4 (h3.later hb4) h4 (by omega) hle).mono ?_
  rintro e w5 ⟨⟨v5, rfl, h5⟩, hb5⟩
  go_wp2_with fail
  refine (wTo _ v5 _ w5 h5 (by omega)).mono ?_
  rintro e w6 ⟨⟨v6, rfl, h6⟩, hb6⟩
  have HB := show Hid (Below w.heap.size w w6) from HS.out.2.2.trans ((hb3.trans ((hb4.trans ((hb5.trans (hb6.mono hb5.size)).mono hb4.size)).mono hb3.size)).mono HS.out.2.2.size)
  clear h3 h4 h5 hb3 hb4 hb5 hb6
  go_wp2_with fail
  go_ret2
  exact numOk_mk h6 HB.out
end Go.Proofs.Ythfgbcpppamboaa
