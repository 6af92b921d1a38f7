/-
  Package nat: Add, Mul and Div.
-/
import Derived.Test.YthfgbcpppamboaaNDivide
import Derived.Test.YthfgbcpppamboaaNDiff
import Derived.Test.YthfgbcpppamboaaUSlEtc
namespace Go.Proofs.Ythfgbcpppamboaa
open Go.RowKit Ch
set_option maxRecDepth 100000

/-! What the functions on words answer, by their numbers. -/
theorem wFrom (x : Option Addr) (cx : Nat) (s : ByteArray) (w : World) (hS : IsBytes w (.slice x s.size cx) s) (hs : s.size ≤ 1024) :
    Calls Try.prog 33 #[.slice x s.size cx] w fun e w' => (∃ v, e = .returned v ∧ IsW 128 w' v (numB s.data.toList)) ∧ Below w.heap.size w w' :=
  (nFrom_any x cx s w hS (by omega)).mono (by rintro e w' ⟨⟨v, rfl, h⟩, hb⟩; exact ⟨⟨v, rfl, h.more (by omega)⟩, hb⟩)
theorem wTo (n : Nat) (v : Value) (N : Nat) (w : World) (h : IsW n w v N) (hn : n ≤ 40000) : Calls Try.prog 34 #[v] w fun e w' => (∃ v, e = .returned v ∧ IsNum w' v N) ∧ Below w.heap.size w w' := by
  obtain ⟨y, c, L, rfl, h2, h3, _, rfl, h6⟩ := h
  exact nTo_any y c L w h2 h3 (by omega)
theorem wSum (n m : Nat) (u v : Value) (M N : Nat) (w : World) (hu : IsW n w u M) (hv : IsW m w v N) (hn : n ≤ 20000) (hm : m ≤ 20000) : Calls Try.prog 32 #[u, v] w fun e w' => (∃ x, e = .returned x ∧ IsW (max n m + 1) w' x (M + N)) ∧ Below w.heap.size w w' := by
  obtain ⟨y, c, L, rfl, h2, h3, _, rfl, h6⟩ := hu
  obtain ⟨y', c', L', rfl, k2, k3, _, rfl, k6⟩ := hv
  refine (nSum_any y y' c c' L L' w h2 k2 h3 k3 (by omega) (by omega)).mono ?_
  rintro e w' ⟨⟨x, rfl, h⟩, hb⟩
  exact ⟨⟨x, rfl, h.more (by omega)⟩, hb⟩
theorem wProduct (n m : Nat) (u v : Value) (M N : Nat) (w : World) (hu : IsW n w u M) (hv : IsW m w v N) (hn : n ≤ 20000) (hm : m ≤ 20000) : Calls Try.prog 35 #[u, v] w fun e w' => (∃ x, e = .returned x ∧ IsW (n + m) w' x (M * N)) ∧ Below w.heap.size w w' := by
  obtain ⟨y, c, L, rfl, h2, h3, _, rfl, h6⟩ := hu
  obtain ⟨y', c', L', rfl, k2, k3, _, rfl, k6⟩ := hv
  refine (nProduct_any y y' c c' L L' w h2 k2 h3 k3 (by omega) (by omega)).mono ?_
  rintro e w' ⟨⟨x, rfl, h⟩, hb⟩
  exact ⟨⟨x, rfl, h.more (by omega)⟩, hb⟩
theorem wDifference (n m : Nat) (u v : Value) (M N : Nat) (w : World) (hu : IsW n w u M) (hv : IsW m w v N) (hn : n ≤ 20000) (hle : N ≤ M) : Calls Try.prog 36 #[u, v] w fun e w' => (∃ x, e = .returned x ∧ IsW n w' x (M - N)) ∧ Below w.heap.size w w' := by
  obtain ⟨y, c, L, rfl, h2, h3, _, rfl, h6⟩ := hu
  obtain ⟨y', c', L', rfl, k2, k3, k4, rfl, k6⟩ := hv
  refine (nDifference_any y y' c c' L L' w h2 k2 h3 k3 (by omega) k4 hle).mono ?_
  rintro e w' ⟨⟨x, rfl, h⟩, hb⟩
  exact ⟨⟨x, rfl, h.more (by omega)⟩, hb⟩
theorem wDivide (n m : Nat) (u v : Value) (M N : Nat) (w : World) (hu : IsW n w u M) (hv : IsW m w v N) (hn : n ≤ 20000) (h0 : N ≠ 0) : Calls Try.prog 43 #[u, v] w fun e w' => Divided n m w w' M N e := by
  obtain ⟨y, c, L, rfl, h2, h3, h4, rfl, h6⟩ := hu
  obtain ⟨y', c', L', rfl, k2, k3, k4, rfl, k6⟩ := hv
  have hne : L' ≠ [] := by intro e; subst e; exact h0 rfl
  by_cases hl : L.length < L'.length
  · refine (nDivide_short y y' c c' L L' w h2 h3 h4 k4 hl).mono ?_
    rintro e w' ⟨v1, v2, rfl, i1, i2, hb⟩
    exact ⟨v1, v2, rfl, i1.more (by omega), i2.more (by omega), hb⟩
  · refine (nDivide_long y y' c c' L L' w h2 k2 h3 k3 k4 hne (by omega) (by omega)).mono ?_
    rintro e w' ⟨v1, v2, rfl, i1, i2, hb⟩
    exact ⟨v1, v2, rfl, i1.more (by omega), i2.more (by omega), hb⟩
/-- A call's two answers: a number and OK. -/
def NumOk (w w' : World) (N : Nat) (e : Ending) : Prop := ∃ v, e = .returned (.tuple #[v, .int .i64 0]) ∧ IsNum w' v N ∧ Below w.heap.size w w'
theorem numOk_mk {w w' : World} {N : Nat} {v : Value} (h : IsNum w' v N) (hb : Below w.heap.size w w') : NumOk w w' N (.returned (.tuple #[v, .int .i64 0])) := ⟨v, rfl, h, hb⟩
set_option maxHeartbeats 1000000 in
theorem nAdd_any (x y : Option Addr) (cx cy : Nat) (s t : ByteArray) (w : World) (hS : IsBytes w (.slice x s.size cx) s) (hT : IsBytes w (.slice y t.size cy) t) (hs : s.size ≤ 1024) (ht : t.size ≤ 1024) :
    Calls Try.prog 13 #[.slice x s.size cx, .slice y t.size cy] w fun e w' => NumOk w w' (numB s.data.toList + numB t.data.toList) e := by
  have hSl := IsSl.two hS hT
  have hb0 : Below w.heap.size w (w.alloc (.cells #[.slice x s.size cx, .slice y t.size cy] 22)) := (Below.refl _ w).alloc (Nat.le_refl _) _
  have hL := nAnyLong_any _ _ _ hSl (by simp)
  have hlo : longAny [s, t] = false := by simp [longAny]; omega
  rw [hlo] at hL
  generalize hW : w.alloc (.cells #[.slice x s.size cx, .slice y t.size cy] 22) = W0 at *
  have HS := show Hid (IsBytes W0 (.slice x s.size cx) s ∧ IsBytes W0 (.slice y t.size cy) t ∧ Below w.heap.size w W0) from ⟨hS.later hb0, hT.later hb0, hb0⟩
  clear hS hT hb0 hSl hlo
  go_enter Try.func13, Try.ntmps13
  go_wp2_with fail
  refine hL.mono ?_
  rintro e w1 ⟨rfl, rfl⟩
  clear hL
  go_wp2_with fail
  refine (wFrom x cx s w1 HS.out.1 hs).mono ?_
  rintro e w2 ⟨⟨v2, rfl, h2⟩, hb2⟩
  go_wp2_with fail
  refine (wFrom y cy t w2 (HS.out.2.1.later hb2) ht).mono ?_
  rintro e w3 ⟨⟨v3, rfl, h3⟩, hb3⟩
  go_wp2_with fail
  refine (wSum 128 128 v2 v3 _ _ w3 (h2.later hb3) h3 (by omega) (by omega)).mono ?_
  rintro e w4 ⟨⟨v4, rfl, h4⟩, hb4⟩
  go_wp2_with fail
  refine (wTo _ v4 _ w4 h4 (by omega)).mono ?_
  rintro e w5 ⟨⟨v5, rfl, h5⟩, hb5⟩
  have HB := show Hid (Below w.heap.size w w5) from HS.out.2.2.trans ((hb2.trans ((hb3.trans ((hb4.trans (hb5.mono hb4.size)).mono hb3.size)).mono hb2.size)).mono HS.out.2.2.size)
  clear h2 h3 h4 hb2 hb3 hb4 hb5
  go_wp2_with fail
  go_ret2
  exact numOk_mk h5 HB.out
set_option maxHeartbeats 1000000 in
theorem nMul_any (x y : Option Addr) (cx cy : Nat) (s t : ByteArray) (w : World) (hS : IsBytes w (.slice x s.size cx) s) (hT : IsBytes w (.slice y t.size cy) t) (hs : s.size ≤ 1024) (ht : t.size ≤ 1024) :
    Calls Try.prog 14 #[.slice x s.size cx, .slice y t.size cy] w fun e w' => NumOk w w' (numB s.data.toList * numB t.data.toList) e := by
  have hSl := IsSl.two hS hT
  have hb0 : Below w.heap.size w (w.alloc (.cells #[.slice x s.size cx, .slice y t.size cy] 22)) := (Below.refl _ w).alloc (Nat.le_refl _) _
  have hL := nAnyLong_any _ _ _ hSl (by simp)
  have hlo : longAny [s, t] = false := by simp [longAny]; omega
  rw [hlo] at hL
  generalize hW : w.alloc (.cells #[.slice x s.size cx, .slice y t.size cy] 22) = W0 at *
  have HS := show Hid (IsBytes W0 (.slice x s.size cx) s ∧ IsBytes W0 (.slice y t.size cy) t ∧ Below w.heap.size w W0) from ⟨hS.later hb0, hT.later hb0, hb0⟩
  clear hS hT hb0 hSl hlo
  go_enter Try.func14, Try.ntmps14
  go_wp2_with fail
  refine hL.mono ?_
  rintro e w1 ⟨rfl, rfl⟩
  clear hL
  go_wp2_with fail
  refine (wFrom x cx s w1 HS.out.1 hs).mono ?_
  rintro e w2 ⟨⟨v2, rfl, h2⟩, hb2⟩
  go_wp2_with fail
  refine (wFrom y cy t w2 (HS.out.2.1.later hb2) ht).mono ?_
  rintro e w3 ⟨⟨v3, rfl, h3⟩, hb3⟩
  go_wp2_with fail
  refine (wProduct 128 128 v2 v3 _ _ w3 (h2.later hb3) h3 (by omega) (by omega)).mono ?_
  rintro e w4 ⟨⟨v4, rfl, h4⟩, hb4⟩
  go_wp2_with fail
  refine (wTo _ v4 _ w4 h4 (by omega)).mono ?_
  rintro e w5 ⟨⟨v5, rfl, h5⟩, hb5⟩
  have HB := show Hid (Below w.heap.size w w5) from HS.out.2.2.trans ((hb2.trans ((hb3.trans ((hb4.trans (hb5.mono hb4.size)).mono hb3.size)).mono hb2.size)).mono HS.out.2.2.size)
  clear h2 h3 h4 hb2 hb3 hb4 hb5
  go_wp2_with fail
  go_ret2
  exact numOk_mk h5 HB.out
end Go.Proofs.Ythfgbcpppamboaa
