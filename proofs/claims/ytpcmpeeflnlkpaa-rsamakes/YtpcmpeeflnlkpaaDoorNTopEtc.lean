/-
  Package nat: Add, Mul and Div.
  Package nat: Div.
-/
import Derived.Test.YtpcmpeeflnlkpaaDoorNDivide
import Derived.Test.YtpcmpeeflnlkpaaDoorNSumEtc
import Derived.Test.YtpcmpeeflnlkpaaDoorNCmpIEtc
namespace Go.Proofs.YtpcmpeeflnlkpaaDoor
open Go.RowKit Ch
set_option maxRecDepth 100000

/-! What the functions on words answer, by their numbers. -/
theorem wFrom (x : Option Addr) (cx : Nat) (s : ByteArray) (w : World) (hS : IsBytes w (.slice x s.size cx) s) (hs : s.size ≤ 1024) :
    Calls Tryd.prog 43 #[.slice x s.size cx] w fun e w' => (∃ v, e = .returned v ∧ IsW 128 w' v (numB s.data.toList)) ∧ Below w.heap.size w w' :=
  (nFrom_any x cx s w hS (by omega)).mono (by rintro e w' ⟨⟨v, rfl, h⟩, hb⟩; exact ⟨⟨v, rfl, h.more (by omega)⟩, hb⟩)
theorem wTo (n : Nat) (v : Value) (N : Nat) (w : World) (h : IsW n w v N) (hn : n ≤ 40000) : Calls Tryd.prog 44 #[v] w fun e w' => (∃ v, e = .returned v ∧ IsNum w' v N) ∧ Below w.heap.size w w' := by
  obtain ⟨y, c, L, rfl, h2, h3, _, rfl, h6⟩ := h
  exact nTo_any y c L w h2 h3 (by omega)
theorem wSum (n m : Nat) (u v : Value) (M N : Nat) (w : World) (hu : IsW n w u M) (hv : IsW m w v N) (hn : n ≤ 20000) (hm : m ≤ 20000) : Calls Tryd.prog 51 #[u, v] w fun e w' => (∃ x, e = .returned x ∧ IsW (max n m + 1) w' x (M + N)) ∧ Below w.heap.size w w' := by
  obtain ⟨y, c, L, rfl, h2, h3, _, rfl, h6⟩ := hu
  obtain ⟨y', c', L', rfl, k2, k3, _, rfl, k6⟩ := hv
  refine (nSum_any y y' c c' L L' w h2 k2 h3 k3 (by omega) (by omega)).mono ?_
  rintro e w' ⟨⟨x, rfl, h⟩, hb⟩
  exact ⟨⟨x, rfl, h.more (by omega)⟩, hb⟩
theorem wProduct (n m : Nat) (u v : Value) (M N : Nat) (w : World) (hu : IsW n w u M) (hv : IsW m w v N) (hn : n ≤ 20000) (hm : m ≤ 20000) : Calls Tryd.prog 42 #[u, v] w fun e w' => (∃ x, e = .returned x ∧ IsW (n + m) w' x (M * N)) ∧ Below w.heap.size w w' := by
  obtain ⟨y, c, L, rfl, h2, h3, _, rfl, h6⟩ := hu
  obtain ⟨y', c', L', rfl, k2, k3, _, rfl, k6⟩ := hv
  refine (nProduct_any y y' c c' L L' w h2 k2 h3 k3 (by omega) (by omega)).mono ?_
  rintro e w' ⟨⟨x, rfl, h⟩, hb⟩
  exact ⟨⟨x, rfl, h.more (by omega)⟩, hb⟩
theorem wDifference (n m : Nat) (u v : Value) (M N : Nat) (w : World) (hu : IsW n w u M) (hv : IsW m w v N) (hn : n ≤ 20000) (hle : N ≤ M) : Calls Tryd.prog 52 #[u, v] w fun e w' => (∃ x, e = .returned x ∧ IsW n w' x (M - N)) ∧ Below w.heap.size w w' := by
  obtain ⟨y, c, L, rfl, h2, h3, _, rfl, h6⟩ := hu
  obtain ⟨y', c', L', rfl, k2, k3, k4, rfl, k6⟩ := hv
  refine (nDifference_any y y' c c' L L' w h2 k2 h3 k3 (by omega) k4 hle).mono ?_
  rintro e w' ⟨⟨x, rfl, h⟩, hb⟩
  exact ⟨⟨x, rfl, h.more (by omega)⟩, hb⟩
theorem wDivide (n m : Nat) (u v : Value) (M N : Nat) (w : World) (hu : IsW n w u M) (hv : IsW m w v N) (hn : n ≤ 20000) (h0 : N ≠ 0) : Calls Tryd.prog 48 #[u, v] w fun e w' => Divided n m w w' M N e := by
  obtain ⟨y, c, L, rfl, h2, h3, h4, rfl, h6⟩ := hu
  obtain ⟨y', c', L', rfl, k2, k3, k4, rfl, k6⟩ := hv
  have hne : L' ≠ [] := by intro e; subst e; exact h0 rfl
  by_cases hl : L.length < L'.length
  · refine (nDivide_short y y' c c' L L' w h2 h3 h4 k4 hl).mono ?_
    rintro e w' ⟨v1, v2, rfl, i1, i2, hb⟩
    exact ⟨v1, v2, rfl, i1.more (by omega), i2.more (by omega), hb⟩
  · refine (nDivide_long y y' c c' L L' w h2 k2 h3 k3 k4 hne (by omega) (by omega)).mono ?_
    rintro e w' ⟨v1, v2, rfl, i1, i2, hb⟩
    exact ⟨v1, v2, rfl, i1.more (by omega), i2.more (by omega), hb⟩
/-- A call's two answers: a number and OK. -/
def NumOk (w w' : World) (N : Nat) (e : Ending) : Prop := ∃ v, e = .returned (.tuple #[v, .int .i64 0]) ∧ IsNum w' v N ∧ Below w.heap.size w w'
theorem numOk_mk {w w' : World} {N : Nat} {v : Value} (h : IsNum w' v N) (hb : Below w.heap.size w w') : NumOk w w' N (.returned (.tuple #[v, .int .i64 0])) := ⟨v, rfl, h, hb⟩
set_option maxHeartbeats 1000000 in
theorem nMul_any (x y : Option Addr) (cx cy : Nat) (s t : ByteArray) (w : World) (hS : IsBytes w (.slice x s.size cx) s) (hT : IsBytes w (.slice y t.size cy) t) (hs : s.size ≤ 1024) (ht : t.size ≤ 1024) :
    Calls Tryd.prog 22 #[.slice x s.size cx, .slice y t.size cy] w fun e w' => NumOk w w' (numB s.data.toList * numB t.data.toList) e := by
  have hSl := IsSl.two hS hT
  have hb0 : Below w.heap.size w (w.alloc (.cells #[.slice x s.size cx, .slice y t.size cy] 22)) := (Below.refl _ w).alloc (Nat.le_refl _) _
  have hL := nAnyLong_any _ _ _ hSl (by simp)
  have hlo : longAny [s, t] = false := by simp [longAny]; omega
  rw [hlo] at hL
  generalize hW : w.alloc (.cells #[.slice x s.size cx, .slice y t.size cy] 22) = W0 at *
  have HS := show Hid (IsBytes W0 (.slice x s.size cx) s ∧ IsBytes W0 (.slice y t.size cy) t ∧ Below w.heap.size w W0) from ⟨hS.later hb0, hT.later hb0, hb0⟩
  clear hS hT hb0 hSl hlo
  go_enter Tryd.func22, Tryd.ntmps22
  go_wp2_with fail
  refine hL.mono ?_
  rintro e w1 ⟨rfl, rfl⟩
  clear hL
  go_wp2_with fail
  refine (wFrom x cx s w1 HS.out.1 hs).mono ?_
  rintro e w2 ⟨⟨v2, rfl, h2⟩, hb2⟩
  go_wp2_with fail
  refine (wFrom y cy t w2 (HS.out.2.1.later hb2) ht).mono ?_
  rintro e w3 ⟨⟨v3, rfl, h3⟩, hb3⟩
  go_wp2_with fail
  refine (wProduct 128 128 v2 v3 _ _ w3 (h2.later hb3) h3 (by omega) (by omega)).mono ?_
  rintro e w4 ⟨⟨v4, rfl, h4⟩, hb4⟩
  go_wp2_with fail
  refine (wTo _ v4 _ w4 h4 (by omega)).mono ?_
  rintro e w5 ⟨⟨v5, rfl, h5⟩, hb5⟩
  have HB := show Hid (Below w.heap.size w w5) from HS.out.2.2.trans ((hb2.trans ((hb3.trans ((hb4.trans (hb5.mono hb4.size)).mono hb3.size)).mono hb2.size)).mono HS.out.2.2.size)
  clear h2 h3 h4 hb2 hb3 hb4 hb5
  go_wp2_with fail
  go_ret2
  exact numOk_mk h5 HB.out
end Go.Proofs.YtpcmpeeflnlkpaaDoor

namespace Go.Proofs.YtpcmpeeflnlkpaaDoor
open Go.RowKit Ch
set_option maxRecDepth 100000

def DivOk (w w' : World) (M N : Nat) (e : Ending) : Prop := ∃ v1 v2, e = .returned (.tuple #[v1, v2, .int .i64 0]) ∧ IsNum w' v1 (M / N) ∧ IsNum w' v2 (M % N) ∧ Below w.heap.size w w'
theorem divOk_mk {w w' : World} {M N : Nat} {v1 v2 : Value} (h1 : IsNum w' v1 (M / N)) (h2 : IsNum w' v2 (M % N)) (hb : Below w.heap.size w w') : DivOk w w' M N (.returned (.tuple #[v1, v2, .int .i64 0])) := ⟨v1, v2, rfl, h1, h2, hb⟩
theorem IsNum.later {w w' : World} {v : Value} {N : Nat} (h : IsNum w v N) (hb : Below w.heap.size w w') : IsNum w' v N := by
  obtain ⟨R, y, c, h1, h2, h3⟩ := h
  exact ⟨R, y, c, h1, h2.later hb, h3⟩
/-- A value of words, with its length. -/
theorem IsW.shape {n : Nat} {w : World} {v : Value} {N : Nat} (h : IsW n w v N) : ∃ y l c, v = .slice y l c ∧ (l = 0 ↔ N = 0) ∧ l ≤ n := by
  obtain ⟨y, c, L, h1, _, _, h4, h5, h6⟩ := h
  refine ⟨y, L.length, c, h1, ?_, h6⟩
  rw [← h5, tidy_nil h4]
  exact List.length_eq_zero_iff
set_option maxHeartbeats 1000000 in
theorem nDiv_none (x y : Option Addr) (cx cy : Nat) (s t : ByteArray) (w : World) (hS : IsBytes w (.slice x s.size cx) s) (hT : IsBytes w (.slice y t.size cy) t) (hs : s.size ≤ 1024) (ht : t.size ≤ 1024) (h0 : numB t.data.toList = 0) :
    Calls Tryd.prog 46 #[.slice x s.size cx, .slice y t.size cy] w fun e w' => e = .returned (.tuple #[.slice none 0 0, .slice none 0 0, .int .i64 2]) ∧ Below w.heap.size w w' := by
  have hSl := IsSl.two hS hT
  have hb0 : Below w.heap.size w (w.alloc (.cells #[.slice x s.size cx, .slice y t.size cy] 22)) := (Below.refl _ w).alloc (Nat.le_refl _) _
  have hL := nAnyLong_any _ _ _ hSl (by simp)
  have hlo : longAny [s, t] = false := by simp [longAny]; omega
  rw [hlo] at hL
  generalize hW : w.alloc (.cells #[.slice x s.size cx, .slice y t.size cy] 22) = W0 at *
  have HS := show Hid (IsBytes W0 (.slice x s.size cx) s ∧ IsBytes W0 (.slice y t.size cy) t ∧ Below w.heap.size w W0) from ⟨hS.later hb0, hT.later hb0, hb0⟩
  clear hS hT hb0 hSl hlo
  go_enter Tryd.func46, Tryd.ntmps46
  go_wp2_with fail
  refine hL.mono ?_
  rintro e w1 ⟨rfl, rfl⟩
  clear hL
  go_wp2_with fail
  refine (wFrom y cy t w1 HS.out.2.1 ht).mono ?_
  rintro e w2 ⟨⟨v2, rfl, h2⟩, hb2⟩
  obtain ⟨yy, l, c, rfl, hl0, _⟩ := h2.shape
  obtain rfl := hl0.2 h0
  have HB := show Hid (Below w.heap.size w w2) from HS.out.2.2.trans (hb2.mono HS.out.2.2.size)
  clear h2 hb2 hl0
  go_wp2_with fail
  go_ret3
  exact ⟨rfl, HB.out⟩
set_option maxHeartbeats 1000000 in
theorem nDiv_any (x y : Option Addr) (cx cy : Nat) (s t : ByteArray) (w : World) (hS : IsBytes w (.slice x s.size cx) s) (hT : IsBytes w (.slice y t.size cy) t) (hs : s.size ≤ 1024) (ht : t.size ≤ 1024) (h0 : numB t.data.toList ≠ 0) :
    Calls Tryd.prog 46 #[.slice x s.size cx, .slice y t.size cy] w fun e w' => DivOk w w' (numB s.data.toList) (numB t.data.toList) e := by
  have hSl := IsSl.two hS hT
  have hb0 : Below w.heap.size w (w.alloc (.cells #[.slice x s.size cx, .slice y t.size cy] 22)) := (Below.refl _ w).alloc (Nat.le_refl _) _
  have hL := nAnyLong_any _ _ _ hSl (by simp)
  have hlo : longAny [s, t] = false := by simp [longAny]; omega
  rw [hlo] at hL
  generalize hW : w.alloc (.cells #[.slice x s.size cx, .slice y t.size cy] 22) = W0 at *
  have HS := show Hid (IsBytes W0 (.slice x s.size cx) s ∧ IsBytes W0 (.slice y t.size cy) t ∧ Below w.heap.size w W0) from ⟨hS.later hb0, hT.later hb0, hb0⟩
  clear hS hT hb0 hSl hlo
  go_enter Tryd.func46, Tryd.ntmps46
  go_wp2_with fail
  refine hL.mono ?_
  rintro e w1 ⟨rfl, rfl⟩
  clear hL
  go_wp2_with fail
  refine (wFrom y cy t w1 HS.out.2.1 ht).mono ?_
  rintro e w2 ⟨⟨v2, rfl, h2⟩, hb2⟩
  obtain ⟨yy, l, c, rfl, hl0, _⟩ := id h2.shape
  have hl1 : ((l : Int) == 0) = false := by
    have : l ≠ 0 := fun h => h0 (hl0.1 h)
    simp
    omega
  have HW2 := show Hid (IsW 128 w2 (.slice yy l c) (numB t.data.toList)) from h2
  clear h2 hl0
  go_wp2_with fail
  refine (wFrom x cx s w2 (HS.out.1.later hb2) hs).mono ?_
  rintro e w3 ⟨⟨v3, rfl, h3⟩, hb3⟩
  have hDv := wDivide 128 128 v3 (.slice yy l c) _ _ w3 h3 (HW2.out.later hb3) (by omega) h0
  go_wp2_with fail
  refine hDv.mono ?_
  rintro e w4 ⟨v4, v5, rfl, h4, h5, hb4⟩
  clear hDv
  go_wp2_with fail
  refine (wTo _ v4 _ w4 h4 (by omega)).mono ?_
  rintro e w5 ⟨⟨v6, rfl, h6⟩, hb5⟩
  go_wp2_with fail
  refine (wTo _ v5 _ w5 (h5.later hb5) (by omega)).mono ?_
  rintro e w6 ⟨⟨v7, rfl, h7⟩, hb6⟩
  have HB := show Hid (Below w.heap.size w w6) from HS.out.2.2.trans ((hb2.trans ((hb3.trans ((hb4.trans ((hb5.trans (hb6.mono hb5.size)).mono hb4.size)).mono hb3.size)).mono hb2.size)).mono HS.out.2.2.size)
  have H6 := show Hid (IsNum w6 v6 (numB s.data.toList / numB t.data.toList)) from h6.later hb6
  clear h3 h4 h5 h6 hb2 hb3 hb4 hb5 hb6 HW2
  go_wp2_with fail
  go_ret3
  exact divOk_mk H6.out h7 HB.out
end Go.Proofs.YtpcmpeeflnlkpaaDoor
