/-
  
  
  
  
  
  
  
-/
import Derived.Test.YtpcmpeeflnlkpaaGreatDoorNFromEtc
import Derived.Test.YtpcmpeeflnlkpaaGreatDoorNSumEtc
import Derived.Test.YtpcmpeeflnlkpaaGreatDoorNCmpIEtc
/-
  Package nat: Add, Mul and Div.
-/
namespace Go.Proofs.YtpcmpeeflnlkpaaGreatDoor
open Go.RowKit Ch
set_option maxRecDepth 100000

/-! What the functions on words answer, by their numbers. -/
theorem wFrom (x : Option Addr) (cx : Nat) (s : ByteArray) (w : World) (hS : IsBytes w (.slice x s.size cx) s) (hs : s.size ≤ 1024) :
    Calls Tryz.prog 49 #[.slice x s.size cx] w fun e w' => (∃ v, e = .returned v ∧ IsW 128 w' v (numB s.data.toList)) ∧ Below w.heap.size w w' :=
  (nFrom_any x cx s w hS (by omega)).mono (by rintro e w' ⟨⟨v, rfl, h⟩, hb⟩; exact ⟨⟨v, rfl, h.more (by omega)⟩, hb⟩)
theorem wTo (n : Nat) (v : Value) (N : Nat) (w : World) (h : IsW n w v N) (hn : n ≤ 40000) : Calls Tryz.prog 54 #[v] w fun e w' => (∃ v, e = .returned v ∧ IsNum w' v N) ∧ Below w.heap.size w w' := by
  obtain ⟨y, c, L, rfl, h2, h3, _, rfl, h6⟩ := h
  exact nTo_any y c L w h2 h3 (by omega)
theorem wSum (n m : Nat) (u v : Value) (M N : Nat) (w : World) (hu : IsW n w u M) (hv : IsW m w v N) (hn : n ≤ 20000) (hm : m ≤ 20000) : Calls Tryz.prog 75 #[u, v] w fun e w' => (∃ x, e = .returned x ∧ IsW (max n m + 1) w' x (M + N)) ∧ Below w.heap.size w w' := by
  obtain ⟨y, c, L, rfl, h2, h3, _, rfl, h6⟩ := hu
  obtain ⟨y', c', L', rfl, k2, k3, _, rfl, k6⟩ := hv
  refine (nSum_any y y' c c' L L' w h2 k2 h3 k3 (by omega) (by omega)).mono ?_
  rintro e w' ⟨⟨x, rfl, h⟩, hb⟩
  exact ⟨⟨x, rfl, h.more (by omega)⟩, hb⟩
theorem wProduct (n m : Nat) (u v : Value) (M N : Nat) (w : World) (hu : IsW n w u M) (hv : IsW m w v N) (hn : n ≤ 20000) (hm : m ≤ 20000) : Calls Tryz.prog 53 #[u, v] w fun e w' => (∃ x, e = .returned x ∧ IsW (n + m) w' x (M * N)) ∧ Below w.heap.size w w' := by
  obtain ⟨y, c, L, rfl, h2, h3, _, rfl, h6⟩ := hu
  obtain ⟨y', c', L', rfl, k2, k3, _, rfl, k6⟩ := hv
  refine (nProduct_any y y' c c' L L' w h2 k2 h3 k3 (by omega) (by omega)).mono ?_
  rintro e w' ⟨⟨x, rfl, h⟩, hb⟩
  exact ⟨⟨x, rfl, h.more (by omega)⟩, hb⟩
theorem wDifference (n m : Nat) (u v : Value) (M N : Nat) (w : World) (hu : IsW n w u M) (hv : IsW m w v N) (hn : n ≤ 20000) (hle : N ≤ M) : Calls Tryz.prog 76 #[u, v] w fun e w' => (∃ x, e = .returned x ∧ IsW n w' x (M - N)) ∧ Below w.heap.size w w' := by
  obtain ⟨y, c, L, rfl, h2, h3, _, rfl, h6⟩ := hu
  obtain ⟨y', c', L', rfl, k2, k3, k4, rfl, k6⟩ := hv
  refine (nDifference_any y y' c c' L L' w h2 k2 h3 k3 (by omega) k4 hle).mono ?_
  rintro e w' ⟨⟨x, rfl, h⟩, hb⟩
  exact ⟨⟨x, rfl, h.more (by omega)⟩, hb⟩
theorem wDivide (n m : Nat) (u v : Value) (M N : Nat) (w : World) (hu : IsW n w u M) (hv : IsW m w v N) (hn : n ≤ 20000) (h0 : N ≠ 0) : Calls Tryz.prog 51 #[u, v] w fun e w' => Divided n m w w' M N e := by
  obtain ⟨y, c, L, rfl, h2, h3, h4, rfl, h6⟩ := hu
  obtain ⟨y', c', L', rfl, k2, k3, k4, rfl, k6⟩ := hv
  have hne : L' ≠ [] := by intro e; subst e; exact h0 rfl
  by_cases hl : L.length < L'.length
  · refine (nDivide_short y y' c c' L L' w h2 h3 h4 k4 hl).mono ?_
    rintro e w' ⟨v1, v2, rfl, i1, i2, hb⟩
    exact ⟨v1, v2, rfl, i1.more (by omega), i2.more (by omega), hb⟩
  · refine (nDivide_long y y' c c' L L' w h2 k2 h3 k3 k4 hne (by omega) (by omega)).mono ?_
    rintro e w' ⟨v1, v2, rfl, i1, i2, hb⟩
    exact ⟨v1, v2, rfl, i1.more (by omega), i2.more (by omega), hb⟩
/-- A call's two answers: a number and OK. -/
def NumOk (w w' : World) (N : Nat) (e : Ending) : Prop := ∃ v, e = .returned (.tuple #[v, .int .i64 0]) ∧ IsNum w' v N ∧ Below w.heap.size w w'
theorem numOk_mk {w w' : World} {N : Nat} {v : Value} (h : IsNum w' v N) (hb : Below w.heap.size w w') : NumOk w w' N (.returned (.tuple #[v, .int .i64 0])) := ⟨v, rfl, h, hb⟩
set_option maxHeartbeats 1000000 in
theorem nMul_any (x y : Option Addr) (cx cy : Nat) (s t : ByteArray) (w : World) (hS : IsBytes w (.slice x s.size cx) s) (hT : IsBytes w (.slice y t.size cy) t) (hs : s.size ≤ 1024) (ht : t.size ≤ 1024) :
    Calls Tryz.prog 43 #[.slice x s.size cx, .slice y t.size cy] w fun e w' => NumOk w w' (numB s.data.toList * numB t.data.toList) e := by
  have hSl := IsSl.two hS hT
  have hb0 : Below w.heap.size w (w.alloc (.cells #[.slice x s.size cx, .slice y t.size cy] 22)) := (Below.refl _ w).alloc (Nat.le_refl _) _
  have hL := nAnyLong_any _ _ _ hSl (by simp)
  have hlo : longAny [s, t] = false := by simp [longAny]; omega
  rw [hlo] at hL
  generalize hW : w.alloc (.cells #[.slice x s.size cx, .slice y t.size cy] 22) = W0 at *
  have HS := show Hid (IsBytes W0 (.slice x s.size cx) s ∧ IsBytes W0 (.slice y t.size cy) t ∧ Below w.heap.size w W0) from ⟨hS.later hb0, hT.later hb0, hb0⟩
  clear hS hT hb0 hSl hlo
  go_enter Tryz.func43, Tryz.ntmps43
  go_wp2_with fail
  refine hL.mono ?_
  rintro e w1 ⟨rfl, rfl⟩
  clear hL
  go_wp2_with fail
  refine (wFrom x cx s w1 HS.out.1 hs).mono ?_
  rintro e w2 ⟨⟨v2, rfl, h2⟩, hb2⟩
  go_wp2_with fail
  refine (wFrom y cy t w2 (HS.out.2.1.later hb2) ht).mono ?_
  rintro e w3 ⟨⟨v3, rfl, h3⟩, hb3⟩
  go_wp2_with fail
  refine (wProduct 128 128 v2 v3 _ _ w3 (h2.later hb3) h3 (by omega) (by omega)).mono ?_
  rintro e w4 ⟨⟨v4, rfl, h4⟩, hb4⟩
  go_wp2_with fail
  refine (wTo _ v4 _ w4 h4 (by omega)).mono ?_
  rintro e w5 ⟨⟨v5, rfl, h5⟩, hb5⟩
  have HB := show Hid (Below w.heap.size w w5) from HS.out.2.2.trans ((hb2.trans ((hb3.trans ((hb4.trans (hb5.mono hb4.size)).mono hb3.size)).mono hb2.size)).mono HS.out.2.2.size)
  clear h2 h3 h4 hb2 hb3 hb4 hb5
  go_wp2_with fail
  go_ret2
  exact numOk_mk h5 HB.out
end Go.Proofs.YtpcmpeeflnlkpaaGreatDoor

/-
  Package nat: Div.
-/
namespace Go.Proofs.YtpcmpeeflnlkpaaGreatDoor
open Go.RowKit Ch
set_option maxRecDepth 100000

def DivOk (w w' : World) (M N : Nat) (e : Ending) : Prop := ∃ v1 v2, e = .returned (.tuple #[v1, v2, .int .i64 0]) ∧ IsNum w' v1 (M / N) ∧ IsNum w' v2 (M % N) ∧ Below w.heap.size w w'
theorem divOk_mk {w w' : World} {M N : Nat} {v1 v2 : Value} (h1 : IsNum w' v1 (M / N)) (h2 : IsNum w' v2 (M % N)) (hb : Below w.heap.size w w') : DivOk w w' M N (.returned (.tuple #[v1, v2, .int .i64 0])) := ⟨v1, v2, rfl, h1, h2, hb⟩
theorem IsNum.later {w w' : World} {v : Value} {N : Nat} (h : IsNum w v N) (hb : Below w.heap.size w w') : IsNum w' v N := by
  obtain ⟨R, y, c, h1, h2, h3⟩ := h
  exact ⟨R, y, c, h1, h2.later hb, h3⟩
/-- A value of words, with its length. -/
theorem IsW.shape {n : Nat} {w : World} {v : Value} {N : Nat} (h : IsW n w v N) : ∃ y l c, v = .slice y l c ∧ (l = 0 ↔ N = 0) ∧ l ≤ n := by
  obtain ⟨y, c, L, h1, _, _, h4, h5, h6⟩ := h
  refine ⟨y, L.length, c, h1, ?_, h6⟩
  rw [← h5, tidy_nil h4]
  exact List.length_eq_zero_iff
set_option maxHeartbeats 1000000 in
theorem nDiv_any (x y : Option Addr) (cx cy : Nat) (s t : ByteArray) (w : World) (hS : IsBytes w (.slice x s.size cx) s) (hT : IsBytes w (.slice y t.size cy) t) (hs : s.size ≤ 1024) (ht : t.size ≤ 1024) (h0 : numB t.data.toList ≠ 0) :
    Calls Tryz.prog 71 #[.slice x s.size cx, .slice y t.size cy] w fun e w' => DivOk w w' (numB s.data.toList) (numB t.data.toList) e := by
  have hSl := IsSl.two hS hT
  have hb0 : Below w.heap.size w (w.alloc (.cells #[.slice x s.size cx, .slice y t.size cy] 22)) := (Below.refl _ w).alloc (Nat.le_refl _) _
  have hL := nAnyLong_any _ _ _ hSl (by simp)
  have hlo : longAny [s, t] = false := by simp [longAny]; omega
  rw [hlo] at hL
  generalize hW : w.alloc (.cells #[.slice x s.size cx, .slice y t.size cy] 22) = W0 at *
  have HS := show Hid (IsBytes W0 (.slice x s.size cx) s ∧ IsBytes W0 (.slice y t.size cy) t ∧ Below w.heap.size w W0) from ⟨hS.later hb0, hT.later hb0, hb0⟩
  clear hS hT hb0 hSl hlo
  go_enter Tryz.func71, Tryz.ntmps71
  go_wp2_with fail
  refine hL.mono ?_
  rintro e w1 ⟨rfl, rfl⟩
  clear hL
  go_wp2_with fail
  refine (wFrom y cy t w1 HS.out.2.1 ht).mono ?_
  rintro e w2 ⟨⟨v2, rfl, h2⟩, hb2⟩
  obtain ⟨yy, l, c, rfl, hl0, _⟩ := id h2.shape
  have hl1 : ((l : Int) == 0) = false := by
    have : l ≠ 0 := fun h => h0 (hl0.1 h)
    simp
    omega
  have HW2 := show Hid (IsW 128 w2 (.slice yy l c) (numB t.data.toList)) from h2
  clear h2 hl0
  go_wp2_with fail
  refine (wFrom x cx s w2 (HS.out.1.later hb2) hs).mono ?_
  rintro e w3 ⟨⟨v3, rfl, h3⟩, hb3⟩
  have hDv := wDivide 128 128 v3 (.slice yy l c) _ _ w3 h3 (HW2.out.later hb3) (by omega) h0
  go_wp2_with fail
  refine hDv.mono ?_
  rintro e w4 ⟨v4, v5, rfl, h4, h5, hb4⟩
  clear hDv
  go_wp2_with fail
  refine (wTo _ v4 _ w4 h4 (by omega)).mono ?_
  rintro e w5 ⟨⟨v6, rfl, h6⟩, hb5⟩
  go_wp2_with fail
  refine (wTo _ v5 _ w5 (h5.later hb5) (by omega)).mono ?_
  rintro e w6 ⟨⟨v7, rfl, h7⟩, hb6⟩
  have HB := show Hid (Below w.heap.size w w6) from HS.out.2.2.trans ((hb2.trans ((hb3.trans ((hb4.trans ((hb5.trans (hb6.mono hb5.size)).mono hb4.size)).mono hb3.size)).mono hb2.size)).mono HS.out.2.2.size)
  have H6 := show Hid (IsNum w6 v6 (numB s.data.toList / numB t.data.toList)) from h6.later hb6
  clear h3 h4 h5 h6 hb2 hb3 hb4 hb5 hb6 HW2
  go_wp2_with fail
  go_ret3
  exact divOk_mk H6.out h7 HB.out
end Go.Proofs.YtpcmpeeflnlkpaaGreatDoor

/-
  Package nat: Sub.
-/
namespace Go.Proofs.YtpcmpeeflnlkpaaGreatDoor
open Go.RowKit Ch
set_option maxRecDepth 100000

set_option maxHeartbeats 1000000 in
theorem nSub_any (x y : Option Addr) (cx cy : Nat) (s t : ByteArray) (w : World) (hS : IsBytes w (.slice x s.size cx) s) (hT : IsBytes w (.slice y t.size cy) t) (hs : s.size ≤ 1024) (ht : t.size ≤ 1024) (hle : numB t.data.toList ≤ numB s.data.toList) :
    Calls Tryz.prog 72 #[.slice x s.size cx, .slice y t.size cy] w fun e w' => NumOk w w' (numB s.data.toList - numB t.data.toList) e := by
  have hSl := IsSl.two hS hT
  have hb0 : Below w.heap.size w (w.alloc (.cells #[.slice x s.size cx, .slice y t.size cy] 22)) := (Below.refl _ w).alloc (Nat.le_refl _) _
  have hL := nAnyLong_any _ _ _ hSl (by simp)
  have hlo : longAny [s, t] = false := by simp [longAny]; omega
  rw [hlo] at hL
  have hC := nCmp_any x y cx cy s t _ (hS.later hb0) (hT.later hb0) (by omega) (by omega)
  have hc0 : ¬ cmpL s.data.toList t.data.toList < 0 := fun h => absurd ((cmp_num s.data.toList t.data.toList).1.1 h) (by omega)
  generalize hW : w.alloc (.cells #[.slice x s.size cx, .slice y t.size cy] 22) = W0 at *
  generalize cmpL s.data.toList t.data.toList = cc at *
  have HS := show Hid (IsBytes W0 (.slice x s.size cx) s ∧ IsBytes W0 (.slice y t.size cy) t ∧ Below w.heap.size w W0) from ⟨hS.later hb0, hT.later hb0, hb0⟩
  clear hS hT hb0 hSl hlo
  go_enter Tryz.func72, Tryz.ntmps72
  go_wp2_with fail
  refine hL.mono ?_
  rintro e w1 ⟨rfl, rfl⟩
  clear hL hW
  go_wp2_with fail
  refine hC.mono ?_
  rintro e w2 ⟨rfl, rfl⟩
  clear hC
  go_wp2_with fail
  refine (wFrom x cx s w2 HS.out.1 hs).mono ?_
  rintro e w3 ⟨⟨v3, rfl, h3⟩, hb3⟩
  go_wp2_with fail
  refine (wFrom y cy t w3 (HS.out.2.1.later hb3) ht).mono ?_
  rintro e w4 ⟨⟨v4, rfl, h4⟩, hb4⟩
  go_wp2_with fail
  refine (wDifference 128 128 v3 v4 _ _ w4 (h3.later hb4) h4 (by omega) hle).mono ?_
  rintro e w5 ⟨⟨v5, rfl, h5⟩, hb5⟩
  go_wp2_with fail
  refine (wTo _ v5 _ w5 h5 (by omega)).mono ?_
  rintro e w6 ⟨⟨v6, rfl, h6⟩, hb6⟩
  have HB := show Hid (Below w.heap.size w w6) from HS.out.2.2.trans ((hb3.trans ((hb4.trans ((hb5.trans (hb6.mono hb5.size)).mono hb4.size)).mono hb3.size)).mono HS.out.2.2.size)
  clear h3 h4 h5 hb3 hb4 hb5 hb6
  go_wp2_with fail
  go_ret2
  exact numOk_mk h6 HB.out
end Go.Proofs.YtpcmpeeflnlkpaaGreatDoor

/-
  Package nat: the closures of Exp and Gcd.
-/
namespace Go.Proofs.YtpcmpeeflnlkpaaGreatDoor
open Go.RowKit Ch
set_option maxRecDepth 100000

set_option maxHeartbeats 1000000 in
theorem nExpR_any (n m pb : Nat) (u v : Value) (M N : Nat) (w : World) (hu : IsW n w u M) (hc : w.cell? ⟨pb, 0, none⟩ = some v) (hv : IsW m w v N) (hn : n ≤ 20000) (h0 : N ≠ 0) :
    Calls Tryz.prog 50 #[u, .pointer (some ⟨pb, 0, none⟩)] w fun e w' => (∃ x, e = .returned x ∧ IsW m w' x (M % N)) ∧ Below w.heap.size w w' := by
  have hD := wDivide n m u v M N w hu hv hn h0
  obtain ⟨y, l, c, rfl, _, _⟩ := hv.shape
  obtain ⟨y', l', c', rfl, _, _⟩ := hu.shape
  clear hu hv
  go_enter Tryz.func50, Tryz.ntmps50
  go_wp2_with fail
  refine hD.mono ?_
  rintro e w1 ⟨v1, v2, rfl, h1, h2, hb⟩
  go_wp2_with fail
  go_ret
  exact ⟨⟨_, rfl, h2⟩, hb⟩
theorem nGcdS_any (v : Value) (w : World) : Calls Tryz.prog 95 #[v] w fun e w' => e = .returned (.tuple #[]) ∧ w' = w := by
  go_enter Tryz.func95, Tryz.ntmps95
  go_wp2_with fail
  go_end0
  exact ⟨rfl, rfl⟩
end Go.Proofs.YtpcmpeeflnlkpaaGreatDoor

/-
  Worlds that differ in some boxes alone. Of no layer alone.
-/
namespace Go.Proofs.YtpcmpeeflnlkpaaGreatDoor
open Go.RowKit Ch
set_option maxRecDepth 100000

/-- All blocks but these are kept. -/
structure KeptX (ps : List Nat) (w w' : World) : Prop where
  os : w'.os = w.os
  tape : w'.tape = w.tape
  output : w'.output = w.output
  size : w.heap.size ≤ w'.heap.size
  block : ∀ k, k < w.heap.size → k ∉ ps → w'.heap[k]? = w.heap[k]?
theorem KeptX.of {ps : List Nat} {w w' : World} (h : Below w.heap.size w w') : KeptX ps w w' := ⟨h.os, h.tape, h.output, h.size, fun k hk _ => h.block k hk⟩
theorem KeptX.trans {ps : List Nat} {a b c : World} (h : KeptX ps a b) (k : KeptX ps b c) : KeptX ps a c :=
  ⟨k.os.trans h.os, k.tape.trans h.tape, k.output.trans h.output, Nat.le_trans h.size k.size, fun i hi hn => (k.block i (Nat.lt_of_lt_of_le hi h.size) hn).trans (h.block i hi hn)⟩
theorem KeptX.below {ps : List Nat} {w w' : World} {B : Nat} (h : KeptX ps w w') (hB : B ≤ w.heap.size) (hp : ∀ p ∈ ps, B ≤ p) : Below B w w' :=
  ⟨h.os, h.tape, h.output, h.size, fun k hk => h.block k (by omega) (fun hm => by have := hp k hm; omega)⟩
/-- A block of one cell that is no number. -/
def BoxAt (w : World) (p : Nat) : Prop := ∃ x t, w.heap[p]? = some (.cells #[x] t (0, 0)) ∧ ∀ k z, x ≠ .int k z
theorem IsW.kept {n : Nat} {w w' : World} {v : Value} {N : Nat} {ps : List Nat} (h : IsW n w v N) (hk : KeptX ps w w') (hb : ∀ p ∈ ps, BoxAt w p) : IsW n w' v N := by
  obtain ⟨y, c, L, rfl, hI, h3, h4, h5, h6⟩ := h
  refine ⟨y, c, L, rfl, ?_, h3, h4, h5, h6⟩
  obtain ⟨a, cap, hv, hc, hm, hr⟩ := hI
  refine ⟨a, cap, hv, hc, hm, ?_⟩
  rcases hr with h1 | ⟨x, h1, h2⟩
  · exact .inl h1
  · refine .inr ⟨x, h1, ?_⟩
    rcases h2 with h2 | ⟨b, o, h2, h7, h8⟩
    · exact .inl h2
    · refine .inr ⟨b, o, h2, Nat.lt_of_lt_of_le h7 hk.size, fun i q hq => ?_⟩
      have hcell := h8 i q hq
      have hnp : b ∉ ps := by
        intro hmem
        obtain ⟨z, t, hz, hne⟩ := hb b hmem
        rw [cell_of_row w b (o + i) #[z] t (0, 0) hz] at hcell
        rcases ho : o + i with _ | j
        · rw [ho] at hcell
          simp only [List.getElem?_toArray, List.getElem?_cons_zero, Option.some.injEq] at hcell
          exact hne _ _ hcell
        · rw [ho] at hcell
          simp at hcell
      have hbl := hk.block b h7 hnp
      have e : w'.cell? ⟨b, o + i, none⟩ = w.cell? ⟨b, o + i, none⟩ := by
        unfold World.cell?
        rw [hbl]
      rw [e]
      exact hcell
end Go.Proofs.YtpcmpeeflnlkpaaGreatDoor

/-
  Package nat: euclid, with any step that keeps all but some boxes.
-/
namespace Go.Proofs.YtpcmpeeflnlkpaaGreatDoor
open Go.RowKit Ch
set_option maxRecDepth 100000

/-- The number that words in memory are. -/
def wVal (w : World) : Value → Nat
  | .slice (some a) n _ => numW ((List.range n).map fun i => match w.cell? (a.add i) with
    | some (.int _ z) => z.toNat
    | _ => 0)
  | _ => 0
theorem IsW.val {n : Nat} {w : World} {v : Value} {N : Nat} (h : IsW n w v N) : wVal w v = N := by
  obtain ⟨y, c, L, rfl, hI, _, _, h5, _⟩ := h
  obtain ⟨a, cap, hv, _, _, hr⟩ := hI
  simp only [Value.slice.injEq] at hv
  obtain ⟨rfl, _, _⟩ := hv
  rw [← h5]
  rcases hr with ⟨h1, h0, _⟩ | ⟨x, h1, h2⟩
  · subst h1
    rw [List.eq_nil_of_length_eq_zero h0]
    rfl
  · subst h1
    show numW _ = numW L
    congr 1
    rcases h2 with h2 | ⟨b, o, rfl, _, h8⟩
    · rw [List.eq_nil_of_length_eq_zero h2]
      rfl
    · apply List.ext_getElem?
      intro i
      rw [List.getElem?_map]
      by_cases hi : i < L.length
      · rw [List.getElem?_range hi, List.getElem?_eq_getElem hi]
        have e : (⟨b, o, none⟩ : Addr).add i = ⟨b, o + i, none⟩ := by unfold Addr.add; split <;> simp_all
        simp only [Option.map_some, e, h8 i _ (List.getElem?_eq_getElem hi), Int.toNat_natCast]
      · rw [List.getElem?_eq_none (by simp; omega), List.getElem?_eq_none (by omega)]
        rfl
set_option maxHeartbeats 2000000 in
theorem nEuclid_any (fn : Nat) (caps : Array Value) (ps : List Nat) (St : Nat → Nat → World → Prop) (n : Nat) (hn : n ≤ 20000) (eg : ∀ args w, (callFunc fn args).run Tryz.prog w = .ok (.enter fn args) w)
    (hstep : ∀ A B u v, St A B u → B ≠ 0 → IsW n u v (A / B) → Calls Tryz.prog fn (#[v] ++ caps) u fun e u' => e = .returned (.tuple #[]) ∧ St B (A % B) u' ∧ KeptX ps u u')
    (hbel : ∀ A B u u', St A B u → Below u.heap.size u u' → St A B u') (hbox : ∀ A B u, St A B u → ∀ p ∈ ps, BoxAt u p)
    (va vb : Value) (A B : Nat) (w : World) (hA : IsW n w va A) (hB : IsW n w vb B) (hS : St A B w) :
    Calls Tryz.prog 73 #[va, vb, .func (.func fn) #[] caps] w fun e w' => (∃ v, e = .returned v ∧ IsW n w' v (Nat.gcd A B)) ∧ St (Nat.gcd A B) 0 w' ∧ KeptX ps w w' := by
  have HST := show Hid (∀ A B u v, St A B u → B ≠ 0 → IsW n u v (A / B) → Calls Tryz.prog fn (#[v] ++ caps) u fun e u' => e = .returned (.tuple #[]) ∧ St B (A % B) u' ∧ KeptX ps u u') from hstep
  have H0 := show Hid (IsW n w va A ∧ IsW n w vb B ∧ St A B w) from ⟨hA, hB, hS⟩
  clear hstep hA hB hS
  go_enter Tryz.func73, Tryz.ntmps73
  go_wp2_with fail
  go_loopw [0, 1] (fun p q wr => ∃ a b : Nat, Hid (Nat.gcd a b = Nat.gcd A B) ∧ Hid (IsW n wr p a ∧ IsW n wr q b ∧ St a b wr ∧ KeptX ps w wr)) (fun _ q wr => wVal wr q)
  case atStart => exact ⟨A, B, rfl, H0.out.1, H0.out.2.1, H0.out.2.2, KeptX.of (Below.refl _ _)⟩
  case round =>
    obtain ⟨a, b, hg, hI⟩ := hrel
    obtain ⟨y, l, c, rfl, hl0, _⟩ := hI.out.2.1.shape
    by_cases hb0 : b = 0
    · have hl : l = 0 := hl0.2 hb0
      subst hl
      have HF := show Hid (IsW n wr u0 (Nat.gcd A B) ∧ St (Nat.gcd A B) 0 wr ∧ KeptX ps w wr) from by
        have h1 := hg.out
        rw [hb0, Nat.gcd_zero_right] at h1
        rw [← h1]
        have h2 := hI.out.2.2.1
        rw [hb0] at h2
        exact ⟨hI.out.1, h2, hI.out.2.2.2⟩
      clear hI hl0
      go_wp2_with fail
      go_ret
      exact ⟨⟨_, rfl, HF.out.1⟩, HF.out.2.1, HF.out.2.2⟩
    · have hl : (0 : Int) < (l : Int) := by
        have : l ≠ 0 := fun h => hb0 (hl0.1 h)
        omega
      have hD := wDivide n n u0 (.slice y l c) a b wr hI.out.1 hI.out.2.1 hn hb0
      have HV := show Hid (wVal wr (.slice y l c) = b) from hI.out.2.1.val
      clear hl0
      go_wp2_with fail
      refine hD.mono ?_
      rintro e w1 ⟨vq, vr, rfl, hq, hr, hb1⟩
      clear hD
      have hSt := HST.out a b w1 vq (hbel _ _ _ _ hI.out.2.2.1 hb1) hb0 hq
      go_wp2_with fail
      refine hSt.mono ?_
      rintro e w2 ⟨rfl, hS2, hK2⟩
      clear hSt
      have hbx := hbox _ _ _ (hbel _ _ _ _ hI.out.2.2.1 hb1)
      have HN := show Hid (IsW n w2 (.slice y l c) b ∧ IsW n w2 vr (a % b) ∧ St b (a % b) w2 ∧ KeptX ps w w2) from ⟨(hI.out.2.1.later hb1).kept hK2 hbx, hr.kept hK2 hbx, hS2, hI.out.2.2.2.trans ((KeptX.of hb1).trans hK2)⟩
      have HG2 := show Hid (Nat.gcd b (a % b) = Nat.gcd A B) from by unfold Hid; rw [← hg.out, Nat.gcd_comm a b, Nat.gcd_rec b a, Nat.gcd_comm]
      have HM := show Hid (wVal w2 vr = a % b) from HN.out.2.1.val
      clear hq hr hb1 hS2 hK2 hbx hI
      go_wp2_with fail
      go_roundw
      case rel => exact ⟨b, a % b, HG2.out, HN.out⟩
      case measure =>
        rw [HM.out, HV.out]
        exact Nat.mod_lt _ (Nat.pos_of_ne_zero hb0)
end Go.Proofs.YtpcmpeeflnlkpaaGreatDoor

/-
  Package nat: Gcd.
-/
namespace Go.Proofs.YtpcmpeeflnlkpaaGreatDoor
open Go.RowKit Ch
set_option maxRecDepth 100000

set_option maxHeartbeats 1000000 in
theorem nGcd_any (x y : Option Addr) (cx cy : Nat) (s t : ByteArray) (w : World) (hS : IsBytes w (.slice x s.size cx) s) (hT : IsBytes w (.slice y t.size cy) t) (hs : s.size ≤ 1024) (ht : t.size ≤ 1024) :
    Calls Tryz.prog 70 #[.slice x s.size cx, .slice y t.size cy] w fun e w' => NumOk w w' (Nat.gcd (numB s.data.toList) (numB t.data.toList)) e := by
  have hSl := IsSl.two hS hT
  have hb0 : Below w.heap.size w (w.alloc (.cells #[.slice x s.size cx, .slice y t.size cy] 22)) := (Below.refl _ w).alloc (Nat.le_refl _) _
  have hL := nAnyLong_any _ _ _ hSl (by simp)
  have hlo : longAny [s, t] = false := by simp [longAny]; omega
  rw [hlo] at hL
  generalize hW : w.alloc (.cells #[.slice x s.size cx, .slice y t.size cy] 22) = W0 at *
  have HS := show Hid (IsBytes W0 (.slice x s.size cx) s ∧ IsBytes W0 (.slice y t.size cy) t ∧ Below w.heap.size w W0) from ⟨hS.later hb0, hT.later hb0, hb0⟩
  have hmf : ∀ (fn : Fn) (first cap : Array Value) (w : World), (Instr.makeFunc fn first cap).run Tryz.prog w = .ok (.func fn first cap) w := fun _ _ _ _ => rfl
  clear hS hT hb0 hSl hlo
  go_enter Tryz.func70, Tryz.ntmps70
  go_wp2_with fail
  refine hL.mono ?_
  rintro e w1 ⟨rfl, rfl⟩
  clear hL hW
  go_wp2_with fail
  refine (wFrom x cx s w1 HS.out.1 hs).mono ?_
  rintro e w2 ⟨⟨v2, rfl, h2⟩, hb2⟩
  go_wp2_with fail
  refine (wFrom y cy t w2 (HS.out.2.1.later hb2) ht).mono ?_
  rintro e w3 ⟨⟨v3, rfl, h3⟩, hb3⟩
  have hE := nEuclid_any 95 #[] [] (fun _ _ _ => True) 128 (by omega) (enters_of Tryz.func95 (by kernel_rfl) rfl) (fun A B u v _ _ _ => (nGcdS_any v u).mono (by rintro e u' ⟨rfl, rfl⟩; exact ⟨rfl, trivial, KeptX.of (Below.refl _ _)⟩)) (fun _ _ _ _ _ _ => trivial) (fun _ _ _ _ p hp => by cases hp) v2 v3 _ _ w3 (h2.later hb3) h3 trivial
  go_wp2_with fail
  refine hE.mono ?_
  rintro e w4 ⟨⟨v4, rfl, h4⟩, _, hk4⟩
  clear hE
  have hb4 : Below w3.heap.size w3 w4 := hk4.below (Nat.le_refl _) (fun p hp => by cases hp)
  go_wp2_with fail
  refine (wTo _ v4 _ w4 h4 (by omega)).mono ?_
  rintro e w5 ⟨⟨v5, rfl, h5⟩, hb5⟩
  have HB := show Hid (Below w.heap.size w w5) from HS.out.2.2.trans ((hb2.trans ((hb3.trans ((hb4.trans (hb5.mono hb4.size)).mono hb3.size)).mono hb2.size)).mono HS.out.2.2.size)
  clear h2 h3 h4 hb2 hb3 hb4 hb5 hk4
  go_wp2_with fail
  go_ret2
  exact numOk_mk h5 HB.out
end Go.Proofs.YtpcmpeeflnlkpaaGreatDoor
