/-
  Slices of slices of bytes. Of no layer alone (layer 5 has them in KSum, KHex, KStr, KPieces).
  Package nat: is a number too long?
  cmp.Compare of ints.
  bytes.Compare of two slices.
  bytes.Compare.
  nat.Cmp.
-/
import Derived.Test.YthfgbcpppamboaaGPlainEtc
import Derived.Lib.BytesEntry
import Derived.Lib.Bytealg
import Derived.Test.YthfgbcpppamboaaNBare
namespace Go.Proofs.Ythfgbcpppamboaa
open Go.RowKit Ch
set_option maxRecDepth 100000

/-- A slice of slices of bytes. -/
def IsSl (W : World) (v : Value) (ls : List ByteArray) : Prop := ∃ a cap, v = .slice a ls.length cap ∧ (ls.length = 0 ∨ ∃ b o, a = some ⟨b, o, none⟩ ∧ b < W.heap.size ∧ ∀ i t, ls[i]? = some t → ∃ u, W.cell? ⟨b, o + i, none⟩ = some u ∧ IsBytes W u t)
theorem IsSl.later {W W' : World} {v : Value} {ls : List ByteArray} (h : IsSl W v ls) (hb : Below W.heap.size W W') : IsSl W' v ls := by
  obtain ⟨a, cap, hv, h | ⟨b, o, h1, h2, h3⟩⟩ := h
  · exact ⟨a, cap, hv, .inl h⟩
  · refine ⟨a, cap, hv, .inr ⟨b, o, h1, Nat.lt_of_lt_of_le h2 hb.size, fun i t ht => ?_⟩⟩
    obtain ⟨u, hu, hI⟩ := h3 i t ht
    exact ⟨u, (hb.cell (p := ⟨b, o + i, none⟩) h2).trans hu, hI.later hb⟩
theorem IsSl.one {W : World} {u : Value} {t : ByteArray} (hI : IsBytes W u t) : IsSl (W.alloc (.cells #[u] 22)) (.slice (some ⟨W.heap.size, 0, none⟩) 1 1) [t] := by
  refine ⟨_, 1, rfl, .inr ⟨W.heap.size, 0, rfl, by simp, fun i t' ht => ?_⟩⟩
  rcases i with _ | i
  · simp only [List.getElem?_cons_zero, Option.some.injEq] at ht
    subst ht
    exact ⟨u, block_cell 0 (heap_push_at W _) rfl, hI.alloc _⟩
  · cases ht
theorem IsSl.two {W : World} {u u' : Value} {t t' : ByteArray} (hI : IsBytes W u t) (hI' : IsBytes W u' t') : IsSl (W.alloc (.cells #[u, u'] 22)) (.slice (some ⟨W.heap.size, 0, none⟩) 2 2) [t, t'] := by
  refine ⟨_, 2, rfl, .inr ⟨W.heap.size, 0, rfl, by simp, fun i t0 ht => ?_⟩⟩
  rcases i with _ | _ | i
  · simp only [List.getElem?_cons_zero, Option.some.injEq] at ht
    subst ht
    exact ⟨u, block_cell 0 (heap_push_at W _) rfl, hI.alloc _⟩
  · simp only [List.getElem?_cons_succ, List.getElem?_cons_zero, Option.some.injEq] at ht
    subst ht
    exact ⟨u', block_cell 1 (heap_push_at W _) rfl, hI'.alloc _⟩
  · cases ht
theorem IsSl.three {W : World} {u u' u'' : Value} {t t' t'' : ByteArray} (hI : IsBytes W u t) (hI' : IsBytes W u' t') (hI'' : IsBytes W u'' t'') : IsSl (W.alloc (.cells #[u, u', u''] 22)) (.slice (some ⟨W.heap.size, 0, none⟩) 3 3) [t, t', t''] := by
  have hN := heap_push_at W (.cells #[u, u', u''] 22)
  refine ⟨_, 3, rfl, .inr ⟨W.heap.size, 0, rfl, block_lt hN, fun i z hz => ?_⟩⟩
  rcases i with _ | _ | _ | i
  · simp only [List.getElem?_cons_zero, Option.some.injEq] at hz
    subst hz
    exact ⟨_, block_cell 0 hN rfl, hI.alloc _⟩
  · simp only [List.getElem?_cons_succ, List.getElem?_cons_zero, Option.some.injEq] at hz
    subst hz
    exact ⟨_, block_cell 1 hN rfl, hI'.alloc _⟩
  · simp only [List.getElem?_cons_succ, List.getElem?_cons_zero, Option.some.injEq] at hz
    subst hz
    exact ⟨_, block_cell 2 hN rfl, hI''.alloc _⟩
  · cases hz
end Go.Proofs.Ythfgbcpppamboaa

namespace Go.Proofs.Ythfgbcpppamboaa
open Go.RowKit Ch
set_option maxRecDepth 100000

def longAny (ls : List ByteArray) : Bool := ls.any fun t => decide (1024 < t.size)
set_option maxHeartbeats 2000000 in
theorem nAnyLong_any (v : Value) (ls : List ByteArray) (w : World) (hI : IsSl w v ls) (hn : ls.length ≤ 1000) :
    Calls Try.prog 31 #[v] w fun e w' => e = .returned (.bool (longAny ls)) ∧ w' = w := by
  obtain ⟨a, cap, rfl, hrest⟩ := hI
  obtain ⟨n, hne⟩ : ∃ n, ls.length = n := ⟨_, rfl⟩
  have HN := show Hid (ls.length = n) from hne
  rw [hne] at hrest hn ⊢
  have HI := show Hid (n = 0 ∨ ∃ b o, a = some ⟨b, o, none⟩ ∧ b < w.heap.size ∧ ∀ i t, ls[i]? = some t → ∃ u, w.cell? ⟨b, o + i, none⟩ = some u ∧ IsBytes w u t) from hrest
  clear hne hrest
  go_enter Try.func31, Try.ntmps31
  go_wp2_with fail
  go_loopw [7] (fun t wr => ∃ i : Nat, i ≤ n ∧ t = .int .i64 (i : Int) ∧ Hid (longAny (ls.take i) = false) ∧ wr = w) (fun t _ => n - (intOf t).toNat)
  case atStart => exact ⟨0, by omega, rfl, by unfold Hid; rfl, rfl⟩
  case round =>
    obtain ⟨i, hi, rfl, hall, rfl⟩ := hrel
    by_cases hlt : i < n
    · have hlt2 : (i : Int) < (n : Int) := by omega
      obtain ⟨t, ht⟩ : ∃ t, ls[i]? = some t := ⟨_, List.getElem?_eq_getElem (by rw [HN.out]; exact hlt)⟩
      obtain ⟨b, o, rfl, hbl, hcell⟩ := HI.out.resolve_left (by omega)
      obtain ⟨u, gU, hT⟩ := hcell i t ht
      obtain ⟨xt, ct, rfl, hx1⟩ := id hT
      clear hx1 hcell
      have HT := show Hid (ls[i]? = some t) from ht
      clear ht hT
      by_cases h1k : 1024 < t.size
      · have h1k2 : (1024 : Int) < (t.size : Int) := by omega
        have HR := show Hid (longAny ls = true) from by
          unfold Hid longAny
          rw [List.any_eq_true]
          exact ⟨t, List.mem_of_getElem? HT.out, by simpa using h1k⟩
        go_wp2_with fail
        go_ret
        exact ⟨by rw [HR.out]; rfl, rfl⟩
      · have h1k2 : ¬ (1024 : Int) < (t.size : Int) := by omega
        have HR := show Hid (longAny (ls.take (i + 1)) = false) from by
          have h := hall.out
          unfold Hid
          unfold longAny at h ⊢
          rw [List.take_add_one, HT.out, List.any_append, h]
          simpa using h1k
        go_wp2_with fail
        go_roundw
        case rel => exact ⟨i + 1, by omega, by go_num, HR.out, trivial⟩
        case measure => simp [intOf]; omega
    · have hlt2 : ¬ (i : Int) < (n : Int) := by omega
      obtain rfl : i = n := by omega
      have HR := show Hid (longAny ls = false) from by
        have h := hall.out
        rw [List.take_of_length_le (by rw [HN.out]; exact Nat.le_refl _)] at h
        exact h
      go_wp2_with fail
      go_ret
      exact ⟨by rw [HR.out]; rfl, rfl⟩
end Go.Proofs.Ythfgbcpppamboaa

namespace Go.Proofs.Ythfgbcpppamboaa
open Go.RowKit Ch
set_option maxRecDepth 100000

theorem cIsNaN_any (x : Int) (w : World) : Calls Try.prog 54 #[.int .i64 x] w fun e w' => e = .returned (.bool false) ∧ w' = w := by
  have h : (x != x) = false := by simp
  go_enter Try.func54, Try.ntmps54
  go_wp2_with fail
  go_ret
  exact ⟨rfl, rfl⟩
def cmpI (a b : Int) : Int := if a < b then -1 else if b < a then 1 else 0
set_option maxHeartbeats 1000000 in
theorem cCompare_any (a b : Int) (w : World) : Calls Try.prog 40 #[.int .i64 a, .int .i64 b] w fun e w' => e = .returned (.int .i64 (cmpI a b)) ∧ w' = w := by
  have hA := cIsNaN_any a w
  have hB := cIsNaN_any b w
  by_cases h1 : a < b
  · have HR := show Hid (cmpI a b = -1) from by unfold Hid cmpI; rw [if_pos h1]
    go_enter Try.func40, Try.ntmps40
    go_wp2_with fail
    refine hA.mono ?_
    rintro e w1 ⟨rfl, rfl⟩
    go_wp2_with fail
    refine hB.mono ?_
    rintro e w2 ⟨rfl, rfl⟩
    go_wp2_with fail
    go_ret
    exact ⟨by rw [HR.out]; rfl, rfl⟩
  · by_cases h2 : b < a
    · have HR := show Hid (cmpI a b = 1) from by unfold Hid cmpI; rw [if_neg h1, if_pos h2]
      go_enter Try.func40, Try.ntmps40
      go_wp2_with fail
      refine hA.mono ?_
      rintro e w1 ⟨rfl, rfl⟩
      go_wp2_with fail
      refine hB.mono ?_
      rintro e w2 ⟨rfl, rfl⟩
      go_wp2_with fail
      go_ret
      exact ⟨by rw [HR.out]; rfl, rfl⟩
    · have HR := show Hid (cmpI a b = 0) from by unfold Hid cmpI; rw [if_neg h1, if_neg h2]
      go_enter Try.func40, Try.ntmps40
      go_wp2_with fail
      refine hA.mono ?_
      rintro e w1 ⟨rfl, rfl⟩
      go_wp2_with fail
      refine hB.mono ?_
      rintro e w2 ⟨rfl, rfl⟩
      go_wp2_with fail
      go_ret
      exact ⟨by rw [HR.out]; rfl, rfl⟩
end Go.Proofs.Ythfgbcpppamboaa

namespace Go.Proofs.Ythfgbcpppamboaa
open Go.RowKit Ch
set_option maxRecDepth 100000

theorem run_bytesOf {w : World} {v : Value} {s : ByteArray} (h : IsBytes w v s) : (Extern.Bytes.bytesOf v).run Try.prog w = .ok s w := by
  obtain ⟨a, cap, rfl, hc, hm, ⟨rfl, h0, _⟩ | ⟨x, rfl, h0 | ⟨b, o, rfl, hb, hf⟩⟩⟩ := h
  · rw [empty_of_size h0]
    rfl
  · rw [h0, empty_of_size h0]
    exact Lib.run_loadBytesX (P := Try.prog) w [] x .empty (fun j x hj => by cases hj)
  · have e := Lib.run_loadBytesX (P := Try.prog) w ((List.range s.size).map fun i => (byte s i : Int)) ⟨b, o, none⟩ .empty (fun j q hj => by
      rw [List.getElem?_map] at hj
      by_cases hjs : j < s.size
      · rw [List.getElem?_range hjs] at hj
        have e1 : (⟨b, o, none⟩ : Addr).add j = ⟨b, o + j, none⟩ := by unfold Addr.add; split <;> simp_all
        have := hf j (by omega)
        rw [Nat.zero_add] at this
        rw [e1, this]
        simp only [Option.map_some, Option.some.injEq] at hj
        rw [hj]
      · rw [List.getElem?_eq_none (by simp; omega)] at hj
        cases hj)
    rw [List.length_map, List.length_range] at e
    have e2 : (⟨ByteArray.empty.data ++ (Lib.bytesOf ((List.range s.size).map fun i => (byte s i : Int))).toArray⟩ : ByteArray) = s := by
      have := nums_of s
      refine Eq.trans ?_ this
      apply ByteArray.ext
      apply Array.toList_inj.1
      rw [strOfNums_data]
      show (ByteArray.empty.data ++ (Lib.bytesOf ((List.range s.size).map fun i => (byte s i : Int))).toArray).toList = _
      rw [Array.toList_append, Lib.bytesOf]
      have h0 : ByteArray.empty.data.toList = [] := by rfl
      rw [h0, List.nil_append]
    rw [e2] at e
    exact e
theorem compare_run {w : World} {v u : Value} {s t : ByteArray} (hs : IsBytes w v s) (ht : IsBytes w u t) :
    (callFunc 55 #[v, u]).run Try.prog w = .ok (.value (.int .i64 (Lib.compareBytes s.data.toList t.data.toList))) w := by
  rw [run_callFunc_extern Try.func55 (by kernel_rfl) (by kernel_rfl) (by kernel_rfl) (e := Extern.BytealgCompare.compare) (by kernel_rfl)]
  have e : (Extern.BytealgCompare.compare #[v, u]).run Try.prog w = .ok (.int .i64 (Lib.compareBytes s.data.toList t.data.toList)) w := by
    change Sem.run Try.prog (do pure (goInt (Extern.BytealgCompare.cmp (← Extern.Bytes.bytesOf v) (← Extern.Bytes.bytesOf u)))) w = _
    simp only [Sem.run_bind, run_bytesOf hs, run_bytesOf ht, Sem.run_pure, Result.andThen]
    rw [Lib.cmp_eq]
    rfl
  rw [e]
  rfl
end Go.Proofs.Ythfgbcpppamboaa

namespace Go.Proofs.Ythfgbcpppamboaa
open Go.RowKit Ch
set_option maxRecDepth 100000

theorem cBytesCompare_any {w : World} {v u : Value} {s t : ByteArray} (hs : IsBytes w v s) (ht : IsBytes w u t) :
    Calls Try.prog 41 #[v, u] w fun e w' => e = .returned (.int .i64 (Lib.compareBytes s.data.toList t.data.toList)) ∧ w' = w := by
  have hc := compare_run hs ht
  go_enter Try.func41, Try.ntmps41
  go_wp2_with fail
  go_ret
  exact ⟨rfl, rfl⟩
end Go.Proofs.Ythfgbcpppamboaa

namespace Go.Proofs.Ythfgbcpppamboaa
open Go.RowKit Ch
set_option maxRecDepth 100000

def cmpL (a b : List UInt8) : Int := if (bareL a).length = (bareL b).length then Lib.compareBytes (bareL a) (bareL b) else cmpI (bareL a).length (bareL b).length
set_option maxHeartbeats 1000000 in
theorem nCmp_any (x y : Option Addr) (cx cy : Nat) (s t : ByteArray) (w : World) (hS : IsBytes w (.slice x s.size cx) s) (hT : IsBytes w (.slice y t.size cy) t) (hs : s.size ≤ 1000000) (ht : t.size ≤ 1000000) :
    Calls Try.prog 19 #[.slice x s.size cx, .slice y t.size cy] w fun e w' => e = .returned (.int .i64 (cmpL s.data.toList t.data.toList)) ∧ w' = w := by
  have hA := nBare_any x cx s w hS hs
  have hB := nBare_any y cy t w hT ht
  clear hS hT
  go_enter Try.func19, Try.ntmps19
  go_wp2_with fail
  refine hA.mono ?_
  rintro e w1 ⟨⟨ya, ma, ca, rfl, hma, ha⟩, rfl⟩
  have HA := show Hid (ma = (bareL s.data.toList).length) from hma
  clear hma hA
  go_wp2_with fail
  refine hB.mono ?_
  rintro e w2 ⟨⟨yb, mb, cb, rfl, hmb, hb⟩, rfl⟩
  have HB := show Hid (mb = (bareL t.data.toList).length) from hmb
  clear hmb hB
  have hC := cBytesCompare_any ha hb
  have hI := cCompare_any (ma : Int) (mb : Int) w2
  clear ha hb
  by_cases h : ma = mb
  · subst h
    have h1 : ((ma : Int) != (ma : Int)) = false := by simp
    go_wp2_with fail
    refine hC.mono ?_
    rintro e w3 ⟨rfl, rfl⟩
    go_wp2_with fail
    go_ret
    exact ⟨by unfold cmpL; rw [if_pos (by rw [← HA.out, ← HB.out])]; rfl, rfl⟩
  · have h1 : ((ma : Int) != (mb : Int)) = true := by simp; omega
    go_wp2_with fail
    refine hI.mono ?_
    rintro e w3 ⟨rfl, rfl⟩
    go_wp2_with fail
    go_ret
    exact ⟨by unfold cmpL; rw [if_neg (by rw [← HA.out, ← HB.out]; exact h), ← HA.out, ← HB.out]; rfl, rfl⟩
end Go.Proofs.Ythfgbcpppamboaa
