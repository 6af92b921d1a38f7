/-
  cmp.Compare of ints.
  bytes.Compare of two slices.
  bytes.Compare.
  nat.Cmp.
-/
import Derived.Test.YthdoginhbhdmbaaGen2
import Derived.Test.YthdoginhbhdmbaaHGen
import Derived.Lib.BytesEntry
import Derived.Lib.Bytealg
import Derived.Test.YthdoginhbhdmbaaNBareEtc
namespace Go.Proofs.Ythdoginhbhdmbaa
open Go.RowKit Ch
set_option maxRecDepth 100000

theorem cIsNaN_any (x : Int) (w : World) : Calls Try.prog 64 #[.int .i64 x] w fun e w' => e = .returned (.bool false) ∧ w' = w := by
  have h : (x != x) = false := by simp
  go_enter Try.func64, Try.ntmps64
  go_wp2_with fail
  go_ret
  exact ⟨rfl, rfl⟩
def cmpI (a b : Int) : Int := if a < b then -1 else if b < a then 1 else 0
set_option maxHeartbeats 1000000 in
theorem cCompare_any (a b : Int) (w : World) : Calls Try.prog 61 #[.int .i64 a, .int .i64 b] w fun e w' => e = .returned (.int .i64 (cmpI a b)) ∧ w' = w := by
  have hA := cIsNaN_any a w
  have hB := cIsNaN_any b w
  by_cases h1 : a < b
  · have HR := show Hid (cmpI a b = -1) from by unfold Hid cmpI; rw [if_pos h1]
    go_enter Try.func61, Try.ntmps61
    go_wp2_with fail
    refine hA.mono ?_
    rintro e w1 ⟨rfl, rfl⟩
    go_wp2_with fail
    refine hB.mono ?_
    rintro e w2 ⟨rfl, rfl⟩
    go_wp2_with fail
    go_ret
    exact ⟨by rw [HR.out]; rfl, rfl⟩
  · by_cases h2 : b < a
    · have HR := show Hid (cmpI a b = 1) from by unfold Hid cmpI; rw [if_neg h1, if_pos h2]
      go_enter Try.func61, Try.ntmps61
      go_wp2_with fail
      refine hA.mono ?_
      rintro e w1 ⟨rfl, rfl⟩
      go_wp2_with fail
      refine hB.mono ?_
      rintro e w2 ⟨rfl, rfl⟩
      go_wp2_with fail
      go_ret
      exact ⟨by rw [HR.out]; rfl, rfl⟩
    · have HR := show Hid (cmpI a b = 0) from by unfold Hid cmpI; rw [if_neg h1, if_neg h2]
      go_enter Try.func61, Try.ntmps61
      go_wp2_with fail
      refine hA.mono ?_
      rintro e w1 ⟨rfl, rfl⟩
      go_wp2_with fail
      refine hB.mono ?_
      rintro e w2 ⟨rfl, rfl⟩
      go_wp2_with fail
      go_ret
      exact ⟨by rw [HR.out]; rfl, rfl⟩
end Go.Proofs.Ythdoginhbhdmbaa

namespace Go.Proofs.Ythdoginhbhdmbaa
open Go.RowKit Ch
set_option maxRecDepth 100000

theorem run_bytesOf {w : World} {v : Value} {s : ByteArray} (h : IsBytes w v s) : (Extern.Bytes.bytesOf v).run Try.prog w = .ok s w := by
  obtain ⟨a, cap, rfl, hc, hm, ⟨rfl, h0, _⟩ | ⟨x, rfl, h0 | ⟨b, o, rfl, hb, hf⟩⟩⟩ := h
  · rw [empty_of_size h0]
    rfl
  · rw [h0, empty_of_size h0]
    exact Lib.run_loadBytesX (P := Try.prog) w [] x .empty (fun j x hj => by cases hj)
  · have e := Lib.run_loadBytesX (P := Try.prog) w ((List.range s.size).map fun i => (byte s i : Int)) ⟨b, o, none⟩ .empty (fun j q hj => by
      rw [List.getElem?_map] at hj
      by_cases hjs : j < s.size
      · rw [List.getElem?_range hjs] at hj
        have e1 : (⟨b, o, none⟩ : Addr).add j = ⟨b, o + j, none⟩ := by unfold Addr.add; split <;> simp_all
        have := hf j (by omega)
        rw [Nat.zero_add] at this
        rw [e1, this]
        simp only [Option.map_some, Option.some.injEq] at hj
        rw [hj]
      · rw [List.getElem?_eq_none (by simp; omega)] at hj
        cases hj)
    rw [List.length_map, List.length_range] at e
    have e2 : (⟨ByteArray.empty.data ++ (Lib.bytesOf ((List.range s.size).map fun i => (byte s i : Int))).toArray⟩ : ByteArray) = s := by
      have := nums_of s
      refine Eq.trans ?_ this
      apply ByteArray.ext
      apply Array.toList_inj.1
      rw [strOfNums_data]
      show (ByteArray.empty.data ++ (Lib.bytesOf ((List.range s.size).map fun i => (byte s i : Int))).toArray).toList = _
      rw [Array.toList_append, Lib.bytesOf]
      have h0 : ByteArray.empty.data.toList = [] := by rfl
      rw [h0, List.nil_append]
    rw [e2] at e
    exact e
theorem compare_run {w : World} {v u : Value} {s t : ByteArray} (hs : IsBytes w v s) (ht : IsBytes w u t) :
    (callFunc 65 #[v, u]).run Try.prog w = .ok (.value (.int .i64 (Lib.compareBytes s.data.toList t.data.toList))) w := by
  rw [run_callFunc_extern Try.func65 (by kernel_rfl) (by kernel_rfl) (by kernel_rfl) (e := Extern.BytealgCompare.compare) (by kernel_rfl)]
  have e : (Extern.BytealgCompare.compare #[v, u]).run Try.prog w = .ok (.int .i64 (Lib.compareBytes s.data.toList t.data.toList)) w := by
    change Sem.run Try.prog (do pure (goInt (Extern.BytealgCompare.cmp (← Extern.Bytes.bytesOf v) (← Extern.Bytes.bytesOf u)))) w = _
    simp only [Sem.run_bind, run_bytesOf hs, run_bytesOf ht, Sem.run_pure, Result.andThen]
    rw [Lib.cmp_eq]
    rfl
  rw [e]
  rfl
end Go.Proofs.Ythdoginhbhdmbaa

namespace Go.Proofs.Ythdoginhbhdmbaa
open Go.RowKit Ch
set_option maxRecDepth 100000

theorem cBytesCompare_any {w : World} {v u : Value} {s t : ByteArray} (hs : IsBytes w v s) (ht : IsBytes w u t) :
    Calls Try.prog 62 #[v, u] w fun e w' => e = .returned (.int .i64 (Lib.compareBytes s.data.toList t.data.toList)) ∧ w' = w := by
  have hc := compare_run hs ht
  go_enter Try.func62, Try.ntmps62
  go_wp2_with fail
  go_ret
  exact ⟨rfl, rfl⟩
end Go.Proofs.Ythdoginhbhdmbaa

namespace Go.Proofs.Ythdoginhbhdmbaa
open Go.RowKit Ch
set_option maxRecDepth 100000

def cmpL (a b : List UInt8) : Int := if (bareL a).length = (bareL b).length then Lib.compareBytes (bareL a) (bareL b) else cmpI (bareL a).length (bareL b).length
set_option maxHeartbeats 1000000 in
theorem nCmp_any (x y : Option Addr) (cx cy : Nat) (s t : ByteArray) (w : World) (hS : IsBytes w (.slice x s.size cx) s) (hT : IsBytes w (.slice y t.size cy) t) (hs : s.size ≤ 1000000) (ht : t.size ≤ 1000000) :
    Calls Try.prog 49 #[.slice x s.size cx, .slice y t.size cy] w fun e w' => e = .returned (.int .i64 (cmpL s.data.toList t.data.toList)) ∧ w' = w := by
  have hA := nBare_any x cx s w hS hs
  have hB := nBare_any y cy t w hT ht
  clear hS hT
  go_enter Try.func49, Try.ntmps49
  go_wp2_with fail
  refine hA.mono ?_
  rintro e w1 ⟨⟨ya, ma, ca, rfl, hma, ha⟩, rfl⟩
  have HA := show Hid (ma = (bareL s.data.toList).length) from hma
  clear hma hA
  go_wp2_with fail
  refine hB.mono ?_
  rintro e w2 ⟨⟨yb, mb, cb, rfl, hmb, hb⟩, rfl⟩
  have HB := show Hid (mb = (bareL t.data.toList).length) from hmb
  clear hmb hB
  have hC := cBytesCompare_any ha hb
  have hI := cCompare_any (ma : Int) (mb : Int) w2
  clear ha hb
  by_cases h : ma = mb
  · subst h
    have h1 : ((ma : Int) != (ma : Int)) = false := by simp
    go_wp2_with fail
    refine hC.mono ?_
    rintro e w3 ⟨rfl, rfl⟩
    go_wp2_with fail
    go_ret
    exact ⟨by unfold cmpL; rw [if_pos (by rw [← HA.out, ← HB.out])]; rfl, rfl⟩
  · have h1 : ((ma : Int) != (mb : Int)) = true := by simp; omega
    go_wp2_with fail
    refine hI.mono ?_
    rintro e w3 ⟨rfl, rfl⟩
    go_wp2_with fail
    go_ret
    exact ⟨by unfold cmpL; rw [if_neg (by rw [← HA.out, ← HB.out]; exact h), ← HA.out, ← HB.out]; rfl, rfl⟩
end Go.Proofs.Ythdoginhbhdmbaa
