/-
  cmp.Compare of ints.
  bytes.Compare of two slices.
  bytes.Compare.
  nat.Cmp.
  Package nat: orders xs numbers', and what Euclid's steps keep: plain facts.
-/
import Derived.Test.YtpcmpeeflnlkpaaDoorGen2Etc
import Derived.Lib.BytesEntry
import Derived.Lib.Bytealg
import Derived.Test.YtpcmpeeflnlkpaaDoorUTwoEtc
import Derived.Test.YtpcmpeeflnlkpaaDoorNPl
namespace Go.Proofs.YtpcmpeeflnlkpaaDoor
open Go.RowKit Ch
set_option maxRecDepth 100000

theorem cIsNaN_any (x : Int) (w : World) : Calls Tryd.prog 71 #[.int .i64 x] w fun e w' => e = .returned (.bool false) ∧ w' = w := by
  have h : (x != x) = false := by simp
  go_enter Tryd.func71, Tryd.ntmps71
  go_wp2_with fail
  go_ret
  exact ⟨rfl, rfl⟩
def cmpI (a b : Int) : Int := if a < b then -1 else if b < a then 1 else 0
set_option maxHeartbeats 1000000 in
theorem cCompare_any (a b : Int) (w : World) : Calls Tryd.prog 53 #[.int .i64 a, .int .i64 b] w fun e w' => e = .returned (.int .i64 (cmpI a b)) ∧ w' = w := by
  have hA := cIsNaN_any a w
  have hB := cIsNaN_any b w
  by_cases h1 : a < b
  · have HR := show Hid (cmpI a b = -1) from by unfold Hid cmpI; rw [if_pos h1]
    go_enter Tryd.func53, Tryd.ntmps53
    go_wp2_with fail
    refine hA.mono ?_
    rintro e w1 ⟨rfl, rfl⟩
    go_wp2_with fail
    refine hB.mono ?_
    rintro e w2 ⟨rfl, rfl⟩
    go_wp2_with fail
    go_ret
    exact ⟨by rw [HR.out]; rfl, rfl⟩
  · by_cases h2 : b < a
    · have HR := show Hid (cmpI a b = 1) from by unfold Hid cmpI; rw [if_neg h1, if_pos h2]
      go_enter Tryd.func53, Tryd.ntmps53
      go_wp2_with fail
      refine hA.mono ?_
      rintro e w1 ⟨rfl, rfl⟩
      go_wp2_with fail
      refine hB.mono ?_
      rintro e w2 ⟨rfl, rfl⟩
      go_wp2_with fail
      go_ret
      exact ⟨by rw [HR.out]; rfl, rfl⟩
    · have HR := show Hid (cmpI a b = 0) from by unfold Hid cmpI; rw [if_neg h1, if_neg h2]
      go_enter Tryd.func53, Tryd.ntmps53
      go_wp2_with fail
      refine hA.mono ?_
      rintro e w1 ⟨rfl, rfl⟩
      go_wp2_with fail
      refine hB.mono ?_
      rintro e w2 ⟨rfl, rfl⟩
      go_wp2_with fail
      go_ret
      exact ⟨by rw [HR.out]; rfl, rfl⟩
end Go.Proofs.YtpcmpeeflnlkpaaDoor

namespace Go.Proofs.YtpcmpeeflnlkpaaDoor
open Go.RowKit Ch
set_option maxRecDepth 100000

theorem run_bytesOf {w : World} {v : Value} {s : ByteArray} (h : IsBytes w v s) : (Extern.Bytes.bytesOf v).run Tryd.prog w = .ok s w := by
  obtain ⟨a, cap, rfl, hc, hm, ⟨rfl, h0, _⟩ | ⟨x, rfl, h0 | ⟨b, o, rfl, hb, hf⟩⟩⟩ := h
  · rw [empty_of_size h0]
    rfl
  · rw [h0, empty_of_size h0]
    exact Lib.run_loadBytesX (P := Tryd.prog) w [] x .empty (fun j x hj => by cases hj)
  · have e := Lib.run_loadBytesX (P := Tryd.prog) w ((List.range s.size).map fun i => (byte s i : Int)) ⟨b, o, none⟩ .empty (fun j q hj => by
      rw [List.getElem?_map] at hj
      by_cases hjs : j < s.size
      · rw [List.getElem?_range hjs] at hj
        have e1 : (⟨b, o, none⟩ : Addr).add j = ⟨b, o + j, none⟩ := by unfold Addr.add; split <;> simp_all
        have := hf j (by omega)
        rw [Nat.zero_add] at this
        rw [e1, this]
        simp only [Option.map_some, Option.some.injEq] at hj
        rw [hj]
      · rw [List.getElem?_eq_none (by simp; omega)] at hj
        cases hj)
    rw [List.length_map, List.length_range] at e
    have e2 : (⟨ByteArray.empty.data ++ (Lib.bytesOf ((List.range s.size).map fun i => (byte s i : Int))).toArray⟩ : ByteArray) = s := by
      have := nums_of s
      refine Eq.trans ?_ this
      apply ByteArray.ext
      apply Array.toList_inj.1
      rw [strOfNums_data]
      show (ByteArray.empty.data ++ (Lib.bytesOf ((List.range s.size).map fun i => (byte s i : Int))).toArray).toList = _
      rw [Array.toList_append, Lib.bytesOf]
      have h0 : ByteArray.empty.data.toList = [] := by rfl
      rw [h0, List.nil_append]
    rw [e2] at e
    exact e
theorem compare_run {w : World} {v u : Value} {s t : ByteArray} (hs : IsBytes w v s) (ht : IsBytes w u t) :
    (callFunc 72 #[v, u]).run Tryd.prog w = .ok (.value (.int .i64 (Lib.compareBytes s.data.toList t.data.toList))) w := by
  rw [run_callFunc_extern Tryd.func72 (by kernel_rfl) (by kernel_rfl) (by kernel_rfl) (e := Extern.BytealgCompare.compare) (by kernel_rfl)]
  have e : (Extern.BytealgCompare.compare #[v, u]).run Tryd.prog w = .ok (.int .i64 (Lib.compareBytes s.data.toList t.data.toList)) w := by
    change Sem.run Tryd.prog (do pure (goInt (Extern.BytealgCompare.cmp (← Extern.Bytes.bytesOf v) (← Extern.Bytes.bytesOf u)))) w = _
    simp only [Sem.run_bind, run_bytesOf hs, run_bytesOf ht, Sem.run_pure, Result.andThen]
    rw [Lib.cmp_eq]
    rfl
  rw [e]
  rfl
end Go.Proofs.YtpcmpeeflnlkpaaDoor

namespace Go.Proofs.YtpcmpeeflnlkpaaDoor
open Go.RowKit Ch
set_option maxRecDepth 100000

theorem cBytesCompare_any {w : World} {v u : Value} {s t : ByteArray} (hs : IsBytes w v s) (ht : IsBytes w u t) :
    Calls Tryd.prog 54 #[v, u] w fun e w' => e = .returned (.int .i64 (Lib.compareBytes s.data.toList t.data.toList)) ∧ w' = w := by
  have hc := compare_run hs ht
  go_enter Tryd.func54, Tryd.ntmps54
  go_wp2_with fail
  go_ret
  exact ⟨rfl, rfl⟩
end Go.Proofs.YtpcmpeeflnlkpaaDoor

namespace Go.Proofs.YtpcmpeeflnlkpaaDoor
open Go.RowKit Ch
set_option maxRecDepth 100000

def cmpL (a b : List UInt8) : Int := if (bareL a).length = (bareL b).length then Lib.compareBytes (bareL a) (bareL b) else cmpI (bareL a).length (bareL b).length
set_option maxHeartbeats 1000000 in
theorem nCmp_any (x y : Option Addr) (cx cy : Nat) (s t : ByteArray) (w : World) (hS : IsBytes w (.slice x s.size cx) s) (hT : IsBytes w (.slice y t.size cy) t) (hs : s.size ≤ 1000000) (ht : t.size ≤ 1000000) :
    Calls Tryd.prog 32 #[.slice x s.size cx, .slice y t.size cy] w fun e w' => e = .returned (.int .i64 (cmpL s.data.toList t.data.toList)) ∧ w' = w := by
  have hA := nBare_any x cx s w hS hs
  have hB := nBare_any y cy t w hT ht
  clear hS hT
  go_enter Tryd.func32, Tryd.ntmps32
  go_wp2_with fail
  refine hA.mono ?_
  rintro e w1 ⟨⟨ya, ma, ca, rfl, hma, ha⟩, rfl⟩
  have HA := show Hid (ma = (bareL s.data.toList).length) from hma
  clear hma hA
  go_wp2_with fail
  refine hB.mono ?_
  rintro e w2 ⟨⟨yb, mb, cb, rfl, hmb, hb⟩, rfl⟩
  have HB := show Hid (mb = (bareL t.data.toList).length) from hmb
  clear hmb hB
  have hC := cBytesCompare_any ha hb
  have hI := cCompare_any (ma : Int) (mb : Int) w2
  clear ha hb
  by_cases h : ma = mb
  · subst h
    have h1 : ((ma : Int) != (ma : Int)) = false := by simp
    go_wp2_with fail
    refine hC.mono ?_
    rintro e w3 ⟨rfl, rfl⟩
    go_wp2_with fail
    go_ret
    exact ⟨by unfold cmpL; rw [if_pos (by rw [← HA.out, ← HB.out])]; rfl, rfl⟩
  · have h1 : ((ma : Int) != (mb : Int)) = true := by simp; omega
    go_wp2_with fail
    refine hI.mono ?_
    rintro e w3 ⟨rfl, rfl⟩
    go_wp2_with fail
    go_ret
    exact ⟨by unfold cmpL; rw [if_neg (by rw [← HA.out, ← HB.out]; exact h), ← HA.out, ← HB.out]; rfl, rfl⟩
end Go.Proofs.YtpcmpeeflnlkpaaDoor

namespace Go.Proofs.YtpcmpeeflnlkpaaDoor
open Go.RowKit Ch
set_option maxRecDepth 100000

theorem compare_num : ∀ (l m : List UInt8), l.length = m.length → (Lib.compareBytes l m < 0 ↔ numB l < numB m) ∧ (Lib.compareBytes l m = 0 ↔ numB l = numB m)
  | [], [], _ => by simp [Lib.compareBytes]
  | [], _ :: _, h => by simp at h
  | _ :: _, [], h => by simp at h
  | a :: xs, b :: ys, h => by
    have hl : xs.length = ys.length := by simpa using h
    obtain ⟨i1, i2⟩ := compare_num xs ys hl
    rw [Lib.compareBytes, numB_cons, numB_cons, hl]
    have h1 := numB_lt xs
    have h2 := numB_lt ys
    rw [hl] at h1
    by_cases hab : a < b
    · rw [if_pos hab]
      have h3 : a.toNat + 1 ≤ b.toNat := hab
      have h4 : (a.toNat + 1) * 256 ^ ys.length ≤ b.toNat * 256 ^ ys.length := Nat.mul_le_mul_right _ h3
      rw [Nat.add_mul, Nat.one_mul] at h4
      exact ⟨⟨fun _ => by omega, fun _ => by decide⟩, ⟨fun h => absurd h (by decide), fun h => by omega⟩⟩
    · rw [if_neg hab]
      by_cases hba : b < a
      · rw [if_pos hba]
        have h3 : b.toNat + 1 ≤ a.toNat := hba
        have h4 : (b.toNat + 1) * 256 ^ ys.length ≤ a.toNat * 256 ^ ys.length := Nat.mul_le_mul_right _ h3
        rw [Nat.add_mul, Nat.one_mul] at h4
        exact ⟨⟨fun h => by omega, fun _ => by omega⟩, ⟨fun h => absurd h (by decide), fun h => by omega⟩⟩
      · rw [if_neg hba]
        have e : a.toNat = b.toNat := by
          have h5 : ¬ a.toNat < b.toNat := hab
          have h6 : ¬ b.toNat < a.toNat := hba
          omega
        rw [e, i1, i2]
        constructor <;> omega
theorem bare_short {l m : List UInt8} (hm : bareL m = m) (h : l.length < m.length) : numB l < numB m := by
  have h1 := numB_lt l
  have h2 := numB_ge hm (by intro e; subst e; simp at h)
  have h3 : 256 ^ l.length ≤ 256 ^ (m.length - 1) := Nat.pow_le_pow_right (by decide) (by omega)
  omega
theorem bare_bare (l : List UInt8) : bareL (bareL l) = bareL l := by unfold bareL; exact dropWhile_again _ _
theorem cmp_num (a b : List UInt8) : (cmpL a b < 0 ↔ numB a < numB b) ∧ (cmpL a b = 0 ↔ numB a = numB b) := by
  unfold cmpL
  rw [← numB_bare a, ← numB_bare b]
  have ha := bare_bare a
  have hb := bare_bare b
  generalize bareL a = l at *
  generalize bareL b = m at *
  by_cases h : l.length = m.length
  · rw [if_pos h]
    exact compare_num l m h
  · rw [if_neg h]
    unfold cmpI
    by_cases h2 : l.length < m.length
    · have h3 := bare_short hb h2
      have h4 : (l.length : Int) < (m.length : Int) := by omega
      rw [if_pos h4]
      exact ⟨⟨fun _ => h3, fun _ => by decide⟩, ⟨fun h => absurd h (by decide), fun h => by omega⟩⟩
    · have h3 := bare_short ha (show m.length < l.length by omega)
      have h4 : ¬ (l.length : Int) < (m.length : Int) := by omega
      have h5 : (m.length : Int) < (l.length : Int) := by omega
      rw [if_neg h4, if_pos h5]
      exact ⟨⟨fun h => absurd h (by decide), fun h => by omega⟩, ⟨fun h => absurd h (by decide), fun h => by omega⟩⟩
/-- Where Euclid's steps stand: by m, the two numbers are these times a, one of them with a minus. -/
def EuSt (m a A B f s : Nat) (neg : Bool) : Prop := s * A + f * B = m ∧ B < A ∧
  (if neg then (m : Int) ∣ (A : Int) + f * a ∧ (m : Int) ∣ (B : Int) - s * a else (m : Int) ∣ (A : Int) - f * a ∧ (m : Int) ∣ (B : Int) + s * a)
theorem euSt_start {m a : Nat} (hm : 2 ≤ m) : EuSt m a m (a % m) 0 1 true := by
  refine ⟨by omega, Nat.mod_lt _ (by omega), ?_⟩
  rw [if_pos rfl]
  refine ⟨by simp, ?_⟩
  have h := Nat.div_add_mod a m
  have e : ((a % m : Nat) : Int) - (1 : Nat) * a = (m : Int) * (-((a / m : Nat) : Int)) := by
    have h2 : (a : Int) = (m : Int) * ((a / m : Nat) : Int) + ((a % m : Nat) : Int) := by exact_mod_cast h.symm
    rw [Int.mul_neg]
    omega
  rw [e]
  exact Int.dvd_mul_right _ _
theorem euSt_step {m a A B f s : Nat} {neg : Bool} (h : EuSt m a A B f s neg) (hB : B ≠ 0) : EuSt m a B (A % B) s (f + A / B * s) (!neg) := by
  obtain ⟨h1, h2, h3⟩ := h
  have hd := Nat.div_add_mod A B
  refine ⟨?_, Nat.mod_lt _ (by omega), ?_⟩
  · rw [Nat.add_mul, ← h1]
    have e : s * A = s * (B * (A / B)) + s * (A % B) := by rw [← Nat.mul_add, hd]
    rw [e]
    have e2 : A / B * s * B = s * (B * (A / B)) := by rw [Nat.mul_comm (A / B) s, Nat.mul_assoc, Nat.mul_comm (A / B) B]
    rw [e2]
    omega
  · have hdI : (A : Int) = (B : Int) * ((A / B : Nat) : Int) + ((A % B : Nat) : Int) := by exact_mod_cast hd.symm
    generalize A / B = q at *
    generalize A % B = r at *
    have hs : ((f + q * s : Nat) : Int) = (f : Int) + (q : Int) * (s : Int) := by simp
    cases neg
    · simp only [Bool.not_false, if_true] at h3 ⊢
      simp only [Bool.false_eq_true, if_false] at h3
      refine ⟨h3.2, ?_⟩
      have e : (r : Int) - ((f + q * s : Nat) : Int) * a = ((A : Int) - f * a) - (q : Int) * ((B : Int) + s * a) := by
        rw [hs, hdI, Int.add_mul, Int.mul_add, Int.mul_comm (B : Int) q, Int.mul_assoc]
        omega
      rw [e]
      exact Int.dvd_sub h3.1 (Int.dvd_trans h3.2 (Int.dvd_mul_left _ _))
    · simp only [Bool.not_true, Bool.false_eq_true, if_false, if_true] at h3 ⊢
      refine ⟨h3.2, ?_⟩
      have e : (r : Int) + ((f + q * s : Nat) : Int) * a = ((A : Int) + f * a) - (q : Int) * ((B : Int) - s * a) := by
        rw [hs, hdI, Int.add_mul, Int.mul_sub, Int.mul_comm (B : Int) q, Int.mul_assoc]
        omega
      rw [e]
      exact Int.dvd_sub h3.1 (Int.dvd_trans h3.2 (Int.dvd_mul_left _ _))
/-- The last step's first number is small. -/
theorem euSt_small {m a A B f s : Nat} {neg : Bool} (hm : 2 ≤ m) (h : EuSt m a A B f s neg) (hB : B ≠ 0) : s < m := by
  obtain ⟨h1, h2, _⟩ := h
  have h3 : 2 ≤ A := by omega
  have h4 : s * 2 ≤ s * A := Nat.mul_le_mul_left _ h3
  omega
theorem inv_plus {m a f : Nat} (hm : 2 ≤ m) (h : (m : Int) ∣ ((1 : Nat) : Int) - f * a) : f * a % m = 1 := by
  obtain ⟨k, hk⟩ := h
  have e : ((f * a : Nat) : Int) = 1 + (m : Int) * (-k) := by
    rw [Int.mul_neg]
    simp only [Int.natCast_mul]
    omega
  have h2 : ((f * a % m : Nat) : Int) = 1 := by
    rw [Int.natCast_emod, e, Int.add_mul_emod_self_left]
    exact Int.emod_eq_of_lt (by omega) (by omega)
  omega
theorem inv_minus {m a f : Nat} (hm : 2 ≤ m) (hf : f ≤ m) (h : (m : Int) ∣ ((1 : Nat) : Int) + f * a) : (m - f) * a % m = 1 := by
  refine inv_plus hm ?_
  have e : ((1 : Nat) : Int) - ((m - f : Nat) : Int) * a = (((1 : Nat) : Int) + f * a) - (m : Int) * a := by
    have : ((m - f : Nat) : Int) = (m : Int) - f := by omega
    rw [this, Int.sub_mul]
    omega
  rw [e]
  exact Int.dvd_sub h (Int.dvd_mul_right _ _)
end Go.Proofs.YtpcmpeeflnlkpaaDoor
