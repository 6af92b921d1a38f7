/-
  
  
  
  
  
  
-/
import Derived.Test.YtpcmpeeflnlkpaaGreatDoorGPlainEtc
import Derived.Lib.BytesEntry
import Derived.Lib.Bytealg
import Derived.Test.YtpcmpeeflnlkpaaGreatDoorKPlainEtc
import Derived.Test.YtpcmpeeflnlkpaaGreatDoorNPl
import Derived.OrdersHeld
import Derived.StillTail
import Derived.Deep.RegionWith
/-
  cmp.Compare of ints.
-/
namespace Go.Proofs.YtpcmpeeflnlkpaaGreatDoor
open Go.RowKit Ch
set_option maxRecDepth 100000

theorem cIsNaN_any (x : Int) (w : World) : Calls Tryz.prog 86 #[.int .i64 x] w fun e w' => e = .returned (.bool false) ∧ w' = w := by
  have h : (x != x) = false := by simp
  go_enter Tryz.func86, Tryz.ntmps86
  go_wp2_with fail
  go_ret
  exact ⟨rfl, rfl⟩
def cmpI (a b : Int) : Int := if a < b then -1 else if b < a then 1 else 0
set_option maxHeartbeats 1000000 in
theorem cCompare_any (a b : Int) (w : World) : Calls Tryz.prog 55 #[.int .i64 a, .int .i64 b] w fun e w' => e = .returned (.int .i64 (cmpI a b)) ∧ w' = w := by
  have hA := cIsNaN_any a w
  have hB := cIsNaN_any b w
  by_cases h1 : a < b
  · have HR := show Hid (cmpI a b = -1) from by unfold Hid cmpI; rw [if_pos h1]
    go_enter Tryz.func55, Tryz.ntmps55
    go_wp2_with fail
    refine hA.mono ?_
    rintro e w1 ⟨rfl, rfl⟩
    go_wp2_with fail
    refine hB.mono ?_
    rintro e w2 ⟨rfl, rfl⟩
    go_wp2_with fail
    go_ret
    exact ⟨by rw [HR.out]; rfl, rfl⟩
  · by_cases h2 : b < a
    · have HR := show Hid (cmpI a b = 1) from by unfold Hid cmpI; rw [if_neg h1, if_pos h2]
      go_enter Tryz.func55, Tryz.ntmps55
      go_wp2_with fail
      refine hA.mono ?_
      rintro e w1 ⟨rfl, rfl⟩
      go_wp2_with fail
      refine hB.mono ?_
      rintro e w2 ⟨rfl, rfl⟩
      go_wp2_with fail
      go_ret
      exact ⟨by rw [HR.out]; rfl, rfl⟩
    · have HR := show Hid (cmpI a b = 0) from by unfold Hid cmpI; rw [if_neg h1, if_neg h2]
      go_enter Tryz.func55, Tryz.ntmps55
      go_wp2_with fail
      refine hA.mono ?_
      rintro e w1 ⟨rfl, rfl⟩
      go_wp2_with fail
      refine hB.mono ?_
      rintro e w2 ⟨rfl, rfl⟩
      go_wp2_with fail
      go_ret
      exact ⟨by rw [HR.out]; rfl, rfl⟩
end Go.Proofs.YtpcmpeeflnlkpaaGreatDoor

/-
  bytes.Compare of two slices.
-/
namespace Go.Proofs.YtpcmpeeflnlkpaaGreatDoor
open Go.RowKit Ch
set_option maxRecDepth 100000

theorem run_bytesOf {w : World} {v : Value} {s : ByteArray} (h : IsBytes w v s) : (Extern.Bytes.bytesOf v).run Tryz.prog w = .ok s w := by
  obtain ⟨a, cap, rfl, hc, hm, ⟨rfl, h0, _⟩ | ⟨x, rfl, h0 | ⟨b, o, rfl, hb, hf⟩⟩⟩ := h
  · rw [empty_of_size h0]
    rfl
  · rw [h0, empty_of_size h0]
    exact Lib.run_loadBytesX (P := Tryz.prog) w [] x .empty (fun j x hj => by cases hj)
  · have e := Lib.run_loadBytesX (P := Tryz.prog) w ((List.range s.size).map fun i => (byte s i : Int)) ⟨b, o, none⟩ .empty (fun j q hj => by
      rw [List.getElem?_map] at hj
      by_cases hjs : j < s.size
      · rw [List.getElem?_range hjs] at hj
        have e1 : (⟨b, o, none⟩ : Addr).add j = ⟨b, o + j, none⟩ := by unfold Addr.add; split <;> simp_all
        have := hf j (by omega)
        rw [Nat.zero_add] at this
        rw [e1, this]
        simp only [Option.map_some, Option.some.injEq] at hj
        rw [hj]
      · rw [List.getElem?_eq_none (by simp; omega)] at hj
        cases hj)
    rw [List.length_map, List.length_range] at e
    have e2 : (⟨ByteArray.empty.data ++ (Lib.bytesOf ((List.range s.size).map fun i => (byte s i : Int))).toArray⟩ : ByteArray) = s := by
      have := nums_of s
      refine Eq.trans ?_ this
      apply ByteArray.ext
      apply Array.toList_inj.1
      rw [strOfNums_data]
      show (ByteArray.empty.data ++ (Lib.bytesOf ((List.range s.size).map fun i => (byte s i : Int))).toArray).toList = _
      rw [Array.toList_append, Lib.bytesOf]
      have h0 : ByteArray.empty.data.toList = [] := by rfl
      rw [h0, List.nil_append]
    rw [e2] at e
    exact e
theorem compare_run {w : World} {v u : Value} {s t : ByteArray} (hs : IsBytes w v s) (ht : IsBytes w u t) :
    (callFunc 87 #[v, u]).run Tryz.prog w = .ok (.value (.int .i64 (Lib.compareBytes s.data.toList t.data.toList))) w := by
  rw [run_callFunc_extern Tryz.func87 (by kernel_rfl) (by kernel_rfl) (by kernel_rfl) (e := Extern.BytealgCompare.compare) (by kernel_rfl)]
  have e : (Extern.BytealgCompare.compare #[v, u]).run Tryz.prog w = .ok (.int .i64 (Lib.compareBytes s.data.toList t.data.toList)) w := by
    change Sem.run Tryz.prog (do pure (goInt (Extern.BytealgCompare.cmp (← Extern.Bytes.bytesOf v) (← Extern.Bytes.bytesOf u)))) w = _
    simp only [Sem.run_bind, run_bytesOf hs, run_bytesOf ht, Sem.run_pure, Result.andThen]
    rw [Lib.cmp_eq]
    rfl
  rw [e]
  rfl
end Go.Proofs.YtpcmpeeflnlkpaaGreatDoor

/-
  bytes.Compare.
-/
namespace Go.Proofs.YtpcmpeeflnlkpaaGreatDoor
open Go.RowKit Ch
set_option maxRecDepth 100000

theorem cBytesCompare_any {w : World} {v u : Value} {s t : ByteArray} (hs : IsBytes w v s) (ht : IsBytes w u t) :
    Calls Tryz.prog 56 #[v, u] w fun e w' => e = .returned (.int .i64 (Lib.compareBytes s.data.toList t.data.toList)) ∧ w' = w := by
  have hc := compare_run hs ht
  go_enter Tryz.func56, Tryz.ntmps56
  go_wp2_with fail
  go_ret
  exact ⟨rfl, rfl⟩
end Go.Proofs.YtpcmpeeflnlkpaaGreatDoor

/-
  nat.Cmp.
-/
namespace Go.Proofs.YtpcmpeeflnlkpaaGreatDoor
open Go.RowKit Ch
set_option maxRecDepth 100000

def cmpL (a b : List UInt8) : Int := if (bareL a).length = (bareL b).length then Lib.compareBytes (bareL a) (bareL b) else cmpI (bareL a).length (bareL b).length
set_option maxHeartbeats 1000000 in
theorem nCmp_any (x y : Option Addr) (cx cy : Nat) (s t : ByteArray) (w : World) (hS : IsBytes w (.slice x s.size cx) s) (hT : IsBytes w (.slice y t.size cy) t) (hs : s.size ≤ 1000000) (ht : t.size ≤ 1000000) :
    Calls Tryz.prog 26 #[.slice x s.size cx, .slice y t.size cy] w fun e w' => e = .returned (.int .i64 (cmpL s.data.toList t.data.toList)) ∧ w' = w := by
  have hA := nBare_any x cx s w hS hs
  have hB := nBare_any y cy t w hT ht
  clear hS hT
  go_enter Tryz.func26, Tryz.ntmps26
  go_wp2_with fail
  refine hA.mono ?_
  rintro e w1 ⟨⟨ya, ma, ca, rfl, hma, ha⟩, rfl⟩
  have HA := show Hid (ma = (bareL s.data.toList).length) from hma
  clear hma hA
  go_wp2_with fail
  refine hB.mono ?_
  rintro e w2 ⟨⟨yb, mb, cb, rfl, hmb, hb⟩, rfl⟩
  have HB := show Hid (mb = (bareL t.data.toList).length) from hmb
  clear hmb hB
  have hC := cBytesCompare_any ha hb
  have hI := cCompare_any (ma : Int) (mb : Int) w2
  clear ha hb
  by_cases h : ma = mb
  · subst h
    have h1 : ((ma : Int) != (ma : Int)) = false := by simp
    go_wp2_with fail
    refine hC.mono ?_
    rintro e w3 ⟨rfl, rfl⟩
    go_wp2_with fail
    go_ret
    exact ⟨by unfold cmpL; rw [if_pos (by rw [← HA.out, ← HB.out])]; rfl, rfl⟩
  · have h1 : ((ma : Int) != (mb : Int)) = true := by simp; omega
    go_wp2_with fail
    refine hI.mono ?_
    rintro e w3 ⟨rfl, rfl⟩
    go_wp2_with fail
    go_ret
    exact ⟨by unfold cmpL; rw [if_neg (by rw [← HA.out, ← HB.out]; exact h), ← HA.out, ← HB.out]; rfl, rfl⟩
end Go.Proofs.YtpcmpeeflnlkpaaGreatDoor

/-
  Package nat: orders xs numbers', and what Euclid's steps keep: plain facts.
-/
namespace Go.Proofs.YtpcmpeeflnlkpaaGreatDoor
open Go.RowKit Ch
set_option maxRecDepth 100000

theorem compare_num : ∀ (l m : List UInt8), l.length = m.length → (Lib.compareBytes l m < 0 ↔ numB l < numB m) ∧ (Lib.compareBytes l m = 0 ↔ numB l = numB m)
  | [], [], _ => by simp [Lib.compareBytes]
  | [], _ :: _, h => by simp at h
  | _ :: _, [], h => by simp at h
  | a :: xs, b :: ys, h => by
    have hl : xs.length = ys.length := by simpa using h
    obtain ⟨i1, i2⟩ := compare_num xs ys hl
    rw [Lib.compareBytes, numB_cons, numB_cons, hl]
    have h1 := numB_lt xs
    have h2 := numB_lt ys
    rw [hl] at h1
    by_cases hab : a < b
    · rw [if_pos hab]
      have h3 : a.toNat + 1 ≤ b.toNat := hab
      have h4 : (a.toNat + 1) * 256 ^ ys.length ≤ b.toNat * 256 ^ ys.length := Nat.mul_le_mul_right _ h3
      rw [Nat.add_mul, Nat.one_mul] at h4
      exact ⟨⟨fun _ => by omega, fun _ => by decide⟩, ⟨fun h => absurd h (by decide), fun h => by omega⟩⟩
    · rw [if_neg hab]
      by_cases hba : b < a
      · rw [if_pos hba]
        have h3 : b.toNat + 1 ≤ a.toNat := hba
        have h4 : (b.toNat + 1) * 256 ^ ys.length ≤ a.toNat * 256 ^ ys.length := Nat.mul_le_mul_right _ h3
        rw [Nat.add_mul, Nat.one_mul] at h4
        exact ⟨⟨fun h => by omega, fun _ => by omega⟩, ⟨fun h => absurd h (by decide), fun h => by omega⟩⟩
      · rw [if_neg hba]
        have e : a.toNat = b.toNat := by
          have h5 : ¬ a.toNat < b.toNat := hab
          have h6 : ¬ b.toNat < a.toNat := hba
          omega
        rw [e, i1, i2]
        constructor <;> omega
theorem bare_short {l m : List UInt8} (hm : bareL m = m) (h : l.length < m.length) : numB l < numB m := by
  have h1 := numB_lt l
  have h2 := numB_ge hm (by intro e; subst e; simp at h)
  have h3 : 256 ^ l.length ≤ 256 ^ (m.length - 1) := Nat.pow_le_pow_right (by decide) (by omega)
  omega
theorem bare_bare (l : List UInt8) : bareL (bareL l) = bareL l := by unfold bareL; exact dropWhile_again _ _
theorem cmp_num (a b : List UInt8) : (cmpL a b < 0 ↔ numB a < numB b) ∧ (cmpL a b = 0 ↔ numB a = numB b) := by
  unfold cmpL
  rw [← numB_bare a, ← numB_bare b]
  have ha := bare_bare a
  have hb := bare_bare b
  generalize bareL a = l at *
  generalize bareL b = m at *
  by_cases h : l.length = m.length
  · rw [if_pos h]
    exact compare_num l m h
  · rw [if_neg h]
    unfold cmpI
    by_cases h2 : l.length < m.length
    · have h3 := bare_short hb h2
      have h4 : (l.length : Int) < (m.length : Int) := by omega
      rw [if_pos h4]
      exact ⟨⟨fun _ => h3, fun _ => by decide⟩, ⟨fun h => absurd h (by decide), fun h => by omega⟩⟩
    · have h3 := bare_short ha (show m.length < l.length by omega)
      have h4 : ¬ (l.length : Int) < (m.length : Int) := by omega
      have h5 : (m.length : Int) < (l.length : Int) := by omega
      rw [if_neg h4, if_pos h5]
      exact ⟨⟨fun h => absurd h (by decide), fun h => by omega⟩, ⟨fun h => absurd h (by decide), fun h => by omega⟩⟩
/-- Where Euclid's steps stand: by m, the two numbers are these times a, one of them with a minus. -/
def EuSt (m a A B f s : Nat) (neg : Bool) : Prop := s * A + f * B = m ∧ B < A ∧
  (if neg then (m : Int) ∣ (A : Int) + f * a ∧ (m : Int) ∣ (B : Int) - s * a else (m : Int) ∣ (A : Int) - f * a ∧ (m : Int) ∣ (B : Int) + s * a)
theorem euSt_start {m a : Nat} (hm : 2 ≤ m) : EuSt m a m (a % m) 0 1 true := by
  refine ⟨by omega, Nat.mod_lt _ (by omega), ?_⟩
  rw [if_pos rfl]
  refine ⟨by simp, ?_⟩
  have h := Nat.div_add_mod a m
  have e : ((a % m : Nat) : Int) - (1 : Nat) * a = (m : Int) * (-((a / m : Nat) : Int)) := by
    have h2 : (a : Int) = (m : Int) * ((a / m : Nat) : Int) + ((a % m : Nat) : Int) := by exact_mod_cast h.symm
    rw [Int.mul_neg]
    omega
  rw [e]
  exact Int.dvd_mul_right _ _
theorem euSt_step {m a A B f s : Nat} {neg : Bool} (h : EuSt m a A B f s neg) (hB : B ≠ 0) : EuSt m a B (A % B) s (f + A / B * s) (!neg) := by
  obtain ⟨h1, h2, h3⟩ := h
  have hd := Nat.div_add_mod A B
  refine ⟨?_, Nat.mod_lt _ (by omega), ?_⟩
  · rw [Nat.add_mul, ← h1]
    have e : s * A = s * (B * (A / B)) + s * (A % B) := by rw [← Nat.mul_add, hd]
    rw [e]
    have e2 : A / B * s * B = s * (B * (A / B)) := by rw [Nat.mul_comm (A / B) s, Nat.mul_assoc, Nat.mul_comm (A / B) B]
    rw [e2]
    omega
  · have hdI : (A : Int) = (B : Int) * ((A / B : Nat) : Int) + ((A % B : Nat) : Int) := by exact_mod_cast hd.symm
    generalize A / B = q at *
    generalize A % B = r at *
    have hs : ((f + q * s : Nat) : Int) = (f : Int) + (q : Int) * (s : Int) := by simp
    cases neg
    · simp only [Bool.not_false, if_true] at h3 ⊢
      simp only [Bool.false_eq_true, if_false] at h3
      refine ⟨h3.2, ?_⟩
      have e : (r : Int) - ((f + q * s : Nat) : Int) * a = ((A : Int) - f * a) - (q : Int) * ((B : Int) + s * a) := by
        rw [hs, hdI, Int.add_mul, Int.mul_add, Int.mul_comm (B : Int) q, Int.mul_assoc]
        omega
      rw [e]
      exact Int.dvd_sub h3.1 (Int.dvd_trans h3.2 (Int.dvd_mul_left _ _))
    · simp only [Bool.not_true, Bool.false_eq_true, if_false, if_true] at h3 ⊢
      refine ⟨h3.2, ?_⟩
      have e : (r : Int) + ((f + q * s : Nat) : Int) * a = ((A : Int) + f * a) - (q : Int) * ((B : Int) - s * a) := by
        rw [hs, hdI, Int.add_mul, Int.mul_sub, Int.mul_comm (B : Int) q, Int.mul_assoc]
        omega
      rw [e]
      exact Int.dvd_sub h3.1 (Int.dvd_trans h3.2 (Int.dvd_mul_left _ _))
/-- The last step's first number is small. -/
theorem euSt_small {m a A B f s : Nat} {neg : Bool} (hm : 2 ≤ m) (h : EuSt m a A B f s neg) (hB : B ≠ 0) : s < m := by
  obtain ⟨h1, h2, _⟩ := h
  have h3 : 2 ≤ A := by omega
  have h4 : s * 2 ≤ s * A := Nat.mul_le_mul_left _ h3
  omega
theorem inv_plus {m a f : Nat} (hm : 2 ≤ m) (h : (m : Int) ∣ ((1 : Nat) : Int) - f * a) : f * a % m = 1 := by
  obtain ⟨k, hk⟩ := h
  have e : ((f * a : Nat) : Int) = 1 + (m : Int) * (-k) := by
    rw [Int.mul_neg]
    simp only [Int.natCast_mul]
    omega
  have h2 : ((f * a % m : Nat) : Int) = 1 := by
    rw [Int.natCast_emod, e, Int.add_mul_emod_self_left]
    exact Int.emod_eq_of_lt (by omega) (by omega)
  omega
theorem inv_minus {m a f : Nat} (hm : 2 ≤ m) (hf : f ≤ m) (h : (m : Int) ∣ ((1 : Nat) : Int) + f * a) : (m - f) * a % m = 1 := by
  refine inv_plus hm ?_
  have e : ((1 : Nat) : Int) - ((m - f : Nat) : Int) * a = (((1 : Nat) : Int) + f * a) - (m : Int) * a := by
    have : ((m - f : Nat) : Int) = (m : Int) - f := by omega
    rw [this, Int.sub_mul]
    omega
  rw [e]
  exact Int.dvd_sub h (Int.dvd_mul_right _ _)
end Go.Proofs.YtpcmpeeflnlkpaaGreatDoor

/-
  A region that draws its order, without its orders: what each operation leaves is said once (Sem), of whatever world comes later; no order is walked. Of no layer alone.
-/
namespace Go.Proofs.YtpcmpeeflnlkpaaGreatDoor
open Go.RowKit
set_option maxRecDepth 100000

section
variable {P : Program} {ops : Array Oper} {Q : Exit → Act → World → Prop} {md : Region.Mode}

/-- What is known ahead of operation i: the slots that no operation writes are as they were; those of the operations that it waits for are told by Sem. -/
structure FreeIn (md : Region.Mode) (ops : Array Oper) (Sem : Nat → Value → World → Prop) (a0 : Act) (o : Oper) (a : Act) (w : World) : Prop where
  size : a.tmps.size = a0.tmps.size
  defers : a.defers = a0.defers
  out : ∀ k, (ops.toList.all fun o => !(o.dst == some k)) = true → a.tmps[k]? = a0.tmps[k]?
  dep : ∀ i d, (o.after.toList.any fun e => Region.binds md e && e.on == i) = true → ((ops[i]?).bind (·.dst)) = some d → ∃ v, a.tmps[d]? = some v ∧ Sem i v w
/-- What is known of a region under way. -/
structure FreeAt (ops : Array Oper) (Sem : Nat → Value → World → Prop) (a0 : Act) (listed : Array Bool) (a : Act) (w : World) : Prop where
  size : a.tmps.size = a0.tmps.size
  defers : a.defers = a0.defers
  lsize : listed.size = ops.size
  out : ∀ k, (ops.toList.all fun o => !(o.dst == some k)) = true → a.tmps[k]? = a0.tmps[k]?
  done : ∀ i d, listed.getD i false = true → ((ops[i]?).bind (·.dst)) = some d → ∃ v, a.tmps[d]? = some v ∧ Sem i v w
def leftN (ops : Array Oper) (listed : Array Bool) : List Nat := (List.range ops.size).filter fun i => !listed.getD i true
theorem leftN_set {listed : Array Bool} {i : Nat} (h : i ∈ leftN ops listed) (hl : listed.size = ops.size) : (leftN ops (listed.setIfInBounds i true)).length < (leftN ops listed).length := by
  have e : leftN ops (listed.setIfInBounds i true) = (leftN ops listed).filter fun k => k != i := by
    unfold leftN
    rw [List.filter_filter]
    apply List.filter_congr
    intro k _
    by_cases hk : k = i
    · subst hk
      have : k < listed.size := by
        have := (List.mem_filter.1 h).1
        rw [List.mem_range] at this
        omega
      simp [this]
    · have : (k != i) = true := by simpa using hk
      rw [this]
      simp [Ne.symm hk]
  rw [e]
  refine (List.length_filter_lt_length_iff_exists).2 ⟨i, h, by simp⟩
theorem mem_left {listed : Array Bool} {i : Nat} : i ∈ leftN ops listed ↔ i < ops.size ∧ listed.getD i true = false := by
  unfold leftN
  rw [List.mem_filter, List.mem_range]
  simp
/-- No operation waits for a later one. -/
def Region.inRow (md : Region.Mode) (ops : Array Oper) : Bool := (List.range ops.size).all fun i => match ops[i]? with
  | some o => o.after.toList.all fun e => !Region.binds md e || decide (e.on < i)
  | none => true
theorem all_listed (hrow : Region.inRow md ops = true) {listed : Array Bool} (hl : listed.size = ops.size) (hr : Region.ready md ops listed = []) : ∀ i, i < ops.size → listed.getD i false = true := by
  intro i
  induction i using Nat.strongRecOn with
  | _ i ih =>
    intro hi
    apply Classical.byContradiction
    intro hn
    have hf : listed.getD i true = false := by
      have : i < listed.size := by omega
      simp [this] at hn ⊢
      exact hn
    have : i ∈ Region.ready md ops listed := by
      rw [mem_ready]
      refine ⟨hf, ops[i], by simp [hi], fun e he hb => ?_⟩
      have h1 := List.all_eq_true.1 hrow i (List.mem_range.2 hi)
      rw [show ops[i]? = some ops[i] by simp [hi]] at h1
      have h2 := List.all_eq_true.1 h1 e (by simpa using he)
      rw [hb] at h2
      have h3 : e.on < i := by simpa using h2
      have := ih e.on h3 (by omega)
      exact this
    rw [hr] at this
    cases this
/-- No two operations write one slot; all slots are there. -/
def Region.apartD (ops : Array Oper) (n : Nat) : Bool := (List.range ops.size).all fun i => (match (ops[i]?).bind (·.dst) with
  | some d => decide (d < n)
  | none => true) && (List.range ops.size).all fun j => i == j || match (ops[i]?).bind (·.dst), (ops[j]?).bind (·.dst) with
  | some d, some e => !(d == e)
  | _, _ => true
theorem free_any {Sem : Nat → Value → World → Prop} {a0 : Act} {w0 : World} {n0 : Nat} (hrow : Region.inRow md ops = true) (hap : Region.apartD ops a0.tmps.size = true)
    (hmono : ∀ i v u u', Sem i v u → Below u.heap.size u u' → Sem i v u')
    (hstep : ∀ i o a w, ops[i]? = some o → FreeIn md ops Sem a0 o a w → Below n0 w0 w → wpOp P ops Q i (fun b u => ∃ v, b = a.put o.dst v ∧ Sem i v u ∧ Below w.heap.size w u) a w)
    (hfin : ∀ a w, FreeAt ops Sem a0 (Array.replicate ops.size true) a w → Below n0 w0 w → Q .normal a w) (hn0 : n0 ≤ w0.heap.size) :
    ∀ n listed a w, (leftN ops listed).length ≤ n → FreeAt ops Sem a0 listed a w → Below n0 w0 w → wpAny P md ops Q n listed a w := by
  have hend : ∀ listed a w, Region.ready md ops listed = [] → FreeAt ops Sem a0 listed a w → Below n0 w0 w → Q .normal a w := by
    intro listed a w hr hF hb
    refine hfin a w ⟨hF.size, hF.defers, by simp, hF.out, fun i d _ hd => hF.done i d ?_ hd⟩ hb
    refine all_listed hrow hF.lsize hr i ?_
    apply Classical.byContradiction
    intro h
    rw [Array.getElem?_eq_none (by omega)] at hd
    cases hd
  intro n
  induction n with
  | zero =>
    intro listed a w hn hF hb
    have hr : Region.ready md ops listed = [] := by
      apply List.eq_nil_iff_forall_not_mem.2
      intro i hi
      obtain ⟨h1, o, ho, _⟩ := mem_ready.1 hi
      have : i ∈ leftN ops listed := mem_left.2 ⟨(Array.getElem?_eq_some_iff.1 ho).1, h1⟩
      have h0 : leftN ops listed = [] := List.eq_nil_of_length_eq_zero (by omega)
      rw [h0] at this
      cases this
    exact ⟨hr, hend _ _ _ hr hF hb⟩
  | succ n ih =>
    intro listed a w hn hF hb
    refine ⟨fun hr => hend _ _ _ hr hF hb, fun i hi => ?_⟩
    obtain ⟨h1, o, ho, hall⟩ := mem_ready.1 hi
    have hio : i < ops.size := (Array.getElem?_eq_some_iff.1 ho).1
    have hil : i < listed.size := by rw [hF.lsize]; exact hio
    have hIn : FreeIn md ops Sem a0 o a w := ⟨hF.size, hF.defers, hF.out, fun k d hk hd => by
      obtain ⟨e, he, h2⟩ : ∃ e ∈ o.after, (Region.binds md e && e.on == k) = true := by
        obtain ⟨e, he, h2⟩ := List.any_eq_true.1 hk
        exact ⟨e, by simpa using he, h2⟩
      rw [Bool.and_eq_true, beq_iff_eq] at h2
      obtain ⟨h2, rfl⟩ := h2
      exact hF.done e.on d (hall e he h2) hd⟩
    refine wpOp_mono (fun b u h => ?_) (hstep i o a w ho hIn hb)
    obtain ⟨v, rfl, hS, hbu⟩ := h
    refine ih _ _ _ (by have := leftN_set (mem_left.2 ⟨hio, h1⟩) hF.lsize; omega) ?_ (hb.trans (hbu.mono (Nat.le_trans hn0 hb.size)))
    have hA := List.all_eq_true.1 hap i (List.mem_range.2 hio)
    rw [Bool.and_eq_true] at hA
    obtain ⟨hA1, hA2⟩ := hA
    rw [ho, Option.bind_some] at hA1
    refine ⟨?_, ?_, by simp [hF.lsize], fun k hk => ?_, fun j d hj hd => ?_⟩
    · unfold Act.put
      split
      · simp [hF.size]
      · exact hF.size
    · unfold Act.put
      split <;> exact hF.defers
    · have := List.all_eq_true.1 hk o (by simpa using Array.mem_of_getElem? ho)
      unfold Act.put
      split
      · rename_i d hd
        rw [hd] at this
        have hdk : d ≠ k := by simpa using this
        show (a.tmps.setIfInBounds d v)[k]? = _
        rw [Array.getElem?_setIfInBounds_ne hdk]
        exact hF.out k hk
      · exact hF.out k hk
    · by_cases hji : j = i
      · subst hji
        rw [ho] at hd
        have hd' : o.dst = some d := hd
        rw [hd'] at hA1
        have hdn : d < a0.tmps.size := by simpa using hA1
        refine ⟨v, ?_, hS⟩
        unfold Act.put
        rw [hd']
        show (a.tmps.setIfInBounds d v)[d]? = _
        rw [Array.getElem?_setIfInBounds_self, if_pos (by rw [hF.size]; exact hdn)]
      · have hj2 : listed.getD j false = true := by
          have : (listed.setIfInBounds i true)[j]? = listed[j]? := Array.getElem?_setIfInBounds_ne (Ne.symm hji)
          simpa [this] using hj
        obtain ⟨v', h5, h6⟩ := hF.done j d hj2 hd
        refine ⟨v', ?_, hmono _ _ _ _ h6 hbu⟩
        unfold Act.put
        split
        · rename_i d' hd'
          have hne : d' ≠ d := by
            have hjo : j < ops.size := by
              apply Classical.byContradiction
              intro h
              rw [Array.getElem?_eq_none (by omega)] at hd
              cases hd
            have h7 := List.all_eq_true.1 hA2 j (List.mem_range.2 hjo)
            rw [ho, hd] at h7
            have hib : (i == j) = false := by simpa using Ne.symm hji
            rw [hib] at h7
            simp only [Option.bind_some, hd', Bool.false_or] at h7
            simpa using h7
          show (a.tmps.setIfInBounds d' v)[d]? = _
          rw [Array.getElem?_setIfInBounds_ne hne]
          exact h5
        · exact h5
theorem free_region {id : Nat} {Sem : Nat → Value → World → Prop} {a0 : Act} {w : World} (hm : P.follows .mixedOrders = true) {n : Nat} (hrow : Region.inRow .any ops = true) (hsz : a0.tmps.size = n) (hap : Region.apartD ops n = true)
    (hmono : ∀ i v u u', Sem i v u → Below u.heap.size u u' → Sem i v u')
    (hstep : ∀ i o a u, ops[i]? = some o → FreeIn .any ops Sem a0 o a u → Below w.drew.heap.size w.drew u → wpOp P ops Q i (fun b u' => ∃ v, b = a.put o.dst v ∧ Sem i v u' ∧ Below u.heap.size u u') a u)
    (hfin : ∀ a u, FreeAt ops Sem a0 (Array.replicate ops.size true) a u → Below w.drew.heap.size w.drew u → Q .normal a u) : (Code.region id ops true).wp P Q a0 w :=
  wp_region_any hm (free_any hrow (by rw [hsz]; exact hap) hmono hstep hfin (Nat.le_refl _) _ _ _ _ (by unfold leftN; exact Nat.le_trans (List.length_filter_le _ _) (by simp)) ⟨rfl, rfl, by simp, fun _ _ => rfl, fun i d h _ => by
    simp [Array.getElem?_replicate] at h
    split at h <;> simp_all⟩ (Below.refl _ _))
/-- The slots written one behind the other. -/
def putFrom (vs : Nat → Value) : Act → List Oper → Nat → Act
  | a, [], _ => a
  | a, o :: os, i => putFrom vs (a.put o.dst (vs i)) os (i + 1)
theorem putFrom_eq {a : Act} (vs : Nat → Value) : ∀ (os : List Oper) (i : Nat) (b : Act), (∀ j d, ((os[j]?).bind (·.dst)) = some d → d < a.tmps.size → a.tmps[d]? = some (vs (i + j))) → b.tmps.size = a.tmps.size → b.defers = a.defers →
    (∀ k, (os.all fun o => !(o.dst == some k)) = true → b.tmps[k]? = a.tmps[k]?) → putFrom vs b os i = a
  | [], i, b, _, h1, h2, h3 => by
    have : b.tmps = a.tmps := Array.ext_getElem? fun k => h3 k rfl
    cases a; cases b
    simp only at this h2
    rw [putFrom, this, h2]
  | o :: os, i, b, hv, h1, h2, h3 => by
    rw [putFrom]
    refine putFrom_eq vs os (i + 1) _ (fun j d hj hd => ?_) ?_ ?_ (fun k hk => ?_)
    · have := hv (j + 1) d (by simpa using hj) hd
      rw [this, show i + (j + 1) = i + 1 + j by omega]
    · unfold Act.put
      split
      · simp [h1]
      · exact h1
    · unfold Act.put
      split <;> exact h2
    · unfold Act.put
      split
      · rename_i d hd
        show (b.tmps.setIfInBounds d (vs i))[k]? = _
        by_cases hdk : d = k
        · subst hdk
          by_cases hds : d < a.tmps.size
          · rw [Array.getElem?_setIfInBounds_self, if_pos (by rw [h1]; exact hds)]
            have := hv 0 d (by simpa using hd) hds
            rw [this]; rfl
          · rw [Array.getElem?_eq_none (by rw [Array.size_setIfInBounds, h1]; exact Nat.not_lt.1 hds), Array.getElem?_eq_none (Nat.not_lt.1 hds)]
        · rw [Array.getElem?_setIfInBounds_ne hdk]
          refine h3 k ?_
          simp only [List.all_cons, hk, Bool.and_true, hd]
          simpa using hdk
      · rename_i hd
        refine h3 k ?_
        simp only [List.all_cons, hk, Bool.and_true, hd]
        rfl
/-- A region whose orders are left alone: its end, with a letter a slot. -/
theorem free_walk {id : Nat} {Sem : Nat → Value → World → Prop} {a0 : Act} {w : World} (hm : P.follows .mixedOrders = true) {n : Nat} (hrow : Region.inRow .any ops = true) (hsz : a0.tmps.size = n) (hap : Region.apartD ops n = true)
    (hmono : ∀ i v u u', Sem i v u → Below u.heap.size u u' → Sem i v u')
    (hstep : ∀ i o a u, ops[i]? = some o → FreeIn .any ops Sem a0 o a u → Below w.drew.heap.size w.drew u → wpOp P ops Q i (fun b u' => ∃ v, b = a.put o.dst v ∧ Sem i v u' ∧ Below u.heap.size u u') a u)
    (hfin : ∀ (vs : Nat → Value) u, (∀ i d, ((ops[i]?).bind (·.dst)) = some d → Sem i (vs i) u) → Below w.drew.heap.size w.drew u → Q .normal (putFrom vs a0 ops.toList 0) u) : (Code.region id ops true).wp P Q a0 w := by
  refine free_region hm hrow hsz hap hmono hstep (fun a u hF hb => ?_)
  have hin : ∀ (i : Nat) (d : Tmp), ((ops[i]?).bind (fun x => Oper.dst x)) = some d → i < ops.size := by
    intro i d hd
    apply Classical.byContradiction
    intro h
    rw [Array.getElem?_eq_none (by omega)] at hd
    cases hd
  have hlist : ∀ (i : Nat) (d : Tmp), ((ops[i]?).bind (fun x => Oper.dst x)) = some d → (Array.replicate ops.size true).getD i false = true := by
    intro i d hd
    simp [hin i d hd]
  have h1 : ∀ (i : Nat) (d : Tmp), ((ops[i]?).bind (fun x => Oper.dst x)) = some d → a.tmps[d]? = some ((((ops[i]?).bind (fun x => Oper.dst x)).bind (a.tmps[·]?)).getD undef) := by
    intro i d hd
    obtain ⟨v, h1, _⟩ := hF.done i d (hlist i d hd) hd
    rw [hd]
    show _ = some ((a.tmps[d]?).getD undef)
    rw [h1]; rfl
  have key := hfin (fun i => (((ops[i]?).bind (fun x => Oper.dst x)).bind (a.tmps[·]?)).getD undef) u (fun i d hd => by
    obtain ⟨v, h2, h3⟩ := hF.done i d (hlist i d hd) hd
    have h4 := h1 i d hd
    rw [h2] at h4
    exact Option.some.inj h4 ▸ h3) hb
  rw [putFrom_eq (a := a) _ ops.toList 0 a0 (fun j d hj _ => by
    rw [Nat.zero_add]
    exact h1 j d (by simpa using hj)) hF.size.symm hF.defers.symm (fun k hk => (hF.out k hk).symm)] at key
  exact key
/-- An operation that is done, with the world that it leaves. -/
theorem free_op {i : Nat} {o : Oper} {K : Act → World → Prop} {a : Act} {w : World} (ho : ops[i]? = some o) (hw : Region.wanted o (yielded ops a.tmps) = true) (h : Oper.wp P o a w K Q) : wpOp P ops Q i K a w :=
  wpOp_step ho (fun K' hK => by rw [if_pos hw]; exact Oper.wp_mono hK h)
/-- An operation that is done, and what is to be shown of it. -/
theorem free_step {i : Nat} {o : Oper} {Sem : Nat → Value → World → Prop} {a : Act} {w : World} (ho : ops[i]? = some o) (hw : Region.wanted o (yielded ops a.tmps) = true) (h : ∀ K' : Act → World → Prop, Hid (∀ v u, Sem i v u → Below w.heap.size w u → K' (a.put o.dst v) u) → Oper.wp P o a w K' Q) : wpOp P ops Q i (fun b u => ∃ v, b = a.put o.dst v ∧ Sem i v u ∧ Below w.heap.size w u) a w :=
  free_op ho hw (h _ (fun v _ hS hb => ⟨v, rfl, hS, hb⟩))
end
end Go.Proofs.YtpcmpeeflnlkpaaGreatDoor
