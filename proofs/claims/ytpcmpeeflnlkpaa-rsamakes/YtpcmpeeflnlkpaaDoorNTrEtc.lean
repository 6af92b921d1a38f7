/-
  bytes.Clone and nat.Trim.
  Package nat's calls, told by their values alone; package rsa's lessOne, leastCommon. (Layer 7.)
-/
import Derived.Test.YtpcmpeeflnlkpaaDoorUTwoEtc
import Derived.Test.YtpcmpeeflnlkpaaDoorNExpEtc
import Derived.Test.YtpcmpeeflnlkpaaDoorNInv
import Derived.Test.YtpcmpeeflnlkpaaDoorNTopEtc
import Derived.Test.YtpcmpeeflnlkpaaDoorNSubEtc
namespace Go.Proofs.YtpcmpeeflnlkpaaDoor
open Go.RowKit Ch
set_option maxRecDepth 100000

set_option maxHeartbeats 1000000 in
theorem cBytesClone_any (x : Option Addr) (m cx : Nat) (s : ByteArray) (w : World) (hS : IsBytes w (.slice x m cx) s) (hm : m = s.size) (hs : s.size ≤ 1000000) :
    Calls Tryd.prog 39 #[.slice x m cx] w fun e w' => ∃ v, e = .returned v ∧ w'.ownsRow w.heap.size 5 1 v s.size (byteVals s) ∧ Below w.heap.size w w' := by
  have HS := show Hid (IsBytes w (.slice x m cx) s) from hS
  have HM := show Hid (m = s.size) from hm
  clear hS hm
  have q22 : ∀ (w : World) (a : Option Addr) (n c n' c' : Nat), (binOp .eql 22 (.slice a n c) (.slice none n' c')).run Tryd.prog w = .ok (.bool a.isNone) w := fun w a n c n' c' => Lib.run_eql_slice_nil w _ 5 a n c n' c' (by kernel_rfl)
  rcases x with _ | x
  · have h0 : s.size = 0 := by
      obtain ⟨_, _, e1, _, _, ⟨_, h0, _⟩ | ⟨_, e2, _⟩⟩ := HS.out
      · exact h0
      · simp only [Value.slice.injEq] at e1
        rw [← e1.1] at e2
        cases e2
    have HZ := show Hid (s.size = 0) from h0
    clear h0
    go_enter Tryd.func39, Tryd.ntmps39
    go_wp2_with fail
    go_ret
    refine ⟨_, rfl, ?_, Below.refl _ _⟩
    rw [empty_of_size HZ.out]
    exact own_nil _ _ _
  · go_enter Tryd.func39, Tryd.ntmps39
    go_wp2_with (at_builtin; go_must (refine wpList_append_bytes rfl _ _ rfl w.heap.size _ ByteArray.empty rfl (own_empty w _ (Nat.le_refl _)) _ s rfl (HS.out.alloc _) (by simp; omega) (by simp) ?_; intro v2 w2 ho2 hb2))
    go_ret
    refine ⟨_, rfl, ?_, ?_⟩
    · rw [cat_empty] at ho2
      exact ho2
    · exact ((Below.refl _ w).alloc (Nat.le_refl _) _).trans hb2
set_option maxHeartbeats 1000000 in
theorem nTrim_any (x : Option Addr) (cx : Nat) (s : ByteArray) (w : World) (hS : IsBytes w (.slice x s.size cx) s) (hs : s.size ≤ 1000000) :
    Calls Tryd.prog 19 #[.slice x s.size cx] w fun e w' => ∃ v, e = .returned v ∧ w'.ownsRow w.heap.size 5 1 v (bareL s.data.toList).length (Lib.byteCells (bareL s.data.toList)) ∧ Below w.heap.size w w' := by
  have hA := nBare_any x cx s w hS hs
  clear hS
  have hle : (bareL s.data.toList).length ≤ 1000000 := Nat.le_trans (List.dropWhile_sublist _).length_le (by rw [len_eq]; exact hs)
  go_enter Tryd.func19, Tryd.ntmps19
  go_wp2_with fail
  refine hA.mono ?_
  rintro e w1 ⟨⟨ya, ma, ca, rfl, hma, ha⟩, rfl⟩
  have hz : (⟨(bareL s.data.toList).toArray⟩ : ByteArray).size = (bareL s.data.toList).length := size_of_list _
  have hC := cBytesClone_any ya ma ca _ w1 ha (by rw [hz]; exact hma) (by rw [hz]; exact hle)
  rw [hz] at hC
  have HA := show Hid (ma = (bareL s.data.toList).length) from hma
  clear hma hA ha hz
  go_wp2_with fail
  refine hC.mono ?_
  rintro e w2 ⟨v, rfl, ho, hb⟩
  go_wp2_with fail
  go_ret
  exact ⟨_, rfl, ho, hb⟩
end Go.Proofs.YtpcmpeeflnlkpaaDoor

namespace Go.Proofs.YtpcmpeeflnlkpaaDoor
open Go.RowKit Ch
set_option maxRecDepth 100000

theorem bl2 {a b c : World} (h1 : Below a.heap.size a b) (h2 : Below b.heap.size b c) : Below a.heap.size a c := h1.trans (h2.mono h1.size)
theorem alB (w : World) (o : Obj) : Below w.heap.size w (w.alloc o) := (Below.refl _ w).alloc (Nat.le_refl _) _
/-- The call answers these bytes. -/
def Gives (w : World) (R : List UInt8) (e : Ending) (w' : World) : Prop := (∃ v, e = .returned v ∧ IsBytes w' v ⟨R.toArray⟩) ∧ Below w.heap.size w w'
theorem isb_shape {w : World} {v : Value} {l : List UInt8} (h : IsBytes w v ⟨l.toArray⟩) : ∃ y c, v = .slice y l.length c := by
  obtain ⟨a, c, hv, _⟩ := h
  exact ⟨a, c, by rw [hv, size_of_list]⟩
theorem isb_open {w : World} {v : Value} {s : ByteArray} (h : IsBytes w v s) : ∃ y k c, v = .slice y k c := by
  obtain ⟨a, c, hv, _⟩ := h
  exact ⟨a, _, c, hv⟩
theorem numB_pow {l : List UInt8} {n : Nat} (h : bareL l = l) (hn : numB l < 256 ^ n) : l.length ≤ n := by
  cases hl : l with
  | nil => simp
  | cons c r =>
    have h1 := numB_ge h (by rw [hl]; simp)
    rw [← hl]
    have h2 : 256 ^ (l.length - 1) < 256 ^ n := Nat.lt_of_le_of_lt h1 hn
    have h3 := (Nat.pow_lt_pow_iff_right (a := 256) (by decide)).1 h2
    omega
theorem bare_leQ (l : List UInt8) : (bareL l).length ≤ l.length := by
  unfold bareL
  exact (List.dropWhile_sublist _).length_le
/-- A number of at most n bytes, without leading noughts. -/
def IsNb (n : Nat) (w : World) (v : Value) (N : Nat) : Prop := ∃ R : List UInt8, IsBytes w v ⟨R.toArray⟩ ∧ bareL R = R ∧ numB R = N ∧ R.length ≤ n
theorem IsNb.later {n : Nat} {w w' : World} {v : Value} {N : Nat} (h : IsNb n w v N) (hb : Below w.heap.size w w') : IsNb n w' v N := by
  obtain ⟨R, h1, h2⟩ := h
  exact ⟨R, h1.later hb, h2⟩
theorem IsNb.of {n : Nat} {w : World} {v : Value} {N : Nat} (h : IsNum w v N) (hn : N < 256 ^ n) : IsNb n w v N := by
  obtain ⟨R, y, c, rfl, h1, h2, h3⟩ := h
  exact ⟨R, h1, h2, h3, numB_pow h2 (by rw [h3]; exact hn)⟩
theorem IsNb.lt {n : Nat} {w : World} {v : Value} {N : Nat} (h : IsNb n w v N) : N < 256 ^ n := by
  obtain ⟨R, _, _, h3, h4⟩ := h
  rw [← h3]
  exact Nat.lt_of_lt_of_le (numB_lt R) (Nat.pow_le_pow_right (by decide) h4)
theorem IsNb.more {n m : Nat} {w : World} {v : Value} {N : Nat} (h : IsNb n w v N) (hm : n ≤ m) : IsNb m w v N := by
  obtain ⟨R, h1, h2, h3, h4⟩ := h
  exact ⟨R, h1, h2, h3, by omega⟩
theorem IsNb.open {n : Nat} {w : World} {v : Value} {N : Nat} (h : IsNb n w v N) : ∃ y k c, v = .slice y k c := by
  obtain ⟨R, h1, _⟩ := h
  exact isb_open h1
theorem nTrimV (l : List UInt8) (v : Value) (w : World) (h : IsBytes w v ⟨l.toArray⟩) (hl : l.length ≤ 1000000) : Calls Tryd.prog 19 #[v] w fun e w' => (∃ x, e = .returned x ∧ IsBytes w' x ⟨(bareL l).toArray⟩) ∧ Below w.heap.size w w' := by
  obtain ⟨x, cx, rfl⟩ := isb_shape h
  have hz : (⟨l.toArray⟩ : ByteArray).size = l.length := size_of_list l
  have := nTrim_any x cx ⟨l.toArray⟩ w (by rw [hz]; exact h) (by rw [hz]; exact hl)
  rw [hz] at this
  refine this.mono ?_
  rintro e w' ⟨v, h1, h2, h3⟩
  have e1 : (⟨(bareL l).toArray⟩ : ByteArray).size = (bareL l).length := size_of_list _
  exact ⟨⟨v, h1, own_bytes (base := w.heap.size) (by rw [e1]; exact h2)⟩, h3⟩
theorem nMulV {n m M N : Nat} (v u : Value) (w : World) (h1 : IsNb n w v M) (h2 : IsNb m w u N) (hn : n ≤ 1024) (hm : m ≤ 1024) : Calls Tryd.prog 22 #[v, u] w fun e w' => (∃ x, e = .returned (.tuple #[x, .int .i64 0]) ∧ IsNb (n + m) w' x (M * N)) ∧ Below w.heap.size w w' := by
  have l1 := h1.lt
  have l2 := h2.lt
  obtain ⟨R, a1, a2, a3, a4⟩ := h1
  obtain ⟨S, b1, b2, b3, b4⟩ := h2
  obtain ⟨x, cx, rfl⟩ := isb_shape a1
  obtain ⟨y, cy, rfl⟩ := isb_shape b1
  have z1 : (⟨R.toArray⟩ : ByteArray).size = R.length := size_of_list R
  have z2 : (⟨S.toArray⟩ : ByteArray).size = S.length := size_of_list S
  have := nMul_any x y cx cy ⟨R.toArray⟩ ⟨S.toArray⟩ w (by rw [z1]; exact a1) (by rw [z2]; exact b1) (by omega) (by omega)
  rw [z1, z2] at this
  refine this.mono ?_
  rintro e w' ⟨v, h1, h2, h3⟩
  rw [show numB (⟨R.toArray⟩ : ByteArray).data.toList = M from a3, show numB (⟨S.toArray⟩ : ByteArray).data.toList = N from b3] at h2
  exact ⟨⟨v, h1, .of h2 (by rw [Nat.pow_add]; exact Nat.mul_lt_mul'' l1 l2)⟩, h3⟩
theorem nSubV {n m M N : Nat} (v u : Value) (w : World) (h1 : IsNb n w v M) (h2 : IsNb m w u N) (hn : n ≤ 1024) (hm : m ≤ 1024) (hle : N ≤ M) : Calls Tryd.prog 47 #[v, u] w fun e w' => (∃ x, e = .returned (.tuple #[x, .int .i64 0]) ∧ IsNb n w' x (M - N)) ∧ Below w.heap.size w w' := by
  have l1 := h1.lt
  obtain ⟨R, a1, a2, a3, a4⟩ := h1
  obtain ⟨S, b1, b2, b3, b4⟩ := h2
  obtain ⟨x, cx, rfl⟩ := isb_shape a1
  obtain ⟨y, cy, rfl⟩ := isb_shape b1
  have z1 : (⟨R.toArray⟩ : ByteArray).size = R.length := size_of_list R
  have z2 : (⟨S.toArray⟩ : ByteArray).size = S.length := size_of_list S
  have := nSub_any x y cx cy ⟨R.toArray⟩ ⟨S.toArray⟩ w (by rw [z1]; exact a1) (by rw [z2]; exact b1) (by omega) (by omega) (show numB S ≤ numB R by omega)
  rw [z1, z2] at this
  refine this.mono ?_
  rintro e w' ⟨v, h1, h2, h3⟩
  rw [show numB (⟨R.toArray⟩ : ByteArray).data.toList = M from a3, show numB (⟨S.toArray⟩ : ByteArray).data.toList = N from b3] at h2
  exact ⟨⟨v, h1, .of h2 (by omega)⟩, h3⟩
theorem nGcdV {n m M N : Nat} (v u : Value) (w : World) (h1 : IsNb n w v M) (h2 : IsNb m w u N) (hn : n ≤ 1024) (hm : m ≤ 1024) (h0 : 0 < M) : Calls Tryd.prog 45 #[v, u] w fun e w' => (∃ x, e = .returned (.tuple #[x, .int .i64 0]) ∧ IsNb n w' x (Nat.gcd M N)) ∧ Below w.heap.size w w' := by
  have l1 := h1.lt
  obtain ⟨R, a1, a2, a3, a4⟩ := h1
  obtain ⟨S, b1, b2, b3, b4⟩ := h2
  obtain ⟨x, cx, rfl⟩ := isb_shape a1
  obtain ⟨y, cy, rfl⟩ := isb_shape b1
  have z1 : (⟨R.toArray⟩ : ByteArray).size = R.length := size_of_list R
  have z2 : (⟨S.toArray⟩ : ByteArray).size = S.length := size_of_list S
  have := nGcd_any x y cx cy ⟨R.toArray⟩ ⟨S.toArray⟩ w (by rw [z1]; exact a1) (by rw [z2]; exact b1) (by omega) (by omega)
  rw [z1, z2] at this
  refine this.mono ?_
  rintro e w' ⟨v, h1, h2, h3⟩
  rw [show numB (⟨R.toArray⟩ : ByteArray).data.toList = M from a3, show numB (⟨S.toArray⟩ : ByteArray).data.toList = N from b3] at h2
  exact ⟨⟨v, h1, .of h2 (Nat.lt_of_le_of_lt (Nat.gcd_le_left N h0) l1)⟩, h3⟩
theorem nDivV {n m M N : Nat} (v u : Value) (w : World) (h1 : IsNb n w v M) (h2 : IsNb m w u N) (hn : n ≤ 1024) (hm : m ≤ 1024) (h0 : 0 < N) : Calls Tryd.prog 46 #[v, u] w fun e w' => (∃ x y, e = .returned (.tuple #[x, y, .int .i64 0]) ∧ IsNb n w' x (M / N) ∧ IsNb m w' y (M % N)) ∧ Below w.heap.size w w' := by
  have l1 := h1.lt
  have l2 := h2.lt
  obtain ⟨R, a1, a2, a3, a4⟩ := h1
  obtain ⟨S, b1, b2, b3, b4⟩ := h2
  obtain ⟨x, cx, rfl⟩ := isb_shape a1
  obtain ⟨y, cy, rfl⟩ := isb_shape b1
  have z1 : (⟨R.toArray⟩ : ByteArray).size = R.length := size_of_list R
  have z2 : (⟨S.toArray⟩ : ByteArray).size = S.length := size_of_list S
  have := nDiv_any x y cx cy ⟨R.toArray⟩ ⟨S.toArray⟩ w (by rw [z1]; exact a1) (by rw [z2]; exact b1) (by omega) (by omega) (show numB S ≠ 0 by omega)
  rw [z1, z2] at this
  refine this.mono ?_
  rintro e w' ⟨v1, v2, h1, h2, h2', h3⟩
  rw [show numB (⟨R.toArray⟩ : ByteArray).data.toList = M from a3, show numB (⟨S.toArray⟩ : ByteArray).data.toList = N from b3] at h2 h2'
  exact ⟨⟨v1, v2, h1, .of h2 (Nat.lt_of_le_of_lt (Nat.div_le_self M N) l1), .of h2' (Nat.lt_trans (Nat.mod_lt M h0) l2)⟩, h3⟩
theorem nInvV {n m M N : Nat} (v u : Value) (w : World) (h1 : IsNb n w v M) (h2 : IsNb m w u N) (hn : n ≤ 1024) (hm : m ≤ 1024) (h0 : 2 ≤ N) : Calls Tryd.prog 26 #[v, u] w fun e w' => ((Nat.gcd M N = 1 ∧ ∃ x K, e = .returned (.tuple #[x, .int .i64 0]) ∧ IsNb m w' x K ∧ K < N ∧ K * M % N = 1) ∨ Nat.gcd M N ≠ 1 ∧ e = .returned (.tuple #[.slice none 0 0, .int .i64 20])) ∧ Below w.heap.size w w' := by
  have l2 := h2.lt
  obtain ⟨R, a1, a2, a3, a4⟩ := h1
  obtain ⟨S, b1, b2, b3, b4⟩ := h2
  obtain ⟨x, cx, rfl⟩ := isb_shape a1
  obtain ⟨y, cy, rfl⟩ := isb_shape b1
  have z1 : (⟨R.toArray⟩ : ByteArray).size = R.length := size_of_list R
  have z2 : (⟨S.toArray⟩ : ByteArray).size = S.length := size_of_list S
  have := nInverse_any x y cx cy ⟨R.toArray⟩ ⟨S.toArray⟩ w (by rw [z1]; exact a1) (by rw [z2]; exact b1) (by omega) (by omega) (show 2 ≤ numB S by omega)
  rw [z1, z2] at this
  refine this.mono ?_
  intro e w' h
  rw [show numB (⟨R.toArray⟩ : ByteArray).data.toList = M from a3, show numB (⟨S.toArray⟩ : ByteArray).data.toList = N from b3] at h
  unfold InvOk at h
  by_cases hg : Nat.gcd M N = 1
  · rw [if_pos hg] at h
    obtain ⟨K, ⟨v, e1, e2, e3⟩, e4, e5⟩ := h
    exact ⟨.inl ⟨hg, v, K, e1, .of e2 (by omega), e4, e5⟩, e3⟩
  · rw [if_neg hg] at h
    exact ⟨.inr ⟨hg, h.1⟩, h.2⟩
theorem nExpV {n m k M N K : Nat} (v u z : Value) (w : World) (h1 : IsNb n w v M) (h2 : IsNb m w u N) (h3 : IsNb k w z K) (hn : n ≤ 1024) (hm : m ≤ 1024) (hk : k ≤ 1024) (h0 : 0 < K) : Calls Tryd.prog 37 #[v, u, z] w fun e w' => (∃ x, e = .returned (.tuple #[x, .int .i64 0]) ∧ IsNb k w' x (M ^ N % K)) ∧ Below w.heap.size w w' := by
  have l3 := h3.lt
  obtain ⟨R, a1, a2, a3, a4⟩ := h1
  obtain ⟨S, b1, b2, b3, b4⟩ := h2
  obtain ⟨T, c1, c2, c3, c4⟩ := h3
  obtain ⟨x, cx, rfl⟩ := isb_shape a1
  obtain ⟨y, cy, rfl⟩ := isb_shape b1
  obtain ⟨z, cz, rfl⟩ := isb_shape c1
  have z1 : (⟨R.toArray⟩ : ByteArray).size = R.length := size_of_list R
  have z2 : (⟨S.toArray⟩ : ByteArray).size = S.length := size_of_list S
  have z3 : (⟨T.toArray⟩ : ByteArray).size = T.length := size_of_list T
  have := nExp_any x y z cx cy cz ⟨R.toArray⟩ ⟨S.toArray⟩ ⟨T.toArray⟩ w (by rw [z1]; exact a1) (by rw [z2]; exact b1) (by rw [z3]; exact c1) (by omega) (by omega) (by omega) (show numB T ≠ 0 by omega)
  rw [z1, z2, z3] at this
  refine this.mono ?_
  rintro e w' ⟨v, e1, e2, e3⟩
  rw [show numB (⟨R.toArray⟩ : ByteArray).data.toList = M from a3, show numB (⟨S.toArray⟩ : ByteArray).data.toList = N from b3, show numB (⟨T.toArray⟩ : ByteArray).data.toList = K from c3] at e2
  exact ⟨⟨v, e1, .of e2 (Nat.lt_trans (Nat.mod_lt _ h0) l3)⟩, e3⟩
end Go.Proofs.YtpcmpeeflnlkpaaDoor
