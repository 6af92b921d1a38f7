/-
  The document's digits, plain facts and trim (out of NTrim, NPl, NRef: of no word that the seat has not).
  The document's digits of bytes.
  The document's numbers: digits of eight bits; Of and Bytes (out of NDg and NTo).
-/
import Derived.Test.YthdoginhbhdmbaaUTwo
import Derived.Test.YthdoginhbhdmbaaNBareEtc
namespace Go.Proofs.Ythdoginhbhdmbaa
open Go.RowKit Ch
set_option maxRecDepth 100000

/-- Without noughts at the end. -/
def trimL (l : List Nat) : List Nat := (l.reverse.dropWhile (· == 0)).reverse
theorem trimL_zero (l : List Nat) : trimL (l ++ [0]) = trimL l := by simp [trimL]
theorem trimL_stop {d : Nat} (h : d ≠ 0) (l : List Nat) : trimL (l ++ [d]) = l ++ [d] := by
  unfold trimL
  rw [List.reverse_append]
  simp [h]
theorem trimL_nil : trimL [] = [] := rfl
theorem IsN.take {k : IntKind} {w : World} {y : Option Addr} {n c m : Nat} {L : List Nat} (h : IsN k w (.slice y n c) L) (hm : m ≤ L.length) : IsN k w (.slice y m c) (L.take m) := by
  have hl : (L.take m).length = m := by rw [List.length_take]; omega
  obtain ⟨a, cap, hv, hc, hmx, ⟨ha, h0, hc0⟩ | ⟨x, ha, h0 | ⟨b, o, hx, hb, hf⟩⟩⟩ := h
  all_goals
    simp only [Value.slice.injEq] at hv
    obtain ⟨rfl, _, rfl⟩ := hv
  · exact ⟨y, c, by rw [hl], by rw [hl]; omega, hmx, .inl ⟨ha, by rw [hl]; omega, hc0⟩⟩
  · exact ⟨y, c, by rw [hl], by rw [hl]; omega, hmx, .inr ⟨x, ha, .inl (by rw [hl]; omega)⟩⟩
  · refine ⟨y, c, by rw [hl], by rw [hl]; omega, hmx, .inr ⟨x, ha, .inr ⟨b, o, hx, hb, fun i n hn => hf i n ?_⟩⟩⟩
    rw [List.getElem?_take] at hn
    split at hn
    · exact hn
    · cases hn
/-- Without a nought at the end. -/
def Tidy (L : List Nat) : Prop := trimL L = L
theorem tidy_last {L : List Nat} (h : Tidy L) {x : Nat} {l : List Nat} (e : L = l ++ [x]) : x ≠ 0 := by
  intro hx
  subst hx
  unfold Tidy at h
  rw [e, trimL_zero] at h
  have h1 : (trimL l).length ≤ l.length := by
    unfold trimL
    rw [List.length_reverse]
    exact Nat.le_trans (List.dropWhile_sublist _).length_le (by simp)
  have := congrArg List.length h
  simp at this
  omega
theorem tidy_trim (L : List Nat) : Tidy (trimL L) := by
  unfold Tidy trimL
  rw [List.reverse_reverse, dropWhile_again]
/-- Digits, the least first, as a number. -/
def numD : List Nat → Nat
  | [] => 0
  | x :: xs => x + 256 * numD xs
theorem numD_append (a b : List Nat) : numD (a ++ b) = numD a + 256 ^ a.length * numD b := by
  induction a with
  | nil => simp [numD]
  | cons x a ih =>
    rw [List.cons_append, numD, numD, ih, List.length_cons, Nat.pow_succ, Nat.mul_add, Nat.add_assoc, Nat.mul_comm (256 ^ a.length) 256, Nat.mul_assoc]
theorem numD_trim : ∀ (n : Nat) (l : List Nat), l.length = n → numD (trimL l) = numD l
  | 0, l, h => by rw [List.eq_nil_of_length_eq_zero h]; rfl
  | n + 1, l, h => by
    rcases List.eq_nil_or_concat l with rfl | ⟨l', d, rfl⟩
    · rfl
    · rw [List.concat_eq_append] at h ⊢
      by_cases hd : d = 0
      · subst hd
        rw [trimL_zero, numD_append, numD_trim n l' (by simp at h; exact h)]
        simp [numD]
      · rw [trimL_stop hd]
def AllD (L : List Nat) : Prop := ∀ x ∈ L, x < 256
theorem AllD.at {L : List Nat} (h : AllD L) {i n : Nat} (hn : L[i]? = some n) : n < 256 := h n (List.mem_of_getElem? hn)
theorem AllD.set {L : List Nat} (h : AllD L) (i : Nat) {n : Nat} (hn : n < 256) : AllD (L.set i n) := by
  intro x hx
  rcases List.mem_or_eq_of_mem_set hx with hx | rfl
  · exact h x hx
  · exact hn
theorem AllD.take {L : List Nat} (h : AllD L) (i : Nat) : AllD (L.take i) := fun x hx => h x (List.mem_of_mem_take hx)
theorem AllD.drop {L : List Nat} (h : AllD L) (i : Nat) : AllD (L.drop i) := fun x hx => h x (List.mem_of_mem_drop hx)
theorem allD_zero (n : Nat) : AllD (List.replicate n 0) := fun x hx => by rw [List.eq_of_mem_replicate hx]; decide
theorem numD_zero : ∀ n, numD (List.replicate n 0) = 0
  | 0 => rfl
  | n + 1 => by rw [List.replicate_succ, numD, numD_zero n]
theorem numD_lt : ∀ {L : List Nat}, AllD L → numD L < 256 ^ L.length
  | [], _ => by simp [numD]
  | x :: L, h => by
    have h1 := numD_lt (L := L) (fun y hy => h y (List.mem_cons_of_mem _ hy))
    have h2 := h x (by simp)
    rw [numD, List.length_cons, Nat.pow_succ]
    have h3 : 256 * (numD L + 1) ≤ 256 * 256 ^ L.length := Nat.mul_le_mul_left _ h1
    rw [Nat.mul_comm (256 ^ L.length)]
    omega
def pd (L : List Nat) (o n : Nat) : Nat := numD ((L.drop o).take n)
theorem pd_zero (L : List Nat) (o : Nat) : pd L o 0 = 0 := by simp [pd, numD]
theorem pd_at (L : List Nat) (o n k : Nat) : ((L.drop o).take n)[k]? = if k < n then L[o + k]? else none := by
  rw [List.getElem?_take]
  split
  · rw [List.getElem?_drop]
  · rfl
theorem numD_snoc (l : List Nat) (x : Nat) : numD (l ++ [x]) = numD l + 256 ^ l.length * x := by
  rw [numD_append]
  simp [numD]
theorem pd_succ {L : List Nat} {o n x : Nat} (h : L[o + n]? = some x) : pd L o (n + 1) = pd L o n + 256 ^ n * x := by
  have hl := (List.getElem?_eq_some_iff.1 h).1
  have e : (L.drop o).take (n + 1) = (L.drop o).take n ++ [x] := by
    rw [List.take_add_one, List.getElem?_drop, h]
    rfl
  unfold pd
  rw [e, numD_snoc]
  congr 2
  rw [List.length_take, List.length_drop]
  congr 1
  omega
theorem pd_congr {L L' : List Nat} {o n : Nat} (h : ∀ k, o ≤ k → k < o + n → L'[k]? = L[k]?) : pd L' o n = pd L o n := by
  unfold pd
  congr 1
  apply List.ext_getElem?
  intro k
  rw [pd_at, pd_at]
  split
  · exact h _ (by omega) (by omega)
  · rfl
theorem pd_set {L : List Nat} {o n i x : Nat} (h : i < o ∨ o + n ≤ i) : pd (L.set i x) o n = pd L o n :=
  pd_congr fun k h1 h2 => List.getElem?_set_ne (by omega)
theorem pd_all (L : List Nat) : pd L 0 L.length = numD L := by simp [pd]
theorem pd_full {L : List Nat} {n : Nat} (h : L.length = n) : pd L 0 n = numD L := by rw [← h]; exact pd_all L
theorem pd_lt {L : List Nat} (h : AllD L) (o n : Nat) : pd L o n < 256 ^ n := by
  have h1 := numD_lt ((h.drop o).take n)
  have h2 : 256 ^ ((L.drop o).take n).length ≤ 256 ^ n := Nat.pow_le_pow_right (by decide) (List.length_take_le _ _)
  exact Nat.lt_of_lt_of_le h1 h2
theorem pd_append (L : List Nat) (o m n : Nat) (h : o + m ≤ L.length) : pd L o (m + n) = pd L o m + 256 ^ m * pd L (o + m) n := by
  have e : (L.drop o).take (m + n) = (L.drop o).take m ++ (L.drop (o + m)).take n := by
    rw [List.take_add, List.drop_drop]
  unfold pd
  rw [e, numD_append]
  congr 2
  rw [List.length_take, List.length_drop]
  congr 1
  omega
theorem numD_take {V : List Nat} {i x : Nat} (h : V[i]? = some x) : numD (V.take (i + 1)) = numD (V.take i) + 256 ^ i * x := by
  have := pd_succ (L := V) (o := 0) (n := i) (x := x) (by rw [Nat.zero_add]; exact h)
  simpa [pd] using this
theorem numD_set {L : List Nat} {i x y : Nat} (h : L[i]? = some x) : numD (L.set i y) + 256 ^ i * x = numD L + 256 ^ i * y := by
  induction L generalizing i with
  | nil => cases h
  | cons z L ih =>
    cases i with
    | zero =>
      simp only [List.getElem?_cons_zero, Option.some.injEq] at h
      subst h
      simp [numD]
      omega
    | succ i =>
      simp only [List.getElem?_cons_succ] at h
      have := ih h
      rw [List.set_cons_succ, numD, numD, Nat.pow_succ, Nat.mul_comm (256 ^ i), Nat.mul_assoc, Nat.mul_assoc]
      omega
theorem tidy_geD {L : List Nat} (h : Tidy L) (h0 : L ≠ []) : 256 ^ (L.length - 1) ≤ numD L := by
  obtain ⟨l, x, e⟩ : ∃ l x, L = l ++ [x] := by
    rcases List.eq_nil_or_concat L with h1 | ⟨l, x, h1⟩
    · exact absurd h1 h0
    · exact ⟨l, x, by rw [h1, List.concat_eq_append]⟩
  have hx := tidy_last h e
  rw [e, numD_snoc, List.length_append]
  have h1 : l.length + [x].length - 1 = l.length := by simp
  rw [h1]
  have : 256 ^ l.length * 1 ≤ 256 ^ l.length * x := Nat.mul_le_mul_left _ (by omega)
  omega
theorem tidy_lenD {A C : List Nat} (hA : Tidy A) (hC : AllD C) (h : numD A ≤ numD C) : A.length ≤ C.length := by
  apply Classical.byContradiction
  intro hn
  have h0 : A ≠ [] := by intro e; subst e; simp at hn
  have h1 := tidy_geD hA h0
  have h2 := numD_lt hC
  have h3 : 256 ^ C.length ≤ 256 ^ (A.length - 1) := Nat.pow_le_pow_right (by decide) (by omega)
  omega
theorem tidy_nilD {L : List Nat} (h : Tidy L) : numD L = 0 ↔ L = [] := by
  constructor
  · intro h0
    apply Classical.byContradiction
    intro hn
    have := tidy_geD h hn
    have : 0 < 256 ^ (L.length - 1) := Nat.pow_pos (by decide)
    omega
  · intro h0; subst h0; rfl
theorem AllD.trim {L : List Nat} (h : AllD L) : AllD (trimL L) := by
  intro x hx
  unfold trimL at hx
  rw [List.mem_reverse] at hx
  exact h x (List.mem_reverse.1 ((List.dropWhile_sublist _).subset hx))
theorem numD_drop {R : List Nat} {j x : Nat} (h : R[j]? = some x) : numD (R.drop j) = x + 256 * numD (R.drop (j + 1)) := by
  have hl := List.getElem?_eq_some_iff.1 h
  rw [List.drop_eq_getElem_cons hl.1, numD, hl.2]
theorem numD_cut (R : List Nat) (j : Nat) (h : j ≤ R.length) : numD R = pd R 0 j + 256 ^ j * numD (R.drop j) := by
  have e : R = R.take j ++ R.drop j := (List.take_append_drop _ _).symm
  have h1 : numD R = numD (R.take j ++ R.drop j) := by rw [← e]
  rw [h1, numD_append, List.length_take, Nat.min_eq_left h]
  simp [pd]
theorem numD_piece {R : List Nat} {j n : Nat} (h : j + n ≤ R.length) : numD (R.drop j) = pd R j n + 256 ^ n * numD (R.drop (j + n)) := by
  have := numD_cut (R.drop j) n (by rw [List.length_drop]; omega)
  rw [List.drop_drop] at this
  simpa [pd] using this
set_option maxHeartbeats 2000000 in
theorem dTrim_any (y : Option Addr) (c : Nat) (L : List Nat) (w : World) (hS : IsN .i64 w (.slice y L.length c) L) (hs : L.length ≤ 1000000) :
    Calls Try.prog 52 #[.slice y L.length c] w fun e w' => e = .returned (.slice y (trimL L).length c) ∧ IsN .i64 w (.slice y (trimL L).length c) (trimL L) ∧ w' = w := by
  have HS := show Hid (IsN .i64 w (.slice y L.length c) L) from hS
  have hcL : L.length ≤ c := by
    obtain ⟨_, _, e1, e2, _⟩ := hS
    simp only [Value.slice.injEq] at e1
    omega
  obtain ⟨n, hn⟩ : ∃ n, L.length = n := ⟨_, rfl⟩
  have HN := show Hid (L.length = n) from hn
  rw [hn] at hs hcL ⊢
  clear hS hn
  go_enter Try.func52, Try.ntmps52
  go_wp2_with fail
  go_loopw [0] (fun u wr => ∃ m : Nat, u = .slice y m c ∧ m ≤ n ∧ Hid (trimL (L.take m) = trimL L) ∧ wr = w) (fun u _ => lenOf u)
  case atStart => exact ⟨n, rfl, Nat.le_refl _, by unfold Hid; rw [List.take_of_length_le (by rw [HN.out]; exact Nat.le_refl _)], rfl⟩
  case round =>
    obtain ⟨m, rfl, hmn, hT, rfl⟩ := hrel
    by_cases h0 : 0 < m
    · have h02 : (0 : Int) < (m : Int) := by omega
      obtain ⟨m1, hm1⟩ : ∃ m1, m - 1 = m1 := ⟨_, rfl⟩
      have e1 : (m : Int) - 1 = (m1 : Int) := by omega
      have wi : IntKind.i64.wrap (m1 : Int) = (m1 : Int) := by rw [IntKind.wrap_i64]; omega
      have hlt : (m1 : Int) < (m : Int) := by omega
      have hm1c : (m1 : Int) ≤ (c : Int) := by omega
      have hm1c2 : m1 ≤ c := by omega
      have hdg : L[m1]? = some (atN L m1) := atN_some (by have := HN.out; omega)
      obtain ⟨d, hd⟩ : ∃ d, atN L m1 = d := ⟨_, rfl⟩
      rw [hd] at hdg
      have htk : L.take m = L.take m1 ++ [d] := by
        rw [show m = m1 + 1 by omega, List.take_add_one, hdg]
        rfl
      obtain ⟨x1, b, o, rfl, hbl, gc⟩ := IsN.cellAt HS.out hdg
      clear x1
      have HT2 := show Hid (trimL (L.take m1 ++ [d]) = trimL L) from by unfold Hid; rw [← htk]; exact hT.out
      have HTK := show Hid (L.take m = L.take m1 ++ [d]) from htk
      clear hT htk hdg hd
      by_cases hd0 : d = 0
      · subst hd0
        have HT3 := show Hid (trimL (L.take m1) = trimL L) from by unfold Hid; rw [← HT2.out, trimL_zero]
        clear HT2 HTK
        go_wp2_with fail
        go_roundw
        case rel => exact ⟨m1, rfl, by omega, HT3.out, trivial⟩
        case measure => simp [lenOf]; omega
      · have hdz : ((d : Int) == 0) = false := by simp; omega
        have hbd : trimL L = L.take m := by rw [← HT2.out, trimL_stop hd0, HTK.out]
        have hlm : (L.take m).length = m := by rw [List.length_take, HN.out]; omega
        have HR := show Hid ((trimL L).length = m ∧ IsN .i64 wr (.slice (some ⟨b, o, none⟩) m c) (trimL L)) from ⟨by rw [hbd, hlm], by rw [hbd]; exact HS.out.take (by rw [HN.out]; exact hmn)⟩
        clear hbd hlm HT2 HTK
        go_wp2_with fail
        go_ret
        exact ⟨by rw [HR.out.1]; rfl, by rw [HR.out.1]; exact HR.out.2, rfl⟩
    · have h02 : ¬ (0 : Int) < (m : Int) := by omega
      obtain rfl : m = 0 := by omega
      have hbd : trimL L = L.take 0 := by rw [← hT.out, List.take_zero]; rfl
      have HR := show Hid ((trimL L).length = 0 ∧ IsN .i64 wr (.slice y 0 c) (trimL L)) from ⟨by rw [hbd]; rfl, by rw [hbd]; exact HS.out.take (Nat.zero_le _)⟩
      clear hbd hT
      go_wp2_with fail
      go_ret
      exact ⟨by rw [HR.out.1]; rfl, by rw [HR.out.1]; exact HR.out.2, rfl⟩
end Go.Proofs.Ythdoginhbhdmbaa

namespace Go.Proofs.Ythdoginhbhdmbaa
open Go.RowKit Ch
set_option maxRecDepth 100000

def RI : KR := ⟨.i64, 3, 56, 8, Try.underlying56, by kernel_rfl, by decide⟩
/-- The digits from j on, the lowest first. -/
def digR (s : ByteArray) (j : Nat) : List Nat := ((s.data.toList.drop j).map UInt8.toNat).reverse
theorem digR_len (s : ByteArray) (j : Nat) : (digR s j).length = s.size - j := by simp [digR]
theorem digR_all (s : ByteArray) : digR s s.size = [] := by
  unfold digR
  rw [List.drop_of_length_le (by rw [len_eq]; exact Nat.le_refl _)]
  rfl
theorem digR_step (s : ByteArray) (k : Nat) (h : k < s.size) : digR s (k + 1) ++ [byte s k] = digR s k := by
  have hl : k < s.data.toList.length := by rw [len_eq]; exact h
  unfold digR
  rw [List.drop_eq_getElem_cons hl, List.map_cons, List.reverse_cons]
  congr 2
  rw [byte_list, List.getElem?_eq_getElem hl]
  rfl
set_option maxHeartbeats 2000000 in
theorem dOf_any (x : Option Addr) (cx : Nat) (s : ByteArray) (w : World) (hS : IsBytes w (.slice x s.size cx) s) (hs : s.size ≤ 1000000) :
    Calls Try.prog 31 #[.slice x s.size cx] w fun e w' => (∃ v, e = .returned v ∧ (∃ y c, v = .slice y (trimL (digR s 0)).length c) ∧ IsN .i64 w' v (trimL (digR s 0))) ∧ Below w.heap.size w w' := by
  have HS := show Hid (IsBytes w (.slice x s.size cx) s) from hS
  clear hS
  have w0 : IntKind.i64.wrap ((s.size : Int) - 1) = (s.size : Int) - 1 := by rw [IntKind.wrap_i64]; omega
  go_enter Try.func31, Try.ntmps31
  go_wp2_with fail
  go_loopw [3, 4] (fun v t wr => ∃ j : Nat, j ≤ s.size ∧ t = .int .i64 ((j : Int) - 1) ∧ wr.ownsRow w.heap.size 3 1 v (digR s j).length (kc .i64 (digR s j)) ∧ Below w.heap.size w wr) (fun _ t _ => (intOf t + 1).toNat)
  case atStart => exact ⟨s.size, Nat.le_refl _, rfl, by rw [digR_all]; exact own_nil _ _ _, Below.refl _ _⟩
  case round =>
    obtain ⟨j, hj, rfl, hown, hb⟩ := hrel
    rcases j with _ | k
    · have hge : ¬ (0 : Int) ≤ ((0 : Nat) : Int) - 1 := by omega
      obtain ⟨ya, ca, rfl⟩ := own_shape hown
      have hT := dTrim_any ya ca (digR s 0) _ (own_n hown) (by rw [digR_len]; omega)
      have HB := show Hid (Below w.heap.size w _) from hb
      clear hown hb
      go_wp2_with fail
      refine hT.mono ?_
      rintro e w2 ⟨rfl, hn, rfl⟩
      go_wp2_with fail
      go_ret
      exact ⟨⟨_, rfl, ⟨_, _, rfl⟩, hn⟩, HB.out⟩
    · have e1 : ((k + 1 : Nat) : Int) - 1 = (k : Int) := by omega
      rw [e1]
      have hge : (0 : Int) ≤ (k : Int) := by omega
      have hlt : (k : Int) < (s.size : Int) := by omega
      obtain ⟨b, o, rfl, hbl, gc⟩ := IsBytes.cellAt (HS.out.later hb) (i := k) (by omega)
      obtain ⟨m, hm⟩ : ∃ m, byte s k = m := ⟨_, rfl⟩
      have hm8 : m < 256 := by rw [← hm]; exact byte_lt s k
      have HA := show Hid (digR s (k + 1) ++ [m] = digR s k) from by unfold Hid; rw [← hm]; exact digR_step s k (by omega)
      rw [hm] at gc
      have hpl : (digR s (k + 1)).length ≤ 1000000 := by rw [digR_len]; omega
      have hbz := hb.size
      have wm : IntKind.i64.wrap (m : Int) = (m : Int) := by rw [IntKind.wrap_i64]; omega
      have wk : IntKind.i64.wrap ((k : Int) - 1) = (k : Int) - 1 := by rw [IntKind.wrap_i64]; omega
      clear hm e1
      go_wp2_with (at_builtin; go_must (refine wpList_append_n RI rfl _ _ rfl w.heap.size _ _ rfl hown _ rfl m rfl _ HA hpl hbz hb ?_; intro v2 w2 ho2 hb2))
      go_roundw
      case rel => exact ⟨k, by omega, rfl, ho2, hb2⟩
      case measure => simp [intOf]
end Go.Proofs.Ythdoginhbhdmbaa

namespace Go.Proofs.Ythdoginhbhdmbaa
open Go.RowKit Ch
set_option maxRecDepth 100000

def R8 : KR := ⟨.u8, 5, 24, 1, Try.underlying24, by kernel_rfl, by decide⟩
/-- A value is the bytes of the number N, without leading noughts. -/
def IsNum (w : World) (v : Value) (N : Nat) : Prop := ∃ (R : List UInt8) (y : Option Addr) (c : Nat), v = .slice y R.length c ∧ IsBytes w v ⟨R.toArray⟩ ∧ bareL R = R ∧ numB R = N
/-- A value is the digits of the number N, at most so many. -/
def IsD (n : Nat) (w : World) (v : Value) (N : Nat) : Prop := ∃ y c L, v = .slice y L.length c ∧ IsN .i64 w v L ∧ AllD L ∧ Tidy L ∧ numD L = N ∧ L.length ≤ n
theorem IsD.later {n : Nat} {w w' : World} {v : Value} {N : Nat} (h : IsD n w v N) (hb : Below w.heap.size w w') : IsD n w' v N := by
  obtain ⟨y, c, L, h1, h2, h3⟩ := h
  exact ⟨y, c, L, h1, h2.later hb, h3⟩
theorem IsD.more {n m : Nat} {w : World} {v : Value} {N : Nat} (h : IsD n w v N) (hm : n ≤ m) : IsD m w v N := by
  obtain ⟨y, c, L, h1, h2, h3, h4, h5, h6⟩ := h
  exact ⟨y, c, L, h1, h2, h3, h4, h5, Nat.le_trans h6 hm⟩
theorem trimL_le (L : List Nat) : (trimL L).length ≤ L.length := by
  unfold trimL
  rw [List.length_reverse]
  exact Nat.le_trans (List.dropWhile_sublist _).length_le (by simp)
theorem isD_trim {w : World} {y : Option Addr} {c n N : Nat} {L : List Nat} (hI : IsN .i64 w (.slice y (trimL L).length c) (trimL L)) (hA : AllD L) (hN : numD L = N) (hn : L.length ≤ n) : IsD n w (.slice y (trimL L).length c) N :=
  ⟨y, c, trimL L, rfl, hI, hA.trim, tidy_trim L, by rw [numD_trim _ L rfl, hN], Nat.le_trans (trimL_le L) hn⟩
theorem IsD.shape {n : Nat} {w : World} {v : Value} {N : Nat} (h : IsD n w v N) : ∃ y l c, v = .slice y l c ∧ (l = 0 ↔ N = 0) ∧ l ≤ n := by
  obtain ⟨y, c, L, h1, _, _, h4, h5, h6⟩ := h
  refine ⟨y, L.length, c, h1, ?_, h6⟩
  rw [← h5, tidy_nilD h4]
  exact List.length_eq_zero_iff
theorem IsD.lt {n : Nat} {w : World} {v : Value} {N : Nat} (h : IsD n w v N) : N < 256 ^ n := by
  obtain ⟨y, c, L, h1, h2, h3, h4, h5, h6⟩ := h
  rw [← h5]
  exact Nat.lt_of_lt_of_le (numD_lt h3) (Nat.pow_le_pow_right (by decide) h6)
theorem IsD.narrow {n k : Nat} {w : World} {v : Value} {N : Nat} (h : IsD n w v N) (hN : N < 256 ^ k) : IsD k w v N := by
  obtain ⟨y, c, L, h1, h2, h3, h4, h5, h6⟩ := h
  refine ⟨y, c, L, h1, h2, h3, h4, h5, ?_⟩
  by_cases h0 : L = []
  · subst h0
    exact Nat.zero_le _
  · have h7 := tidy_geD h4 h0
    rw [h5] at h7
    have h8 := (Nat.pow_lt_pow_iff_right (a := 256) (by decide)).1 (Nat.lt_of_le_of_lt h7 hN)
    omega
theorem numD_rev : ∀ l : List UInt8, numD (l.map UInt8.toNat).reverse = numB l
  | [] => rfl
  | a :: l => by
    rw [List.map_cons, List.reverse_cons, numD_snoc, numD_rev l, numB_cons, List.length_reverse, List.length_map, Nat.mul_comm, Nat.add_comm]
theorem allD_rev (l : List UInt8) : AllD (l.map UInt8.toNat).reverse := by
  intro x hx
  rw [List.mem_reverse, List.mem_map] at hx
  obtain ⟨c, _, rfl⟩ := hx
  exact c.toNat_lt
theorem digOf (x : Option Addr) (cx : Nat) (s : ByteArray) (w : World) (hS : IsBytes w (.slice x s.size cx) s) (hs : s.size ≤ 1000000) :
    Calls Try.prog 31 #[.slice x s.size cx] w fun e w' => (∃ v, e = .returned v ∧ IsD s.size w' v (numB s.data.toList)) ∧ Below w.heap.size w w' := by
  refine (dOf_any x cx s w hS hs).mono ?_
  rintro e w' ⟨⟨v, rfl, ⟨y, c, rfl⟩, hI⟩, hb⟩
  exact ⟨⟨_, rfl, isD_trim hI (by unfold digR; rw [List.drop_zero]; exact allD_rev _) (by unfold digR; rw [List.drop_zero]; exact numD_rev _) (by rw [digR_len]; exact Nat.le_refl _)⟩, hb⟩
/-- The bytes of digits. -/
def bytesD (L : List Nat) : List UInt8 := L.reverse.map UInt8.ofNat
theorem bytesD_nat {L : List Nat} (h : AllD L) : ((bytesD L).map UInt8.toNat).reverse = L := by
  unfold bytesD
  rw [List.map_map, ← List.map_reverse, List.reverse_reverse]
  conv => rhs; rw [← List.map_id L]
  apply List.map_congr_left
  intro x hx
  have := h x hx
  simp [Nat.mod_eq_of_lt this]
theorem numB_bytesD {L : List Nat} (h : AllD L) : numB (bytesD L) = numD L := by rw [← numD_rev, bytesD_nat h]
theorem bare_bytesD {L : List Nat} (h : AllD L) (ht : Tidy L) : bareL (bytesD L) = bytesD L := by
  rcases List.eq_nil_or_concat L with rfl | ⟨l, x, h1⟩
  · rfl
  · rw [List.concat_eq_append] at h1
    have hx := tidy_last ht h1
    have hx2 := h x (by rw [h1]; simp)
    have e : bytesD L = UInt8.ofNat x :: bytesD l := by rw [h1]; simp [bytesD]
    rw [e]
    unfold bareL
    rw [List.dropWhile_cons_of_neg]
    intro h2
    have h3 : UInt8.ofNat x = 0 := by simpa using h2
    have h4 : (UInt8.ofNat x).toNat = 0 := by rw [h3]; rfl
    simp at h4
    omega
theorem drop_rev {L : List Nat} {k x : Nat} (h : L[k]? = some x) : (L.drop (k + 1)).reverse ++ [x] = (L.drop k).reverse := by
  have hl := (List.getElem?_eq_some_iff.1 h).1
  rw [List.drop_eq_getElem_cons hl, List.reverse_cons]
  rw [List.getElem?_eq_getElem hl] at h
  rw [Option.some.inj h]
set_option maxHeartbeats 2000000 in
theorem dBytes_any (n : Nat) (v : Value) (N : Nat) (w : World) (hv : IsD n w v N) (hn : n ≤ 1000000) :
    Calls Try.prog 39 #[v] w fun e w' => (∃ x, e = .returned x ∧ IsNum w' x N) ∧ Below w.heap.size w w' := by
  obtain ⟨y, c, L, rfl, hI, hA, hT, hN, hl⟩ := hv
  obtain ⟨m, hm⟩ : ∃ m, L.length = m := ⟨_, rfl⟩
  have HS := show Hid (IsN .i64 w (.slice y m c) L ∧ AllD L ∧ Tidy L ∧ numD L = N ∧ L.length = m) from ⟨by rw [← hm]; exact hI, hA, hT, hN, hm⟩
  rw [hm] at hl ⊢
  clear hI hA hT hN hm
  have w0 : IntKind.i64.wrap ((m : Int) - 1) = (m : Int) - 1 := by rw [IntKind.wrap_i64]; omega
  go_enter Try.func39, Try.ntmps39
  go_wp2_with fail
  go_loopw [3, 4] (fun v t wr => ∃ j : Nat, j ≤ m ∧ t = .int .i64 ((j : Int) - 1) ∧ wr.ownsRow w.heap.size 5 1 v ((L.drop j).reverse).length (kc .u8 (L.drop j).reverse) ∧ Below w.heap.size w wr) (fun _ t _ => (intOf t + 1).toNat)
  case atStart => exact ⟨m, Nat.le_refl _, rfl, by rw [List.drop_of_length_le (by rw [HS.out.2.2.2.2]; exact Nat.le_refl _)]; exact own_nil _ _ _, Below.refl _ _⟩
  case round =>
    obtain ⟨j, hj, rfl, hown, hb⟩ := hrel
    rcases j with _ | k
    · have hge : ¬ (0 : Int) ≤ ((0 : Nat) : Int) - 1 := by omega
      obtain ⟨ya, ca, rfl⟩ := own_shape hown
      have HR := show Hid (IsNum _ (.slice ya L.length ca) N ∧ Below w.heap.size w _) from by
        refine ⟨?_, hb⟩
        obtain ⟨_, q2, q3, q4, q5⟩ := HS.out
        have e2 : (bytesD L).length = L.length := by simp [bytesD]
        have e1 : kc .u8 (L.drop 0).reverse = byteVals ⟨(bytesD L).toArray⟩ := by
          rw [List.drop_zero]
          unfold kc byteVals bytesD
          rw [List.map_map]
          apply List.map_congr_left
          intro x hx
          have := q2 x (List.mem_reverse.1 hx)
          simp [Nat.mod_eq_of_lt this]
        have e5 : ((L.drop 0).reverse).length = L.length := by simp
        have e4 : (⟨(bytesD L).toArray⟩ : ByteArray).size = L.length := by rw [size_of_list, e2]
        rw [e1, e5] at hown
        refine ⟨bytesD L, ya, ca, by rw [e2], own_bytes (by rw [e4]; exact hown), bare_bytesD q2 q3, by rw [numB_bytesD q2, q4]⟩
      clear hown hb
      go_wp2_with fail
      go_ret
      exact ⟨⟨_, rfl, HR.out.1⟩, HR.out.2⟩
    · have e1 : ((k + 1 : Nat) : Int) - 1 = (k : Int) := by omega
      rw [e1]
      have hge : (0 : Int) ≤ (k : Int) := by omega
      have hlt : (k : Int) < (m : Int) := by omega
      have hdg : L[k]? = some (atN L k) := atN_some (by have := HS.out.2.2.2.2; omega)
      obtain ⟨q, hq⟩ : ∃ q, atN L k = q := ⟨_, rfl⟩
      rw [hq] at hdg
      have hq8 : q < 256 := HS.out.2.1.at hdg
      obtain ⟨x1, b, o, rfl, hbl, gc⟩ := IsN.cellAt (HS.out.1.later hb) hdg
      clear x1 hq
      have HA := show Hid ((L.drop (k + 1)).reverse ++ [q] = (L.drop k).reverse) from drop_rev hdg
      have hpl : ((L.drop (k + 1)).reverse).length ≤ 1000000 := by simp; have := HS.out.2.2.2.2; omega
      have hbz := hb.size
      have wq : IntKind.u8.wrap (q : Int) = (q : Int) := wraps_u8 _ (by omega) (by show (q : Int) < 256; omega)
      have wk : IntKind.i64.wrap ((k : Int) - 1) = (k : Int) - 1 := by rw [IntKind.wrap_i64]; omega
      clear hdg e1
      go_wp2_with (at_builtin; go_must (refine wpList_append_n R8 rfl _ _ rfl w.heap.size _ _ rfl hown _ rfl q rfl _ HA hpl hbz hb ?_; intro v2 w2 ho2 hb2))
      go_roundw
      case rel => exact ⟨k, by omega, rfl, ho2, hb2⟩
      case measure => simp [intOf]
end Go.Proofs.Ythdoginhbhdmbaa
