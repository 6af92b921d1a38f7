/-
  The document's side of layer 6: trim and at.
  The document's digits of bytes.
  The document's numbers: digits of eight bits; Of and Bytes.
-/
import Derived.Test.YtpcmpeeflnlkpaaDoorUTwoEtc
import Derived.Test.YtpcmpeeflnlkpaaDoorHFreeZEtc
import Derived.Test.YtpcmpeeflnlkpaaDoorNFromEtc
namespace Go.Proofs.YtpcmpeeflnlkpaaDoor
open Go.RowKit Ch
set_option maxRecDepth 100000

set_option maxHeartbeats 2000000 in
theorem dTrim_any (y : Option Addr) (c : Nat) (L : List Nat) (w : World) (hS : IsN .i64 w (.slice y L.length c) L) (hs : L.length ≤ 1000000) :
    Calls Tryd.prog 28 #[.slice y L.length c] w fun e w' => e = .returned (.slice y (trimL L).length c) ∧ IsN .i64 w (.slice y (trimL L).length c) (trimL L) ∧ w' = w := by
  have HS := show Hid (IsN .i64 w (.slice y L.length c) L) from hS
  have hcL : L.length ≤ c := by
    obtain ⟨_, _, e1, e2, _⟩ := hS
    simp only [Value.slice.injEq] at e1
    omega
  obtain ⟨n, hn⟩ : ∃ n, L.length = n := ⟨_, rfl⟩
  have HN := show Hid (L.length = n) from hn
  rw [hn] at hs hcL ⊢
  clear hS hn
  go_enter Tryd.func28, Tryd.ntmps28
  go_wp2_with fail
  go_loopw [0] (fun u wr => ∃ m : Nat, u = .slice y m c ∧ m ≤ n ∧ Hid (trimL (L.take m) = trimL L) ∧ wr = w) (fun u _ => lenOf u)
  case atStart => exact ⟨n, rfl, Nat.le_refl _, by unfold Hid; rw [List.take_of_length_le (by rw [HN.out]; exact Nat.le_refl _)], rfl⟩
  case round =>
    obtain ⟨m, rfl, hmn, hT, rfl⟩ := hrel
    by_cases h0 : 0 < m
    · have h02 : (0 : Int) < (m : Int) := by omega
      obtain ⟨m1, hm1⟩ : ∃ m1, m - 1 = m1 := ⟨_, rfl⟩
      have e1 : (m : Int) - 1 = (m1 : Int) := by omega
      have wi : IntKind.i64.wrap (m1 : Int) = (m1 : Int) := by rw [IntKind.wrap_i64]; omega
      have hlt : (m1 : Int) < (m : Int) := by omega
      have hm1c : (m1 : Int) ≤ (c : Int) := by omega
      have hm1c2 : m1 ≤ c := by omega
      have hdg : L[m1]? = some (atN L m1) := atN_some (by have := HN.out; omega)
      obtain ⟨d, hd⟩ : ∃ d, atN L m1 = d := ⟨_, rfl⟩
      rw [hd] at hdg
      have htk : L.take m = L.take m1 ++ [d] := by
        rw [show m = m1 + 1 by omega, List.take_add_one, hdg]
        rfl
      obtain ⟨x1, b, o, rfl, hbl, gc⟩ := IsN.cellAt HS.out hdg
      clear x1
      have HT2 := show Hid (trimL (L.take m1 ++ [d]) = trimL L) from by unfold Hid; rw [← htk]; exact hT.out
      have HTK := show Hid (L.take m = L.take m1 ++ [d]) from htk
      clear hT htk hdg hd
      by_cases hd0 : d = 0
      · subst hd0
        have HT3 := show Hid (trimL (L.take m1) = trimL L) from by unfold Hid; rw [← HT2.out, trimL_zero]
        clear HT2 HTK
        go_wp2_with fail
        go_roundw
        case rel => exact ⟨m1, rfl, by omega, HT3.out, trivial⟩
        case measure => simp [lenOf]; omega
      · have hdz : ((d : Int) == 0) = false := by simp; omega
        have hbd : trimL L = L.take m := by rw [← HT2.out, trimL_stop hd0, HTK.out]
        have hlm : (L.take m).length = m := by rw [List.length_take, HN.out]; omega
        have HR := show Hid ((trimL L).length = m ∧ IsN .i64 wr (.slice (some ⟨b, o, none⟩) m c) (trimL L)) from ⟨by rw [hbd, hlm], by rw [hbd]; exact HS.out.take (by rw [HN.out]; exact hmn)⟩
        clear hbd hlm HT2 HTK
        go_wp2_with fail
        go_ret
        exact ⟨by rw [HR.out.1]; rfl, by rw [HR.out.1]; exact HR.out.2, rfl⟩
    · have h02 : ¬ (0 : Int) < (m : Int) := by omega
      obtain rfl : m = 0 := by omega
      have hbd : trimL L = L.take 0 := by rw [← hT.out, List.take_zero]; rfl
      have HR := show Hid ((trimL L).length = 0 ∧ IsN .i64 wr (.slice y 0 c) (trimL L)) from ⟨by rw [hbd]; rfl, by rw [hbd]; exact HS.out.take (Nat.zero_le _)⟩
      clear hbd hT
      go_wp2_with fail
      go_ret
      exact ⟨by rw [HR.out.1]; rfl, by rw [HR.out.1]; exact HR.out.2, rfl⟩
set_option maxHeartbeats 1000000 in
theorem dAt_any (y : Option Addr) (n c : Nat) (L : List Nat) (i : Nat) (w : World) (hS : IsN .i64 w (.slice y n c) L) (hn : L.length = n) :
    Calls Tryd.prog 29 #[.slice y n c, .int .i64 (i : Int)] w fun e w' => e = .returned (.int .i64 ((L.getD i 0 : Nat) : Int)) ∧ w' = w := by
  by_cases h : i < n
  · have h1 : (i : Int) < (n : Int) := by omega
    have hdg : L[i]? = some (atN L i) := atN_some (by omega)
    have HG := show Hid (L.getD i 0 = atN L i) from by unfold Hid; rw [List.getD_eq_getElem?_getD, hdg]; rfl
    obtain ⟨x1, b, o, rfl, hbl, gc⟩ := IsN.cellAt hS hdg
    clear x1 hS hdg hn
    go_enter Tryd.func29, Tryd.ntmps29
    go_wp2_with fail
    go_ret
    exact ⟨by rw [HG.out]; rfl, rfl⟩
  · have h1 : ¬ (i : Int) < (n : Int) := by omega
    have HG := show Hid (L[i]?.getD 0 = 0) from by unfold Hid; rw [List.getElem?_eq_none (by omega)]; rfl
    clear hS hn
    go_enter Tryd.func29, Tryd.ntmps29
    go_wp2_with fail
    go_ret
    exact ⟨by rw [HG.out]; rfl, rfl⟩
end Go.Proofs.YtpcmpeeflnlkpaaDoor

namespace Go.Proofs.YtpcmpeeflnlkpaaDoor
open Go.RowKit Ch
set_option maxRecDepth 100000

def RI : KR := ⟨.i64, 3, 29, 8, Tryd.underlying29, by kernel_rfl, by decide⟩
/-- The digits from j on, the lowest first. -/
def digR (s : ByteArray) (j : Nat) : List Nat := ((s.data.toList.drop j).map UInt8.toNat).reverse
theorem digR_len (s : ByteArray) (j : Nat) : (digR s j).length = s.size - j := by simp [digR]
theorem digR_all (s : ByteArray) : digR s s.size = [] := by
  unfold digR
  rw [List.drop_of_length_le (by rw [len_eq]; exact Nat.le_refl _)]
  rfl
theorem digR_step (s : ByteArray) (k : Nat) (h : k < s.size) : digR s (k + 1) ++ [byte s k] = digR s k := by
  have hl : k < s.data.toList.length := by rw [len_eq]; exact h
  unfold digR
  rw [List.drop_eq_getElem_cons hl, List.map_cons, List.reverse_cons]
  congr 2
  rw [byte_list, List.getElem?_eq_getElem hl]
  rfl
set_option maxHeartbeats 2000000 in
theorem dOf_any (x : Option Addr) (cx : Nat) (s : ByteArray) (w : World) (hS : IsBytes w (.slice x s.size cx) s) (hs : s.size ≤ 1000000) :
    Calls Tryd.prog 6 #[.slice x s.size cx] w fun e w' => (∃ v, e = .returned v ∧ (∃ y c, v = .slice y (trimL (digR s 0)).length c) ∧ IsN .i64 w' v (trimL (digR s 0))) ∧ Below w.heap.size w w' := by
  have HS := show Hid (IsBytes w (.slice x s.size cx) s) from hS
  clear hS
  have w0 : IntKind.i64.wrap ((s.size : Int) - 1) = (s.size : Int) - 1 := by rw [IntKind.wrap_i64]; omega
  go_enter Tryd.func6, Tryd.ntmps6
  go_wp2_with fail
  go_loopw [3, 4] (fun v t wr => ∃ j : Nat, j ≤ s.size ∧ t = .int .i64 ((j : Int) - 1) ∧ wr.ownsRow w.heap.size 3 1 v (digR s j).length (kc .i64 (digR s j)) ∧ Below w.heap.size w wr) (fun _ t _ => (intOf t + 1).toNat)
  case atStart => exact ⟨s.size, Nat.le_refl _, rfl, by rw [digR_all]; exact own_nil _ _ _, Below.refl _ _⟩
  case round =>
    obtain ⟨j, hj, rfl, hown, hb⟩ := hrel
    rcases j with _ | k
    · have hge : ¬ (0 : Int) ≤ ((0 : Nat) : Int) - 1 := by omega
      obtain ⟨ya, ca, rfl⟩ := own_shape hown
      have hT := dTrim_any ya ca (digR s 0) _ (own_n hown) (by rw [digR_len]; omega)
      have HB := show Hid (Below w.heap.size w _) from hb
      clear hown hb
      go_wp2_with fail
      refine hT.mono ?_
      rintro e w2 ⟨rfl, hn, rfl⟩
      go_wp2_with fail
      go_ret
      exact ⟨⟨_, rfl, ⟨_, _, rfl⟩, hn⟩, HB.out⟩
    · have e1 : ((k + 1 : Nat) : Int) - 1 = (k : Int) := by omega
      rw [e1]
      have hge : (0 : Int) ≤ (k : Int) := by omega
      have hlt : (k : Int) < (s.size : Int) := by omega
      obtain ⟨b, o, rfl, hbl, gc⟩ := IsBytes.cellAt (HS.out.later hb) (i := k) (by omega)
      obtain ⟨m, hm⟩ : ∃ m, byte s k = m := ⟨_, rfl⟩
      have hm8 : m < 256 := by rw [← hm]; exact byte_lt s k
      have HA := show Hid (digR s (k + 1) ++ [m] = digR s k) from by unfold Hid; rw [← hm]; exact digR_step s k (by omega)
      rw [hm] at gc
      have hpl : (digR s (k + 1)).length ≤ 1000000 := by rw [digR_len]; omega
      have hbz := hb.size
      have wm : IntKind.i64.wrap (m : Int) = (m : Int) := by rw [IntKind.wrap_i64]; omega
      have wk : IntKind.i64.wrap ((k : Int) - 1) = (k : Int) - 1 := by rw [IntKind.wrap_i64]; omega
      clear hm e1
      go_wp2_with (at_builtin; go_must (refine wpList_append_n RI rfl _ _ rfl w.heap.size _ _ rfl hown _ rfl m rfl _ HA hpl hbz hb ?_; intro v2 w2 ho2 hb2))
      go_roundw
      case rel => exact ⟨k, by omega, rfl, ho2, hb2⟩
      case measure => simp [intOf]
end Go.Proofs.YtpcmpeeflnlkpaaDoor

namespace Go.Proofs.YtpcmpeeflnlkpaaDoor
open Go.RowKit Ch
set_option maxRecDepth 100000

/-- A value is the digits of the number N, at most so many. -/
def IsD (n : Nat) (w : World) (v : Value) (N : Nat) : Prop := ∃ y c L, v = .slice y L.length c ∧ IsN .i64 w v L ∧ AllD L ∧ Tidy L ∧ numD L = N ∧ L.length ≤ n
theorem IsD.later {n : Nat} {w w' : World} {v : Value} {N : Nat} (h : IsD n w v N) (hb : Below w.heap.size w w') : IsD n w' v N := by
  obtain ⟨y, c, L, h1, h2, h3⟩ := h
  exact ⟨y, c, L, h1, h2.later hb, h3⟩
theorem IsD.more {n m : Nat} {w : World} {v : Value} {N : Nat} (h : IsD n w v N) (hm : n ≤ m) : IsD m w v N := by
  obtain ⟨y, c, L, h1, h2, h3, h4, h5, h6⟩ := h
  exact ⟨y, c, L, h1, h2, h3, h4, h5, Nat.le_trans h6 hm⟩
theorem trimL_le (L : List Nat) : (trimL L).length ≤ L.length := by
  unfold trimL
  rw [List.length_reverse]
  exact Nat.le_trans (List.dropWhile_sublist _).length_le (by simp)
theorem isD_trim {w : World} {y : Option Addr} {c n N : Nat} {L : List Nat} (hI : IsN .i64 w (.slice y (trimL L).length c) (trimL L)) (hA : AllD L) (hN : numD L = N) (hn : L.length ≤ n) : IsD n w (.slice y (trimL L).length c) N :=
  ⟨y, c, trimL L, rfl, hI, hA.trim, tidy_trim L, by rw [numD_trim _ L rfl, hN], Nat.le_trans (trimL_le L) hn⟩
theorem IsD.shape {n : Nat} {w : World} {v : Value} {N : Nat} (h : IsD n w v N) : ∃ y l c, v = .slice y l c ∧ (l = 0 ↔ N = 0) ∧ l ≤ n := by
  obtain ⟨y, c, L, h1, _, _, h4, h5, h6⟩ := h
  refine ⟨y, L.length, c, h1, ?_, h6⟩
  rw [← h5, tidy_nilD h4]
  exact List.length_eq_zero_iff
theorem IsD.lt {n : Nat} {w : World} {v : Value} {N : Nat} (h : IsD n w v N) : N < 256 ^ n := by
  obtain ⟨y, c, L, h1, h2, h3, h4, h5, h6⟩ := h
  rw [← h5]
  exact Nat.lt_of_lt_of_le (numD_lt h3) (Nat.pow_le_pow_right (by decide) h6)
theorem IsD.narrow {n k : Nat} {w : World} {v : Value} {N : Nat} (h : IsD n w v N) (hN : N < 256 ^ k) : IsD k w v N := by
  obtain ⟨y, c, L, h1, h2, h3, h4, h5, h6⟩ := h
  refine ⟨y, c, L, h1, h2, h3, h4, h5, ?_⟩
  by_cases h0 : L = []
  · subst h0
    exact Nat.zero_le _
  · have h7 := tidy_geD h4 h0
    rw [h5] at h7
    have h8 := (Nat.pow_lt_pow_iff_right (a := 256) (by decide)).1 (Nat.lt_of_le_of_lt h7 hN)
    omega
theorem numD_rev : ∀ l : List UInt8, numD (l.map UInt8.toNat).reverse = numB l
  | [] => rfl
  | a :: l => by
    rw [List.map_cons, List.reverse_cons, numD_snoc, numD_rev l, numB_cons, List.length_reverse, List.length_map, Nat.mul_comm, Nat.add_comm]
theorem allD_rev (l : List UInt8) : AllD (l.map UInt8.toNat).reverse := by
  intro x hx
  rw [List.mem_reverse, List.mem_map] at hx
  obtain ⟨c, _, rfl⟩ := hx
  exact c.toNat_lt
theorem digOf (x : Option Addr) (cx : Nat) (s : ByteArray) (w : World) (hS : IsBytes w (.slice x s.size cx) s) (hs : s.size ≤ 1000000) :
    Calls Tryd.prog 6 #[.slice x s.size cx] w fun e w' => (∃ v, e = .returned v ∧ IsD s.size w' v (numB s.data.toList)) ∧ Below w.heap.size w w' := by
  refine (dOf_any x cx s w hS hs).mono ?_
  rintro e w' ⟨⟨v, rfl, ⟨y, c, rfl⟩, hI⟩, hb⟩
  exact ⟨⟨_, rfl, isD_trim hI (by unfold digR; rw [List.drop_zero]; exact allD_rev _) (by unfold digR; rw [List.drop_zero]; exact numD_rev _) (by rw [digR_len]; exact Nat.le_refl _)⟩, hb⟩
/-- The bytes of digits. -/
def bytesD (L : List Nat) : List UInt8 := L.reverse.map UInt8.ofNat
theorem bytesD_nat {L : List Nat} (h : AllD L) : ((bytesD L).map UInt8.toNat).reverse = L := by
  unfold bytesD
  rw [List.map_map, ← List.map_reverse, List.reverse_reverse]
  conv => rhs; rw [← List.map_id L]
  apply List.map_congr_left
  intro x hx
  have := h x hx
  simp [Nat.mod_eq_of_lt this]
theorem numB_bytesD {L : List Nat} (h : AllD L) : numB (bytesD L) = numD L := by rw [← numD_rev, bytesD_nat h]
theorem bare_bytesD {L : List Nat} (h : AllD L) (ht : Tidy L) : bareL (bytesD L) = bytesD L := by
  rcases List.eq_nil_or_concat L with rfl | ⟨l, x, h1⟩
  · rfl
  · rw [List.concat_eq_append] at h1
    have hx := tidy_last ht h1
    have hx2 := h x (by rw [h1]; simp)
    have e : bytesD L = UInt8.ofNat x :: bytesD l := by rw [h1]; simp [bytesD]
    rw [e]
    unfold bareL
    rw [List.dropWhile_cons_of_neg]
    intro h2
    have h3 : UInt8.ofNat x = 0 := by simpa using h2
    have h4 : (UInt8.ofNat x).toNat = 0 := by rw [h3]; rfl
    simp at h4
    omega
theorem drop_rev {L : List Nat} {k x : Nat} (h : L[k]? = some x) : (L.drop (k + 1)).reverse ++ [x] = (L.drop k).reverse := by
  have hl := (List.getElem?_eq_some_iff.1 h).1
  rw [List.drop_eq_getElem_cons hl, List.reverse_cons]
  rw [List.getElem?_eq_getElem hl] at h
  rw [Option.some.inj h]
set_option maxHeartbeats 2000000 in
theorem dBytes_any (n : Nat) (v : Value) (N : Nat) (w : World) (hv : IsD n w v N) (hn : n ≤ 1000000) :
    Calls Tryd.prog 73 #[v] w fun e w' => (∃ x, e = .returned x ∧ IsNum w' x N) ∧ Below w.heap.size w w' := by
  obtain ⟨y, c, L, rfl, hI, hA, hT, hN, hl⟩ := hv
  obtain ⟨m, hm⟩ : ∃ m, L.length = m := ⟨_, rfl⟩
  have HS := show Hid (IsN .i64 w (.slice y m c) L ∧ AllD L ∧ Tidy L ∧ numD L = N ∧ L.length = m) from ⟨by rw [← hm]; exact hI, hA, hT, hN, hm⟩
  rw [hm] at hl ⊢
  clear hI hA hT hN hm
  have w0 : IntKind.i64.wrap ((m : Int) - 1) = (m : Int) - 1 := by rw [IntKind.wrap_i64]; omega
  go_enter Tryd.func73, Tryd.ntmps73
  go_wp2_with fail
  go_loopw [3, 4] (fun v t wr => ∃ j : Nat, j ≤ m ∧ t = .int .i64 ((j : Int) - 1) ∧ wr.ownsRow w.heap.size 5 1 v ((L.drop j).reverse).length (kc .u8 (L.drop j).reverse) ∧ Below w.heap.size w wr) (fun _ t _ => (intOf t + 1).toNat)
  case atStart => exact ⟨m, Nat.le_refl _, rfl, by rw [List.drop_of_length_le (by rw [HS.out.2.2.2.2]; exact Nat.le_refl _)]; exact own_nil _ _ _, Below.refl _ _⟩
  case round =>
    obtain ⟨j, hj, rfl, hown, hb⟩ := hrel
    rcases j with _ | k
    · have hge : ¬ (0 : Int) ≤ ((0 : Nat) : Int) - 1 := by omega
      obtain ⟨ya, ca, rfl⟩ := own_shape hown
      have HR := show Hid (IsNum _ (.slice ya L.length ca) N ∧ Below w.heap.size w _) from by
        refine ⟨?_, hb⟩
        obtain ⟨_, q2, q3, q4, q5⟩ := HS.out
        have e2 : (bytesD L).length = L.length := by simp [bytesD]
        have e1 : kc .u8 (L.drop 0).reverse = byteVals ⟨(bytesD L).toArray⟩ := by
          rw [List.drop_zero]
          unfold kc byteVals bytesD
          rw [List.map_map]
          apply List.map_congr_left
          intro x hx
          have := q2 x (List.mem_reverse.1 hx)
          simp [Nat.mod_eq_of_lt this]
        have e5 : ((L.drop 0).reverse).length = L.length := by simp
        have e4 : (⟨(bytesD L).toArray⟩ : ByteArray).size = L.length := by rw [size_of_list, e2]
        rw [e1, e5] at hown
        refine ⟨bytesD L, ya, ca, by rw [e2], own_bytes (by rw [e4]; exact hown), bare_bytesD q2 q3, by rw [numB_bytesD q2, q4]⟩
      clear hown hb
      go_wp2_with fail
      go_ret
      exact ⟨⟨_, rfl, HR.out.1⟩, HR.out.2⟩
    · have e1 : ((k + 1 : Nat) : Int) - 1 = (k : Int) := by omega
      rw [e1]
      have hge : (0 : Int) ≤ (k : Int) := by omega
      have hlt : (k : Int) < (m : Int) := by omega
      have hdg : L[k]? = some (atN L k) := atN_some (by have := HS.out.2.2.2.2; omega)
      obtain ⟨q, hq⟩ : ∃ q, atN L k = q := ⟨_, rfl⟩
      rw [hq] at hdg
      have hq8 : q < 256 := HS.out.2.1.at hdg
      obtain ⟨x1, b, o, rfl, hbl, gc⟩ := IsN.cellAt (HS.out.1.later hb) hdg
      clear x1 hq
      have HA := show Hid ((L.drop (k + 1)).reverse ++ [q] = (L.drop k).reverse) from drop_rev hdg
      have hpl : ((L.drop (k + 1)).reverse).length ≤ 1000000 := by simp; have := HS.out.2.2.2.2; omega
      have hbz := hb.size
      have wq : IntKind.u8.wrap (q : Int) = (q : Int) := wraps_u8 _ (by omega) (by show (q : Int) < 256; omega)
      have wk : IntKind.i64.wrap ((k : Int) - 1) = (k : Int) - 1 := by rw [IntKind.wrap_i64]; omega
      clear hdg e1
      go_wp2_with (at_builtin; go_must (refine wpList_append_n R8 rfl _ _ rfl w.heap.size _ _ rfl hown _ rfl q rfl _ HA hpl hbz hb ?_; intro v2 w2 ho2 hb2))
      go_roundw
      case rel => exact ⟨k, by omega, rfl, ho2, hb2⟩
      case measure => simp [intOf]
end Go.Proofs.YtpcmpeeflnlkpaaDoor
