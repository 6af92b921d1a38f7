/-
  The document's numbers: digits of eight bits; Of and Bytes.
-/
import Derived.Test.YthfgbcpppamboaaNOf
import Derived.Test.YthfgbcpppamboaaNRow
import Derived.Test.YthfgbcpppamboaaNTo
namespace Go.Proofs.Ythfgbcpppamboaa
open Go.RowKit Ch
set_option maxRecDepth 100000

/-- A value is the digits of the number N, at most so many. -/
def IsD (n : Nat) (w : World) (v : Value) (N : Nat) : Prop := ∃ y c L, v = .slice y L.length c ∧ IsN .i64 w v L ∧ AllD L ∧ Tidy L ∧ numD L = N ∧ L.length ≤ n
theorem IsD.later {n : Nat} {w w' : World} {v : Value} {N : Nat} (h : IsD n w v N) (hb : Below w.heap.size w w') : IsD n w' v N := by
  obtain ⟨y, c, L, h1, h2, h3⟩ := h
  exact ⟨y, c, L, h1, h2.later hb, h3⟩
theorem IsD.more {n m : Nat} {w : World} {v : Value} {N : Nat} (h : IsD n w v N) (hm : n ≤ m) : IsD m w v N := by
  obtain ⟨y, c, L, h1, h2, h3, h4, h5, h6⟩ := h
  exact ⟨y, c, L, h1, h2, h3, h4, h5, Nat.le_trans h6 hm⟩
theorem trimL_le (L : List Nat) : (trimL L).length ≤ L.length := by
  unfold trimL
  rw [List.length_reverse]
  exact Nat.le_trans (List.dropWhile_sublist _).length_le (by simp)
theorem isD_trim {w : World} {y : Option Addr} {c n N : Nat} {L : List Nat} (hI : IsN .i64 w (.slice y (trimL L).length c) (trimL L)) (hA : AllD L) (hN : numD L = N) (hn : L.length ≤ n) : IsD n w (.slice y (trimL L).length c) N :=
  ⟨y, c, trimL L, rfl, hI, hA.trim, tidy_trim L, by rw [numD_trim _ L rfl, hN], Nat.le_trans (trimL_le L) hn⟩
theorem IsD.shape {n : Nat} {w : World} {v : Value} {N : Nat} (h : IsD n w v N) : ∃ y l c, v = .slice y l c ∧ (l = 0 ↔ N = 0) ∧ l ≤ n := by
  obtain ⟨y, c, L, h1, _, _, h4, h5, h6⟩ := h
  refine ⟨y, L.length, c, h1, ?_, h6⟩
  rw [← h5, tidy_nilD h4]
  exact List.length_eq_zero_iff
theorem IsD.lt {n : Nat} {w : World} {v : Value} {N : Nat} (h : IsD n w v N) : N < 256 ^ n := by
  obtain ⟨y, c, L, h1, h2, h3, h4, h5, h6⟩ := h
  rw [← h5]
  exact Nat.lt_of_lt_of_le (numD_lt h3) (Nat.pow_le_pow_right (by decide) h6)
theorem IsD.narrow {n k : Nat} {w : World} {v : Value} {N : Nat} (h : IsD n w v N) (hN : N < 256 ^ k) : IsD k w v N := by
  obtain ⟨y, c, L, h1, h2, h3, h4, h5, h6⟩ := h
  refine ⟨y, c, L, h1, h2, h3, h4, h5, ?_⟩
  by_cases h0 : L = []
  · subst h0
    exact Nat.zero_le _
  · have h7 := tidy_geD h4 h0
    rw [h5] at h7
    have h8 := (Nat.pow_lt_pow_iff_right (a := 256) (by decide)).1 (Nat.lt_of_le_of_lt h7 hN)
    omega
theorem numD_rev : ∀ l : List UInt8, numD (l.map UInt8.toNat).reverse = numB l
  | [] => rfl
  | a :: l => by
    rw [List.map_cons, List.reverse_cons, numD_snoc, numD_rev l, numB_cons, List.length_reverse, List.length_map, Nat.mul_comm, Nat.add_comm]
theorem allD_rev (l : List UInt8) : AllD (l.map UInt8.toNat).reverse := by
  intro x hx
  rw [List.mem_reverse, List.mem_map] at hx
  obtain ⟨c, _, rfl⟩ := hx
  exact c.toNat_lt
theorem digOf (x : Option Addr) (cx : Nat) (s : ByteArray) (w : World) (hS : IsBytes w (.slice x s.size cx) s) (hs : s.size ≤ 1000000) :
    Calls Try.prog 12 #[.slice x s.size cx] w fun e w' => (∃ v, e = .returned v ∧ IsD s.size w' v (numB s.data.toList)) ∧ Below w.heap.size w w' := by
  refine (dOf_any x cx s w hS hs).mono ?_
  rintro e w' ⟨⟨v, rfl, ⟨y, c, rfl⟩, hI⟩, hb⟩
  exact ⟨⟨_, rfl, isD_trim hI (by unfold digR; rw [List.drop_zero]; exact allD_rev _) (by unfold digR; rw [List.drop_zero]; exact numD_rev _) (by rw [digR_len]; exact Nat.le_refl _)⟩, hb⟩
/-- The bytes of digits. -/
def bytesD (L : List Nat) : List UInt8 := L.reverse.map UInt8.ofNat
theorem bytesD_nat {L : List Nat} (h : AllD L) : ((bytesD L).map UInt8.toNat).reverse = L := by
  unfold bytesD
  rw [List.map_map, ← List.map_reverse, List.reverse_reverse]
  conv => rhs; rw [← List.map_id L]
  apply List.map_congr_left
  intro x hx
  have := h x hx
  simp [Nat.mod_eq_of_lt this]
theorem numB_bytesD {L : List Nat} (h : AllD L) : numB (bytesD L) = numD L := by rw [← numD_rev, bytesD_nat h]
theorem bare_bytesD {L : List Nat} (h : AllD L) (ht : Tidy L) : bareL (bytesD L) = bytesD L := by
  rcases List.eq_nil_or_concat L with rfl | ⟨l, x, h1⟩
  · rfl
  · rw [List.concat_eq_append] at h1
    have hx := tidy_last ht h1
    have hx2 := h x (by rw [h1]; simp)
    have e : bytesD L = UInt8.ofNat x :: bytesD l := by rw [h1]; simp [bytesD]
    rw [e]
    unfold bareL
    rw [List.dropWhile_cons_of_neg]
    intro h2
    have h3 : UInt8.ofNat x = 0 := by simpa using h2
    have h4 : (UInt8.ofNat x).toNat = 0 := by rw [h3]; rfl
    simp at h4
    omega
theorem drop_rev {L : List Nat} {k x : Nat} (h : L[k]? = some x) : (L.drop (k + 1)).reverse ++ [x] = (L.drop k).reverse := by
  have hl := (List.getElem?_eq_some_iff.1 h).1
  rw [List.drop_eq_getElem_cons hl, List.reverse_cons]
  rw [List.getElem?_eq_getElem hl] at h
  rw [Option.some.inj h]
set_option maxHeartbeats 2000000 in
theorem dBytes_any (n : Nat) (v : Value) (N : Nat) (w : World) (hv : IsD n w v N) (hn : n ≤ 1000000) :
    Calls Try.prog 37 #[v] w fun e w' => (∃ x, e = .returned x ∧ IsNum w' x N) ∧ Below w.heap.size w w' := by
  obtain ⟨y, c, L, rfl, hI, hA, hT, hN, hl⟩ := hv
  obtain ⟨m, hm⟩ : ∃ m, L.length = m := ⟨_, rfl⟩
  have HS := show Hid (IsN .i64 w (.slice y m c) L ∧ AllD L ∧ Tidy L ∧ numD L = N ∧ L.length = m) from ⟨by rw [← hm]; exact hI, hA, hT, hN, hm⟩
  rw [hm] at hl ⊢
  clear hI hA hT hN hm
  have w0 : IntKind.i64.wrap ((m : Int) - 1) = (m : Int) - 1 := by rw [IntKind.wrap_i64]; omega
  go_enter Try.func37, Try.ntmps37
  go_wp2_with fail
  go_loopw [3, 4] (fun v t wr => ∃ j : Nat, j ≤ m ∧ t = .int .i64 ((j : Int) - 1) ∧ wr.ownsRow w.heap.size 5 1 v ((L.drop j).reverse).length (kc .u8 (L.drop j).reverse) ∧ Below w.heap.size w wr) (fun _ t _ => (intOf t + 1).toNat)
  case atStart => exact ⟨m, Nat.le_refl _, rfl, by rw [List.drop_of_length_le (by rw [HS.out.2.2.2.2]; exact Nat.le_refl _)]; exact own_nil _ _ _, Below.refl _ _⟩
  case round =>
    obtain ⟨j, hj, rfl, hown, hb⟩ := hrel
    rcases j with _ | k
    · have hge : ¬ (0 : Int) ≤ ((0 : Nat) : Int) - 1 := by omega
      obtain ⟨ya, ca, rfl⟩ := own_shape hown
      have HR := show Hid (IsNum _ (.slice ya L.length ca) N ∧ Below w.heap.size w _) from by
        refine ⟨?_, hb⟩
        obtain ⟨_, q2, q3, q4, q5⟩ := HS.out
        have e2 : (bytesD L).length = L.length := by simp [bytesD]
        have e1 : kc .u8 (L.drop 0).reverse = byteVals ⟨(bytesD L).toArray⟩ := by
          rw [List.drop_zero]
          unfold kc byteVals bytesD
          rw [List.map_map]
          apply List.map_congr_left
          intro x hx
          have := q2 x (List.mem_reverse.1 hx)
          simp [Nat.mod_eq_of_lt this]
        have e5 : ((L.drop 0).reverse).length = L.length := by simp
        have e4 : (⟨(bytesD L).toArray⟩ : ByteArray).size = L.length := by rw [size_of_list, e2]
        rw [e1, e5] at hown
        refine ⟨bytesD L, ya, ca, by rw [e2], own_bytes (by rw [e4]; exact hown), bare_bytesD q2 q3, by rw [numB_bytesD q2, q4]⟩
      clear hown hb
      go_wp2_with fail
      go_ret
      exact ⟨⟨_, rfl, HR.out.1⟩, HR.out.2⟩
    · have e1 : ((k + 1 : Nat) : Int) - 1 = (k : Int) := by omega
      rw [e1]
      have hge : (0 : Int) ≤ (k : Int) := by omega
      have hlt : (k : Int) < (m : Int) := by omega
      have hdg : L[k]? = some (atN L k) := atN_some (by have := HS.out.2.2.2.2; omega)
      obtain ⟨q, hq⟩ : ∃ q, atN L k = q := ⟨_, rfl⟩
      rw [hq] at hdg
      have hq8 : q < 256 := HS.out.2.1.at hdg
      obtain ⟨x1, b, o, rfl, hbl, gc⟩ := IsN.cellAt (HS.out.1.later hb) hdg
      clear x1 hq
      have HA := show Hid ((L.drop (k + 1)).reverse ++ [q] = (L.drop k).reverse) from drop_rev hdg
      have hpl : ((L.drop (k + 1)).reverse).length ≤ 1000000 := by simp; have := HS.out.2.2.2.2; omega
      have hbz := hb.size
      have wq : IntKind.u8.wrap (q : Int) = (q : Int) := wraps_u8 _ (by omega) (by show (q : Int) < 256; omega)
      have wk : IntKind.i64.wrap ((k : Int) - 1) = (k : Int) - 1 := by rw [IntKind.wrap_i64]; omega
      clear hdg e1
      go_wp2_with (at_builtin; go_must (refine wpList_append_n R8 rfl _ _ rfl w.heap.size _ _ rfl hown _ rfl q rfl _ HA hpl hbz hb ?_; intro v2 w2 ho2 hb2))
      go_roundw
      case rel => exact ⟨k, by omega, rfl, ho2, hb2⟩
      case measure => simp [intOf]
end Go.Proofs.Ythfgbcpppamboaa
