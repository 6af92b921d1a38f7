/-
  The document's Right and Size.
  The document's Add.
-/
import Derived.Test.YtpcmpeeflnlkpaaDoorQRRightEtc
import Derived.Test.YtpcmpeeflnlkpaaDoorQMake
import Derived.Test.YtpcmpeeflnlkpaaDoorNRCmp
namespace Go.Proofs.YtpcmpeeflnlkpaaDoor
open Go.RowKit Ch
set_option maxRecDepth 100000

theorem digOfV (l : List UInt8) (v : Value) (w : World) (h : IsBytes w v ⟨l.toArray⟩) (hl : l.length ≤ 1000000) : Calls Tryd.prog 6 #[v] w fun e w' => (∃ y k c, e = .returned (.slice y k c) ∧ IsD l.length w' (.slice y k c) (numB l) ∧ (bareL l).length = k) ∧ Below w.heap.size w w' := by
  obtain ⟨y, c, rfl⟩ := isb_shape h
  have hz : (⟨l.toArray⟩ : ByteArray).size = l.length := size_of_list l
  have := digOf y c ⟨l.toArray⟩ w (by rw [hz]; exact h) (by rw [hz]; exact hl)
  rw [hz] at this
  refine this.mono ?_
  rintro e w' ⟨⟨v, h1, h2⟩, h3⟩
  have h2' := show IsD l.length w' v (numB l) from h2
  obtain ⟨y', c', L, rfl, _⟩ := id h2'
  exact ⟨⟨_, _, _, h1, h2', (isD_len h2' rfl).symm⟩, h3⟩
theorem rrRightV (v1 v2 v3 : Value) (N E D : List UInt8) (w : World) (hN : IsBytes w v1 ⟨N.toArray⟩) (hE : IsBytes w v2 ⟨E.toArray⟩) (hD : IsBytes w v3 ⟨D.toArray⟩) (lN : N.length ≤ 1000000) (lE : E.length ≤ 1000000) (lD : D.length ≤ 1000000) :
    Calls Tryd.prog 13 #[.agg #[v1, v2, v3]] w fun e w' => e = .returned (.bool (decide (rightP N E D))) ∧ Below w.heap.size w w' := by
  obtain ⟨x, cx, rfl⟩ := isb_shape hN
  obtain ⟨y, cy, rfl⟩ := isb_shape hE
  obtain ⟨z, cz, rfl⟩ := isb_shape hD
  have h1 : (⟨N.toArray⟩ : ByteArray).size = N.length := size_of_list N
  have h2 : (⟨E.toArray⟩ : ByteArray).size = E.length := size_of_list E
  have h3 : (⟨D.toArray⟩ : ByteArray).size = D.length := size_of_list D
  have := rrRight_any x y z cx cy cz ⟨N.toArray⟩ ⟨E.toArray⟩ ⟨D.toArray⟩ w (by rw [h1]; exact hN) (by rw [h2]; exact hE) (by rw [h3]; exact hD) (by rw [h1]; exact lN) (by rw [h2]; exact lE) (by rw [h3]; exact lD)
  rw [h1, h2, h3] at this
  exact this
end Go.Proofs.YtpcmpeeflnlkpaaDoor

namespace Go.Proofs.YtpcmpeeflnlkpaaDoor
open Go.RowKit Ch
set_option maxRecDepth 100000

/-- A slice that doesn't lie below. -/
def FreshS (B : Nat) (v : Value) : Prop := ∀ b o n c, v = .slice (some ⟨b, o, none⟩) n c → B ≤ b
theorem own_fresh {w : World} {base : Nat} {e : TypeId} {n m c : Nat} {y : Option Addr} {xs : List Value} (h : w.ownsRow base e 1 (.slice y m c) n xs) (k : Nat) : FreshS base (.slice y k c) := by
  intro b o n' c' hv
  rcases h.2 with ⟨h1, _⟩ | ⟨g, cap, cur, h1, hb, _⟩
  · simp only [Value.slice.injEq] at h1 hv
    rw [h1.1] at hv
    cases hv.1
  · simp only [Value.slice.injEq] at h1 hv
    rw [h1.1] at hv
    have := hv.1
    simp only [Option.some.injEq, Addr.mk.injEq] at this
    omega
theorem getD_lt {L : List Nat} (h : AllD L) (i : Nat) : L.getD i 0 < 256 := by
  rw [List.getD_eq_getElem?_getD]
  rcases hi : L[i]? with _ | x
  · decide
  · exact h.at hi
theorem numD_takeD (L : List Nat) (i : Nat) : numD (L.take (i + 1)) = numD (L.take i) + 256 ^ i * L.getD i 0 := by
  rw [List.getD_eq_getElem?_getD]
  rcases hi : L[i]? with _ | x
  · have hl : L.length ≤ i := List.getElem?_eq_none_iff.1 hi
    rw [List.take_of_length_le hl, List.take_of_length_le (by omega)]
    rfl
  · exact numD_take hi
theorem allD_snoc {L : List Nat} {d : Nat} (h : AllD L) (hd : d < 256) : AllD (L ++ [d]) := by
  intro x hx
  rw [List.mem_append] at hx
  rcases hx with hx | hx
  · exact h x hx
  · rw [List.mem_singleton.1 hx]
    exact hd
theorem add_stepD {P c i A B d c' x z : Nat} (h : P + c * 256 ^ i = A + B) (hs : d + c' * 256 = c + x + z) : P + 256 ^ i * d + c' * 256 ^ (i + 1) = A + 256 ^ i * x + (B + 256 ^ i * z) := by
  rw [Nat.pow_succ]
  generalize 256 ^ i = T at *
  have h1 : T * (d + c' * 256) = T * (c + x + z) := by rw [hs]
  rw [Nat.mul_add, Nat.mul_add, Nat.mul_add, Nat.mul_comm T c, Nat.mul_left_comm] at h1
  generalize c' * (T * 256) = z1 at *
  generalize T * d = z2 at *
  generalize T * x = z3 at *
  generalize T * z = z4 at *
  generalize c * T = z5 at *
  omega
set_option maxHeartbeats 4000000 in
theorem digAdd (n m : Nat) (u v : Value) (A B : Nat) (w : World) (hu : IsD n w u A) (hv : IsD m w v B) (hn : n ≤ 100000) (hm : m ≤ 100000) :
    Calls Tryd.prog 30 #[u, v] w fun e w' => (∃ x, e = .returned x ∧ IsD (max n m + 1) w' x (A + B) ∧ FreshS w.heap.size x) ∧ Below w.heap.size w w' := by
  obtain ⟨ya, ca, L, rfl, h2, h3, h4, rfl, h6⟩ := hu
  obtain ⟨yb, cb, M, rfl, k2, k3, k4, rfl, k6⟩ := hv
  suffices hg : Calls Tryd.prog 30 #[.slice ya L.length ca, .slice yb M.length cb] w fun e w' => (∃ x, e = .returned x ∧ IsD (max L.length M.length + 1) w' x (numD L + numD M) ∧ FreshS w.heap.size x) ∧ Below w.heap.size w w' by
    refine hg.mono ?_
    rintro e w' ⟨⟨x, rfl, h, hf⟩, hb⟩
    exact ⟨⟨x, rfl, h.more (by omega), hf⟩, hb⟩
  have hln : L.length ≤ 100000 := by omega
  have hlm : M.length ≤ 100000 := by omega
  clear h4 k4 h6 k6 hn hm n m
  obtain ⟨n, hn⟩ : ∃ n, L.length = n := ⟨_, rfl⟩
  obtain ⟨m, hm⟩ : ∃ n, M.length = n := ⟨_, rfl⟩
  have HL := show Hid (IsN .i64 w (.slice ya n ca) L ∧ AllD L ∧ L.length = n) from ⟨by rw [← hn]; exact h2, h3, hn⟩
  have HM := show Hid (IsN .i64 w (.slice yb m cb) M ∧ AllD M ∧ M.length = m) from ⟨by rw [← hm]; exact k2, k3, hm⟩
  rw [hn] at hln ⊢
  rw [hm] at hlm ⊢
  clear h2 h3 k2 k3 hn hm
  go_enter Tryd.func30, Tryd.ntmps30
  go_wp2_with fail
  go_loopw [5, 6, 7] (fun v a b wr => ∃ (i c : Nat) (o : List Nat), a = .int .i64 (c : Int) ∧ b = .int .i64 (i : Int) ∧ c ≤ 1 ∧ i ≤ max n m + 1 ∧ (i = max n m + 1 → c = 0) ∧ wr.ownsRow w.heap.size 3 1 v o.length (kc .i64 o) ∧ Below w.heap.size w wr ∧ Hid (o.length = i ∧ AllD o ∧ numD o + c * 256 ^ i = numD (L.take i) + numD (M.take i))) (fun _ _ b _ => max n m + 1 - (intOf b).toNat)
  case atStart => exact ⟨0, 0, [], rfl, rfl, by omega, by omega, by omega, own_nil _ _ _, Below.refl _ _, rfl, fun x hx => (List.not_mem_nil hx).elim, by simp [numD]⟩
  case round =>
    obtain ⟨i, c, o, rfl, rfl, hc, hiK, hcK, hown, hb, hI⟩ := hrel
    have hway : i < n ∨ (¬ i < n ∧ i < m) ∨ (¬ i < n ∧ ¬ i < m ∧ 0 < c) ∨ (¬ i < n ∧ ¬ i < m ∧ c = 0) := by omega
    rcases hway with hw0 | ⟨hw0, hw6⟩ | ⟨hw0, hw6, hw7⟩ | ⟨hw0, hw6, hw7⟩
    · have hin : (i : Int) < (n : Int) := by omega
      obtain ⟨x, hx⟩ : ∃ x, L.getD i 0 = x := ⟨_, rfl⟩
      obtain ⟨z, hz⟩ : ∃ x, M.getD i 0 = x := ⟨_, rfl⟩
      have hx8 : x < 256 := by rw [← hx]; exact getD_lt HL.out.2.1 i
      have hz8 : z < 256 := by rw [← hz]; exact getD_lt HM.out.2.1 i
      have hA1 := dAt_any ya n ca L i wr (HL.out.1.later hb) HL.out.2.2
      rw [hx] at hA1
      have hA2 := dAt_any yb m cb M i wr (HM.out.1.later hb) HM.out.2.2
      rw [hz] at hA2
      obtain ⟨s1, hs1⟩ : ∃ s, c + x = s := ⟨_, rfl⟩
      obtain ⟨s2, hs2⟩ : ∃ s, s1 + z = s := ⟨_, rfl⟩
      have hs1I : (c : Int) + (x : Int) = (s1 : Int) := by omega
      have hs2I : (s1 : Int) + (z : Int) = (s2 : Int) := by omega
      have hw1 : IntKind.i64.wrap (s1 : Int) = (s1 : Int) := by rw [IntKind.wrap_i64]; omega
      have hw2 : IntKind.i64.wrap (s2 : Int) = (s2 : Int) := by rw [IntKind.wrap_i64]; omega
      obtain ⟨d, hd⟩ : ∃ d, s2 % 256 = d := ⟨_, rfl⟩
      obtain ⟨c', hc'⟩ : ∃ d, s2 / 256 = d := ⟨_, rfl⟩
      have hdI : (s2 : Int).tmod 256 = (d : Int) := by rw [Int.tmod_eq_emod_of_nonneg (by omega)]; omega
      have hcI : (s2 : Int).tdiv 256 = (c' : Int) := by rw [Int.tdiv_eq_ediv_of_nonneg (by omega)]; omega
      have hw3 : IntKind.i64.wrap (d : Int) = (d : Int) := by rw [IntKind.wrap_i64]; omega
      have hw4 : IntKind.i64.wrap (c' : Int) = (c' : Int) := by rw [IntKind.wrap_i64]; omega
      have hw5 : IntKind.i64.wrap ((i : Int) + 1) = (i : Int) + 1 := by rw [IntKind.wrap_i64]; omega
      have HI2 := show Hid ((o ++ [d]).length = i + 1 ∧ AllD (o ++ [d]) ∧ numD (o ++ [d]) + c' * 256 ^ (i + 1) = numD (L.take (i + 1)) + numD (M.take (i + 1))) from by
        obtain ⟨q1, q2, q3⟩ := hI.out
        refine ⟨by simp [q1], allD_snoc q2 (by omega), ?_⟩
        rw [numD_snoc, q1, numD_takeD, numD_takeD, hx, hz]
        exact add_stepD q3 (by omega)
      have hc1 : c' ≤ 1 := by omega
      have hK' : i + 1 ≤ max n m + 1 ∧ (i + 1 = max n m + 1 → c' = 0) := by
        exact ⟨by omega, fun h => by omega⟩
      obtain ⟨o9, HOL⟩ : ∃ o9, Hid (o ++ [d] = o9) := ⟨_, rfl⟩
      rw [HOL.out] at HI2
      have hpl : o.length ≤ 1000000 := by have := hI.out.1; omega
      have hbz := hb.size
      clear hI hx hz hs1 hs2 hd hc'
      go_wp2_with fail
      refine hA1.mono ?_
      rintro e w2 ⟨rfl, rfl⟩
      clear hA1
      go_wp2_with fail
      refine hA2.mono ?_
      rintro e w3 ⟨rfl, rfl⟩
      clear hA2
      go_wp2_with (at_builtin; go_must (refine wpList_append_n RI rfl _ _ rfl w.heap.size _ _ rfl hown _ rfl d rfl _ HOL hpl hbz hb ?_; intro v2 w2 ho2 hb2))
      go_roundw
      case rel => exact ⟨i + 1, c', o9, rfl, by go_num, hc1, hK'.1, hK'.2, ho2, hb2, HI2.out⟩
      case measure => simp [intOf]; omega
    · have hin : ¬ (i : Int) < (n : Int) := by omega
      have him : (i : Int) < (m : Int) := by omega
      obtain ⟨x, hx⟩ : ∃ x, L.getD i 0 = x := ⟨_, rfl⟩
      obtain ⟨z, hz⟩ : ∃ x, M.getD i 0 = x := ⟨_, rfl⟩
      have hx8 : x < 256 := by rw [← hx]; exact getD_lt HL.out.2.1 i
      have hz8 : z < 256 := by rw [← hz]; exact getD_lt HM.out.2.1 i
      have hA1 := dAt_any ya n ca L i wr (HL.out.1.later hb) HL.out.2.2
      rw [hx] at hA1
      have hA2 := dAt_any yb m cb M i wr (HM.out.1.later hb) HM.out.2.2
      rw [hz] at hA2
      obtain ⟨s1, hs1⟩ : ∃ s, c + x = s := ⟨_, rfl⟩
      obtain ⟨s2, hs2⟩ : ∃ s, s1 + z = s := ⟨_, rfl⟩
      have hs1I : (c : Int) + (x : Int) = (s1 : Int) := by omega
      have hs2I : (s1 : Int) + (z : Int) = (s2 : Int) := by omega
      have hw1 : IntKind.i64.wrap (s1 : Int) = (s1 : Int) := by rw [IntKind.wrap_i64]; omega
      have hw2 : IntKind.i64.wrap (s2 : Int) = (s2 : Int) := by rw [IntKind.wrap_i64]; omega
      obtain ⟨d, hd⟩ : ∃ d, s2 % 256 = d := ⟨_, rfl⟩
      obtain ⟨c', hc'⟩ : ∃ d, s2 / 256 = d := ⟨_, rfl⟩
      have hdI : (s2 : Int).tmod 256 = (d : Int) := by rw [Int.tmod_eq_emod_of_nonneg (by omega)]; omega
      have hcI : (s2 : Int).tdiv 256 = (c' : Int) := by rw [Int.tdiv_eq_ediv_of_nonneg (by omega)]; omega
      have hw3 : IntKind.i64.wrap (d : Int) = (d : Int) := by rw [IntKind.wrap_i64]; omega
      have hw4 : IntKind.i64.wrap (c' : Int) = (c' : Int) := by rw [IntKind.wrap_i64]; omega
      have hw5 : IntKind.i64.wrap ((i : Int) + 1) = (i : Int) + 1 := by rw [IntKind.wrap_i64]; omega
      have HI2 := show Hid ((o ++ [d]).length = i + 1 ∧ AllD (o ++ [d]) ∧ numD (o ++ [d]) + c' * 256 ^ (i + 1) = numD (L.take (i + 1)) + numD (M.take (i + 1))) from by
        obtain ⟨q1, q2, q3⟩ := hI.out
        refine ⟨by simp [q1], allD_snoc q2 (by omega), ?_⟩
        rw [numD_snoc, q1, numD_takeD, numD_takeD, hx, hz]
        exact add_stepD q3 (by omega)
      have hc1 : c' ≤ 1 := by omega
      have hK' : i + 1 ≤ max n m + 1 ∧ (i + 1 = max n m + 1 → c' = 0) := by
        exact ⟨by omega, fun h => by omega⟩
      obtain ⟨o9, HOL⟩ : ∃ o9, Hid (o ++ [d] = o9) := ⟨_, rfl⟩
      rw [HOL.out] at HI2
      have hpl : o.length ≤ 1000000 := by have := hI.out.1; omega
      have hbz := hb.size
      clear hI hx hz hs1 hs2 hd hc'
      go_wp2_with fail
      refine hA1.mono ?_
      rintro e w2 ⟨rfl, rfl⟩
      clear hA1
      go_wp2_with fail
      refine hA2.mono ?_
      rintro e w3 ⟨rfl, rfl⟩
      clear hA2
      go_wp2_with (at_builtin; go_must (refine wpList_append_n RI rfl _ _ rfl w.heap.size _ _ rfl hown _ rfl d rfl _ HOL hpl hbz hb ?_; intro v2 w2 ho2 hb2))
      go_roundw
      case rel => exact ⟨i + 1, c', o9, rfl, by go_num, hc1, hK'.1, hK'.2, ho2, hb2, HI2.out⟩
      case measure => simp [intOf]; omega
    · have hin : ¬ (i : Int) < (n : Int) := by omega
      have him : ¬ (i : Int) < (m : Int) := by omega
      have hc0 : (0 : Int) < (c : Int) := by omega
      obtain ⟨x, hx⟩ : ∃ x, L.getD i 0 = x := ⟨_, rfl⟩
      obtain ⟨z, hz⟩ : ∃ x, M.getD i 0 = x := ⟨_, rfl⟩
      have hx8 : x < 256 := by rw [← hx]; exact getD_lt HL.out.2.1 i
      have hz8 : z < 256 := by rw [← hz]; exact getD_lt HM.out.2.1 i
      have hA1 := dAt_any ya n ca L i wr (HL.out.1.later hb) HL.out.2.2
      rw [hx] at hA1
      have hA2 := dAt_any yb m cb M i wr (HM.out.1.later hb) HM.out.2.2
      rw [hz] at hA2
      obtain ⟨s1, hs1⟩ : ∃ s, c + x = s := ⟨_, rfl⟩
      obtain ⟨s2, hs2⟩ : ∃ s, s1 + z = s := ⟨_, rfl⟩
      have hs1I : (c : Int) + (x : Int) = (s1 : Int) := by omega
      have hs2I : (s1 : Int) + (z : Int) = (s2 : Int) := by omega
      have hw1 : IntKind.i64.wrap (s1 : Int) = (s1 : Int) := by rw [IntKind.wrap_i64]; omega
      have hw2 : IntKind.i64.wrap (s2 : Int) = (s2 : Int) := by rw [IntKind.wrap_i64]; omega
      obtain ⟨d, hd⟩ : ∃ d, s2 % 256 = d := ⟨_, rfl⟩
      obtain ⟨c', hc'⟩ : ∃ d, s2 / 256 = d := ⟨_, rfl⟩
      have hdI : (s2 : Int).tmod 256 = (d : Int) := by rw [Int.tmod_eq_emod_of_nonneg (by omega)]; omega
      have hcI : (s2 : Int).tdiv 256 = (c' : Int) := by rw [Int.tdiv_eq_ediv_of_nonneg (by omega)]; omega
      have hw3 : IntKind.i64.wrap (d : Int) = (d : Int) := by rw [IntKind.wrap_i64]; omega
      have hw4 : IntKind.i64.wrap (c' : Int) = (c' : Int) := by rw [IntKind.wrap_i64]; omega
      have hw5 : IntKind.i64.wrap ((i : Int) + 1) = (i : Int) + 1 := by rw [IntKind.wrap_i64]; omega
      have HI2 := show Hid ((o ++ [d]).length = i + 1 ∧ AllD (o ++ [d]) ∧ numD (o ++ [d]) + c' * 256 ^ (i + 1) = numD (L.take (i + 1)) + numD (M.take (i + 1))) from by
        obtain ⟨q1, q2, q3⟩ := hI.out
        refine ⟨by simp [q1], allD_snoc q2 (by omega), ?_⟩
        rw [numD_snoc, q1, numD_takeD, numD_takeD, hx, hz]
        exact add_stepD q3 (by omega)
      have hc1 : c' ≤ 1 := by omega
      have hK' : i + 1 ≤ max n m + 1 ∧ (i + 1 = max n m + 1 → c' = 0) := by
        have hcz : c ≤ 1 := hc
        exact ⟨by omega, fun h => by
          have e1 : x = 0 := by rw [← hx, List.getD_eq_getElem?_getD, List.getElem?_eq_none (by rw [HL.out.2.2]; omega)]; rfl
          have e2 : z = 0 := by rw [← hz, List.getD_eq_getElem?_getD, List.getElem?_eq_none (by rw [HM.out.2.2]; omega)]; rfl
          omega⟩
      obtain ⟨o9, HOL⟩ : ∃ o9, Hid (o ++ [d] = o9) := ⟨_, rfl⟩
      rw [HOL.out] at HI2
      have hpl : o.length ≤ 1000000 := by have := hI.out.1; omega
      have hbz := hb.size
      clear hI hx hz hs1 hs2 hd hc'
      go_wp2_with fail
      refine hA1.mono ?_
      rintro e w2 ⟨rfl, rfl⟩
      clear hA1
      go_wp2_with fail
      refine hA2.mono ?_
      rintro e w3 ⟨rfl, rfl⟩
      clear hA2
      go_wp2_with (at_builtin; go_must (refine wpList_append_n RI rfl _ _ rfl w.heap.size _ _ rfl hown _ rfl d rfl _ HOL hpl hbz hb ?_; intro v2 w2 ho2 hb2))
      go_roundw
      case rel => exact ⟨i + 1, c', o9, rfl, by go_num, hc1, hK'.1, hK'.2, ho2, hb2, HI2.out⟩
      case measure => simp [intOf]; omega
    · have hin : ¬ (i : Int) < (n : Int) := by omega
      have him : ¬ (i : Int) < (m : Int) := by omega
      subst hw7
      obtain ⟨y5, c5, rfl⟩ := own_shape hown
      have hT := dTrim_any y5 c5 o wr (own_n hown) (by have := hI.out.1; omega)
      have HF := show Hid (o.length ≤ max n m + 1 ∧ AllD o ∧ numD o = numD L + numD M ∧ Below w.heap.size w wr) from by
        obtain ⟨q1, q2, q3⟩ := hI.out
        rw [Nat.zero_mul, Nat.add_zero, List.take_of_length_le (by rw [HL.out.2.2]; omega), List.take_of_length_le (by rw [HM.out.2.2]; omega)] at q3
        exact ⟨by omega, q2, q3, hb⟩
      have HFR := show Hid (FreshS w.heap.size (.slice y5 (trimL o).length c5)) from own_fresh hown _
      clear hown hb hI
      go_wp2_with fail
      refine hT.mono ?_
      rintro e w2 ⟨rfl, hN, rfl⟩
      go_wp2_with fail
      go_ret
      exact ⟨⟨_, rfl, isD_trim hN HF.out.2.1 HF.out.2.2.1 HF.out.1, HFR.out⟩, HF.out.2.2.2⟩
end Go.Proofs.YtpcmpeeflnlkpaaDoor
