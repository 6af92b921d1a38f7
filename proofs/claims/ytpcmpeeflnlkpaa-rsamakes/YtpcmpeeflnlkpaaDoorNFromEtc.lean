/-
  Package nat: bytes as words.
  Package nat: words as bytes.
-/
import Derived.Test.YtpcmpeeflnlkpaaDoorNShift
namespace Go.Proofs.YtpcmpeeflnlkpaaDoor
open Go.RowKit Ch
set_option maxRecDepth 100000

set_option maxHeartbeats 4000000 in
theorem nFrom_any (x : Option Addr) (cx : Nat) (s : ByteArray) (w : World) (hS : IsBytes w (.slice x s.size cx) s) (hs : s.size ≤ 400000) :
    Calls Tryd.prog 43 #[.slice x s.size cx] w fun e w' => (∃ v, e = .returned v ∧ IsW ((s.size + 7) / 8) w' v (numB s.data.toList)) ∧ Below w.heap.size w w' := by
  have hBr := nBare_any x cx s w hS (by omega)
  obtain ⟨l, hl⟩ : ∃ l, bareL s.data.toList = l := ⟨_, rfl⟩
  have HL := show Hid (numB l = numB s.data.toList ∧ bareL l = l ∧ l.length ≤ s.size) from by
    rw [← hl]
    refine ⟨numB_bare _, by unfold bareL; exact dropWhile_again _ _, ?_⟩
    rw [← len_eq]
    exact (List.dropWhile_sublist _).length_le
  rw [hl] at hBr
  clear hl hS
  go_enter Tryd.func43, Tryd.ntmps43
  go_wp2_with fail
  refine hBr.mono ?_
  rintro e w0 ⟨⟨y, m, c, rfl, hml, hI⟩, rfl⟩
  clear hBr
  have HI := show Hid (IsBytes w0 (.slice y m c) ⟨l.toArray⟩ ∧ l.length = m) from ⟨hI, hml.symm⟩
  have hms : m ≤ s.size := by rw [hml]; exact HL.out.2.2
  clear hI hml
  obtain ⟨m8, hm8⟩ : ∃ a, m + 8 = a := ⟨_, rfl⟩
  obtain ⟨m7, hm7⟩ : ∃ a, m + 7 = a := ⟨_, rfl⟩
  obtain ⟨n, hn⟩ : ∃ a, m7 / 8 = a := ⟨_, rfl⟩
  have hm8I : (m : Int) + 8 = (m8 : Int) := by omega
  have hm7I : (m8 : Int) - 1 = (m7 : Int) := by omega
  have hnI : (m7 : Int).tdiv 8 = (n : Int) := by rw [Int.tdiv_eq_ediv_of_nonneg (by omega)]; omega
  have hnw : IntKind.i64.wrap (n : Int) = (n : Int) := by rw [IntKind.wrap_i64]; omega
  have HNM := show Hid (n = (m + 7) / 8) from by unfold Hid; omega
  have hnl : n ≤ 60000 := by omega
  clear hm8 hm7 hn
  go_wp2_with (at_make; go_must (refine wpList_make_n RW w0 rfl _ _ rfl .i64 .i64 _ _ n rfl rfl rfl rfl (by omega) ?_; intro w1 ho1 hb1))
  obtain ⟨hR1, _⟩ := RowN.own ho1
  obtain ⟨g, hg⟩ : ∃ g, w0.heap.size = g := ⟨_, rfl⟩
  have HG := show Hid (w0.heap.size = g) from hg
  have HR1 := show Hid (RowN .u64 w1 g (List.replicate n 0) ∧ Below w0.heap.size w0 w1) from ⟨by rw [← hg]; exact hR1, hb1⟩
  rw [hg]
  clear ho1 hb1 hR1 hg
  go_loopw [17] (fun p wr => ∃ (i : Nat) (L : List Nat), i ≤ m ∧ p = .int .i64 (i : Int) ∧ Hid (RowN .u64 wr g L ∧ AllW L ∧ L.length = n ∧ Below w0.heap.size w0 wr) ∧ Hid (numW L = numB (l.take i) * 256 ^ (m - i))) (fun p _ => m - (intOf p).toNat)
  case atStart =>
    refine ⟨0, List.replicate n 0, by omega, rfl, ⟨HR1.out.1, allW_zero _, by simp, HR1.out.2⟩, ?_⟩
    unfold Hid
    rw [numW_zero]
    simp [numB]
  case round =>
    obtain ⟨i, L, hi, rfl, hR, hE⟩ := hrel
    by_cases hin : i < m
    · have hin2 : (i : Int) < (m : Int) := by omega
      obtain ⟨b, hb⟩ : ∃ b, l[i]? = some b := ⟨_, List.getElem?_eq_getElem (by rw [HI.out.2]; exact hin)⟩
      have hIw := HI.out.1.later hR.out.2.2.2
      have hzl : (⟨l.toArray⟩ : ByteArray).size = m := by rw [size_of_list]; exact HI.out.2
      rw [← hzl] at hIw
      obtain ⟨bb, oo, rfl, _, gx⟩ := IsBytes.cellAt hIw (i := i) (by rw [hzl]; exact hin)
      rw [byte_list, List.toList_toArray, hb] at gx
      have gx' : wr.cell? ⟨bb, oo + i, none⟩ = some (.int .u8 (b.toNat : Int)) := gx
      clear gx hIw hzl
      obtain ⟨ch, hch⟩ : ∃ ch, b.toNat = ch := ⟨_, rfl⟩
      have hch256 : ch < 256 := by rw [← hch]; exact b.toNat_lt
      rw [hch] at gx'
      obtain ⟨m1, hm1⟩ : ∃ a, m - 1 = a := ⟨_, rfl⟩
      obtain ⟨pl, hpl⟩ : ∃ a, m1 - i = a := ⟨_, rfl⟩
      have hm1I : (m : Int) - 1 = (m1 : Int) := by omega
      have hplI : (m1 : Int) - (i : Int) = (pl : Int) := by omega
      obtain ⟨k, hk⟩ : ∃ a, pl / 8 = a := ⟨_, rfl⟩
      obtain ⟨r, hr⟩ : ∃ a, pl % 8 = a := ⟨_, rfl⟩
      obtain ⟨r8, hr8⟩ : ∃ a, r * 8 = a := ⟨_, rfl⟩
      have hkI : (pl : Int).tdiv 8 = (k : Int) := by rw [Int.tdiv_eq_ediv_of_nonneg (by omega)]; omega
      have hrI : (pl : Int).tmod 8 = (r : Int) := by rw [Int.tmod_eq_emod_of_nonneg (by omega)]; omega
      have hr8I : (r : Int) * 8 = (r8 : Int) := by omega
      have hkn : (k : Int) < (n : Int) := by have := HNM.out; omega
      obtain ⟨p, hp⟩ : ∃ p, L[k]? = some p := ⟨_, List.getElem?_eq_getElem (by rw [hR.out.2.2.1]; omega)⟩
      obtain ⟨f1, f2, f3⟩ := from_step (p := pl) (r := r) hR.out.2.1 (by rw [hE.out, show m - i = pl + 1 by omega]) (by omega) (by omega) hp hch256
      obtain ⟨sv, hsv⟩ : ∃ a, ch * 256 ^ r = a := ⟨_, rfl⟩
      obtain ⟨q, hq⟩ : ∃ a, p + sv = a := ⟨_, rfl⟩
      have hsh := wrap_mul ch r8
      have h256 : 2 ^ r8 = 256 ^ r := by rw [← hr8]; exact pow8 r
      rw [hsv] at f2 f3
      rw [h256, hsv, Nat.mod_eq_of_lt (by omega)] at hsh
      have hsvl : sv < 2 ^ ((r + 1) * 8) := by
        rw [pow8, ← hsv, Nat.pow_succ, Nat.mul_comm]
        exact Nat.mul_lt_mul_of_pos_left hch256 (Nat.pow_pos (by decide))
      have hor : bits .or .u64 (p : Int) (sv : Int) = (q : Int) := by
        rw [bits_or_u64_nat p sv (by omega) (by omega), or_high (k := (r + 1) * 8) (a := p / 256 ^ (r + 1)) (by rw [pow8]; have := Nat.div_add_mod p (256 ^ (r + 1)); omega) hsvl, hq]
      rw [hq] at f2 f3
      have HN := show Hid (AllW (L.set k q) ∧ (L.set k q).length = n ∧ numW (L.set k q) = numB (l.take (i + 1)) * 256 ^ (m - (i + 1))) from by
        refine ⟨hR.out.2.1.set _ f2, by rw [List.length_set]; exact hR.out.2.2.1, ?_⟩
        rw [f3, numB_take hb, hch, show m - (i + 1) = pl by omega]
      have hr8l : (r8 : Int) ≤ 64 := by omega
      have w1 : IntKind.i64.wrap (k : Int) = (k : Int) := by rw [IntKind.wrap_i64]; omega
      have w2 : IntKind.i64.wrap (r : Int) = (r : Int) := by rw [IntKind.wrap_i64]; omega
      have w3 : IntKind.i64.wrap (r8 : Int) = (r8 : Int) := by rw [IntKind.wrap_i64]; omega
      have w4 : IntKind.u64.wrap (ch : Int) = (ch : Int) := by rw [IntKind.wrap_u64]; omega
      clear hb hch hm1 hpl hk hr hr8 f1 f2 f3 hsv hq h256 hsvl hE
      obtain ⟨wx, hwx⟩ : ∃ wx, wx = wr := ⟨_, rfl⟩
      subst hwx
      go_wp2_with fail
      refine semFrR pl ch r r8 p sv q k g n L rfl rfl rfl rfl hkn hkI w1 hrI w2 hr8I w3 hr8l w4 hsh (hR.out.1.later ((Below.refl _ _).drew)) hp hor ?_
      intro vs u hSs hgr hZ
      unfold semFrO
      simp only [putFrom, Act.put, List.setIfInBounds_toArray, List.set_cons_succ, List.set_cons_zero, Nat.reduceAdd]
      clear hSs
      generalize vs 0 = qq0
      generalize vs 1 = qq1
      generalize vs 2 = qq2
      generalize vs 3 = qq3
      generalize vs 4 = qq4
      generalize vs 5 = qq5
      generalize vs 6 = qq6
      generalize vs 7 = qq7
      generalize vs 8 = qq8
      generalize vs 9 = qq9
      generalize vs 10 = qq10
      generalize vs 11 = qq11
      generalize vs 12 = qq12
      have HRu := show Hid (RowN .u64 u g (L.set k q) ∧ Below w0.heap.size w0 u) from by
        obtain ⟨_, h1, _⟩ := hZ
        exact ⟨h1, (hR.out.2.2.2.drew).grown hgr hR.out.2.2.2.drew.size (fun b hb => by obtain rfl : g = b := Option.some.inj hb; rw [HG.out]; exact Nat.le_refl _)⟩
      clear hZ hgr hsh hor hp hR
      go_wp2_with fail
      go_roundw
      case rel => exact ⟨i + 1, L.set k q, by omega, by go_num, ⟨HRu.out.1, HN.out.1, HN.out.2.1, HRu.out.2⟩, HN.out.2.2⟩
      case measure => simp [intOf]; omega
    · have hin2 : ¬ (i : Int) < (m : Int) := by omega
      obtain rfl : i = m := by omega
      have HF := show Hid (numW L = numB s.data.toList ∧ Tidy L) from by
        have h1 := hE.out
        rw [Nat.sub_self, Nat.pow_zero, Nat.mul_one, List.take_of_length_le (by rw [HI.out.2]; exact Nat.le_refl _)] at h1
        refine ⟨by rw [h1, HL.out.1], tidy_of_ge hR.out.2.1 ?_⟩
        by_cases h0 : L = []
        · exact .inl h0
        · refine .inr ?_
          have hn0 : 0 < n := by rw [← hR.out.2.2.1]; exact List.length_pos_iff.2 h0
          have hl0 : l ≠ [] := by
            intro h
            have e1 := HI.out.2
            rw [h] at e1
            have e2 : 0 = i := e1
            have e3 := HNM.out
            omega
          have h2 := numB_ge HL.out.2.1 hl0
          rw [h1, hR.out.2.2.1]
          refine Nat.le_trans ?_ h2
          have h3 : 18446744073709551616 ^ (n - 1) = 256 ^ (8 * (n - 1) + 0) := by rw [pow_word]; simp
          rw [h3, HI.out.2]
          exact Nat.pow_le_pow_right (by decide) (by have := HNM.out; omega)
      have HW5 := show Hid (IsW ((s.size + 7) / 8) wr (.slice (some ⟨g, 0, none⟩) n n) (numB s.data.toList)) from by
        refine ⟨some ⟨g, 0, none⟩, n, L, by rw [hR.out.2.2.1], ?_, hR.out.2.1, HF.out.2, HF.out.1, by rw [hR.out.2.2.1]; have := HNM.out; omega⟩
        have h5 := hR.out.1.isN (o := 0) (n := L.length) (c := n) (by omega) (by rw [hR.out.2.2.1]; exact Nat.le_refl _) (by omega)
        rw [List.drop_zero, List.take_length, hR.out.2.2.1] at h5
        exact h5
      go_wp2_with fail
      go_ret
      exact ⟨⟨_, rfl, HW5.out⟩, hR.out.2.2.2⟩
end Go.Proofs.YtpcmpeeflnlkpaaDoor

namespace Go.Proofs.YtpcmpeeflnlkpaaDoor
open Go.RowKit Ch
set_option maxRecDepth 100000

def R8 : KR := ⟨.u8, 5, 22, 1, Tryd.underlying22, by kernel_rfl, by decide⟩
/-- A value is the bytes of the number N, without leading noughts. -/
def IsNum (w : World) (v : Value) (N : Nat) : Prop := ∃ (R : List UInt8) (y : Option Addr) (c : Nat), v = .slice y R.length c ∧ IsBytes w v ⟨R.toArray⟩ ∧ bareL R = R ∧ numB R = N
def natB (l : List UInt8) : List Nat := l.map (·.toNat)
theorem row_bytes {w : World} {g n : Nat} {l : List UInt8} (h : RowN .u8 w g (natB l)) (hn : l.length = n) (hm : n ≤ 1000000) : IsBytes w (.slice (some ⟨g, 0, none⟩) n n) ⟨l.toArray⟩ := by
  have hz : (⟨l.toArray⟩ : ByteArray).size = n := by rw [size_of_list]; exact hn
  refine ⟨some ⟨g, 0, none⟩, n, by rw [hz], by rw [hz]; exact Nat.le_refl _, by unfold maxLen; omega, .inr ⟨_, rfl, .inr ⟨g, 0, rfl, h.lt, fun i hi => ?_⟩⟩⟩
  rw [hz] at hi
  have hi' : i < l.length := by omega
  rw [byte_list, List.toList_toArray, Nat.zero_add, List.getElem?_eq_getElem hi']
  exact h.cell (by unfold natB; rw [List.getElem?_map, List.getElem?_eq_getElem hi']; rfl)
set_option maxHeartbeats 4000000 in
theorem nTo_any (y : Option Addr) (c : Nat) (A : List Nat) (w : World) (hI : IsN .u64 w (.slice y A.length c) A) (hA : AllW A) (hl : A.length ≤ 50000) :
    Calls Tryd.prog 44 #[.slice y A.length c] w fun e w' => (∃ v, e = .returned v ∧ IsNum w' v (numW A)) ∧ Below w.heap.size w w' := by
  obtain ⟨na, hna⟩ : ∃ na, A.length = na := ⟨_, rfl⟩
  have HIA := show Hid (IsN .u64 w (.slice y na c) A ∧ A.length = na) from ⟨by rw [← hna]; exact hI, hna⟩
  rw [hna]
  rw [hna] at hl
  clear hI hna
  obtain ⟨n, hn⟩ : ∃ a, na * 8 = a := ⟨_, rfl⟩
  have hnI : (na : Int) * 8 = (n : Int) := by omega
  have HN8 := show Hid (na * 8 = n) from hn
  have hnl : n ≤ 400000 := by omega
  clear hn
  obtain ⟨N, hN⟩ : ∃ N, numW A = N := ⟨_, rfl⟩
  have HN := show Hid (numW A = N ∧ N < 256 ^ n) from by
    refine ⟨hN, ?_⟩
    have h1 := numW_lt hA
    rw [hN, HIA.out.2] at h1
    have h2 : 256 ^ n = 18446744073709551616 ^ na := by
      rw [← HN8.out, Nat.mul_comm, show 8 * na = 8 * na + 0 from rfl, pow_word]
      simp
    rw [h2]
    exact h1
  rw [hN]
  clear hN
  go_enter Tryd.func44, Tryd.ntmps44
  go_wp2_with (at_make; go_must (refine wpList_make_n R8 w rfl _ _ rfl .i64 .i64 _ _ n rfl rfl rfl rfl (by omega) ?_; intro w1 ho1 hb1))
  obtain ⟨hR1, _⟩ := RowN.own ho1
  obtain ⟨g, hg⟩ : ∃ g, w.heap.size = g := ⟨_, rfl⟩
  have HG := show Hid (w.heap.size = g) from hg
  have HR1 := show Hid (RowN .u8 w1 g (List.replicate n 0) ∧ Below w.heap.size w w1) from ⟨by rw [← hg]; exact hR1, hb1⟩
  rw [hg]
  clear ho1 hb1 hR1 hg
  go_loopw [12] (fun p wr => ∃ (i : Nat) (L : List Nat), i ≤ n ∧ p = .int .i64 (i : Int) ∧ Hid (RowN .u8 wr g L ∧ L.length = n ∧ Below w.heap.size w wr) ∧ Hid (∀ k, k < i → L[k]? = some (N / 256 ^ (n - 1 - k) % 256))) (fun p _ => n - (intOf p).toNat)
  case atStart => exact ⟨0, List.replicate n 0, by omega, rfl, ⟨HR1.out.1, by simp, HR1.out.2⟩, fun k hk => by omega⟩
  case round =>
    obtain ⟨i, L, hi, rfl, hR, hE⟩ := hrel
    by_cases hin : i < n
    · have hin2 : (i : Int) < (n : Int) := by omega
      obtain ⟨n1, hn1⟩ : ∃ a, n - 1 = a := ⟨_, rfl⟩
      obtain ⟨pl, hpl⟩ : ∃ a, n1 - i = a := ⟨_, rfl⟩
      have hn1I : (n : Int) - 1 = (n1 : Int) := by omega
      have hplI : (n1 : Int) - (i : Int) = (pl : Int) := by omega
      obtain ⟨k, hk⟩ : ∃ a, pl / 8 = a := ⟨_, rfl⟩
      obtain ⟨r, hr⟩ : ∃ a, pl % 8 = a := ⟨_, rfl⟩
      obtain ⟨r8, hr8⟩ : ∃ a, r * 8 = a := ⟨_, rfl⟩
      have hkI : (pl : Int).tdiv 8 = (k : Int) := by rw [Int.tdiv_eq_ediv_of_nonneg (by omega)]; omega
      have hrI : (pl : Int).tmod 8 = (r : Int) := by rw [Int.tmod_eq_emod_of_nonneg (by omega)]; omega
      have hr8I : (r : Int) * 8 = (r8 : Int) := by omega
      have hkn : (k : Int) < (na : Int) := by have := HN8.out; omega
      obtain ⟨x, hx⟩ : ∃ x, A[k]? = some x := ⟨_, List.getElem?_eq_getElem (by rw [HIA.out.2]; omega)⟩
      obtain ⟨hmv, ba, oa, rfl, _, gx⟩ := IsN.cellAt (HIA.out.1.later hR.out.2.2) hx
      clear hmv
      have hxB := hA.at hx
      have htd := to_digit (p := pl) (r := r) hA (by omega) (by omega) hx
      rw [HN.out.1] at htd
      obtain ⟨sv, hsv⟩ : ∃ a, x / 256 ^ r = a := ⟨_, rfl⟩
      have h256 : 2 ^ r8 = 256 ^ r := by rw [← hr8]; exact pow8 r
      have hsh : (x : Int) / 2 ^ r8 = (sv : Int) := by
        rw [← hsv, ← h256]
        simp
      obtain ⟨d, hd⟩ : ∃ a, sv % 256 = a := ⟨_, rfl⟩
      have hdw : IntKind.u8.wrap (sv : Int) = (d : Int) := by rw [IntKind.wrap_u8]; omega
      obtain ⟨p, hp⟩ : ∃ p, L[i]? = some p := ⟨_, List.getElem?_eq_getElem (by rw [hR.out.2.1]; exact hin)⟩
      have gp := hR.out.1.cell hp
      have gf := hR.out.1.free i
      have HNx := show Hid ((RowN .u8 (wr.setCell ⟨g, i, none⟩ (.int .u8 (d : Int))) g (L.set i d) ∧ (L.set i d).length = n ∧ Below w.heap.size w (wr.setCell ⟨g, i, none⟩ (.int .u8 (d : Int)))) ∧ ∀ k, k < i + 1 → (L.set i d)[k]? = some (N / 256 ^ (n - 1 - k) % 256)) from by
        refine ⟨⟨hR.out.1.set hp d, by rw [List.length_set]; exact hR.out.2.1, hR.out.2.2.grown (grown_cell wr ⟨g, i, none⟩ _) hR.out.2.2.size (fun b hb => by obtain rfl : g = b := Option.some.inj hb; rw [HG.out]; exact Nat.le_refl _)⟩, fun k' hk' => ?_⟩
        by_cases hki : k' = i
        · subst hki
          rw [List.getElem?_set_self (by rw [hR.out.2.1]; exact hin), show n - 1 - k' = pl by omega, htd, hsv, hd]
        · rw [List.getElem?_set_ne (by omega)]
          exact hE.out k' (by omega)
      have hr8l : (r8 : Int) ≤ 64 := by omega
      have w1 : IntKind.i64.wrap (k : Int) = (k : Int) := by rw [IntKind.wrap_i64]; omega
      have w2 : IntKind.i64.wrap (r : Int) = (r : Int) := by rw [IntKind.wrap_i64]; omega
      have w3 : IntKind.i64.wrap (r8 : Int) = (r8 : Int) := by rw [IntKind.wrap_i64]; omega
      clear hx hn1 hpl hk hr hr8 htd hsv hd h256 hp hE hR
      go_wp2_with fail
      go_roundw
      case rel => exact ⟨i + 1, L.set i d, by omega, by go_num, HNx.out.1, HNx.out.2⟩
      case measure => simp [intOf]; omega
    · have hin2 : ¬ (i : Int) < (n : Int) := by omega
      obtain rfl : i = n := by omega
      have hL : L = natB (dB N i) := by
        apply List.ext_getElem?
        intro k
        by_cases hk : k < i
        · rw [hE.out k hk]
          unfold natB dB
          rw [List.map_map, List.getElem?_map, List.getElem?_range hk]
          simp only [Option.map_some, Function.comp, UInt8.toNat_ofNat']
          rw [Nat.mod_mod]
        · rw [List.getElem?_eq_none (by rw [hR.out.2.1]; omega), List.getElem?_eq_none (by unfold natB; rw [List.length_map, dB_length]; omega)]
      have hRb := hR.out.1
      rw [hL] at hRb
      have hIB := row_bytes hRb (dB_length N i) (by omega)
      have hz : (⟨(dB N i).toArray⟩ : ByteArray).size = i := by rw [size_of_list]; exact dB_length N i
      have hBr := nBare_any (some ⟨g, 0, none⟩) i ⟨(dB N i).toArray⟩ wr (by rw [hz]; exact hIB) (by rw [hz]; omega)
      rw [hz, List.toList_toArray] at hBr
      have HBW := show Hid (Below w.heap.size w wr) from hR.out.2.2
      clear hIB hRb hz hL hE hR
      go_wp2_with fail
      refine hBr.mono ?_
      rintro e w5 ⟨⟨yy, mm, cc, rfl, hmm, hI5⟩, rfl⟩
      have HI5 := show Hid (IsNum w5 (.slice yy mm cc) N) from ⟨bareL (dB N i), yy, cc, by rw [hmm], hI5, by unfold bareL; exact dropWhile_again _ _, by rw [numB_bare, numB_dB, Nat.mod_eq_of_lt HN.out.2]⟩
      clear hBr hI5 hmm
      go_wp2_with fail
      go_ret
      exact ⟨⟨_, rfl, HI5.out⟩, HBW.out⟩
end Go.Proofs.YtpcmpeeflnlkpaaDoor
