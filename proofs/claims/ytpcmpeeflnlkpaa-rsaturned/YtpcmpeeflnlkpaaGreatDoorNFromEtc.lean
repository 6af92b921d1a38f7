/-
  
  
  
-/
import Derived.Test.YtpcmpeeflnlkpaaGreatDoorNProdEtc
import Derived.Test.YtpcmpeeflnlkpaaGreatDoorNDiv0Etc
/-
  Package nat: bytes as words.
-/
namespace Go.Proofs.YtpcmpeeflnlkpaaGreatDoor
open Go.RowKit Ch
set_option maxRecDepth 100000

set_option maxHeartbeats 4000000 in
theorem nFrom_any (x : Option Addr) (cx : Nat) (s : ByteArray) (w : World) (hS : IsBytes w (.slice x s.size cx) s) (hs : s.size ≤ 400000) :
    Calls Tryz.prog 49 #[.slice x s.size cx] w fun e w' => (∃ v, e = .returned v ∧ IsW ((s.size + 7) / 8) w' v (numB s.data.toList)) ∧ Below w.heap.size w w' := by
  have hBr := nBare_any x cx s w hS (by omega)
  obtain ⟨l, hl⟩ : ∃ l, bareL s.data.toList = l := ⟨_, rfl⟩
  have HL := show Hid (numB l = numB s.data.toList ∧ bareL l = l ∧ l.length ≤ s.size) from by
    rw [← hl]
    refine ⟨numB_bare _, by unfold bareL; exact dropWhile_again _ _, ?_⟩
    rw [← len_eq]
    exact (List.dropWhile_sublist _).length_le
  rw [hl] at hBr
  clear hl hS
  go_enter Tryz.func49, Tryz.ntmps49
  go_wp2_with fail
  refine hBr.mono ?_
  rintro e w0 ⟨⟨y, m, c, rfl, hml, hI⟩, rfl⟩
  clear hBr
  have HI := show Hid (IsBytes w0 (.slice y m c) ⟨l.toArray⟩ ∧ l.length = m) from ⟨hI, hml.symm⟩
  have hms : m ≤ s.size := by rw [hml]; exact HL.out.2.2
  clear hI hml
  obtain ⟨m8, hm8⟩ : ∃ a, m + 8 = a := ⟨_, rfl⟩
  obtain ⟨m7, hm7⟩ : ∃ a, m + 7 = a := ⟨_, rfl⟩
  obtain ⟨n, hn⟩ : ∃ a, m7 / 8 = a := ⟨_, rfl⟩
  have hm8I : (m : Int) + 8 = (m8 : Int) := by omega
  have hm7I : (m8 : Int) - 1 = (m7 : Int) := by omega
  have hnI : (m7 : Int).tdiv 8 = (n : Int) := by rw [Int.tdiv_eq_ediv_of_nonneg (by omega)]; omega
  have hnw : IntKind.i64.wrap (n : Int) = (n : Int) := by rw [IntKind.wrap_i64]; omega
  have HNM := show Hid (n = (m + 7) / 8) from by unfold Hid; omega
  have hnl : n ≤ 60000 := by omega
  clear hm8 hm7 hn
  go_wp2_with (at_make; go_must (refine wpList_make_n RW w0 rfl _ _ rfl .i64 .i64 _ _ n rfl rfl rfl rfl (by omega) ?_; intro w1 ho1 hb1))
  obtain ⟨hR1, _⟩ := RowN.own ho1
  obtain ⟨g, hg⟩ : ∃ g, w0.heap.size = g := ⟨_, rfl⟩
  have HG := show Hid (w0.heap.size = g) from hg
  have HR1 := show Hid (RowN .u64 w1 g (List.replicate n 0) ∧ Below w0.heap.size w0 w1) from ⟨by rw [← hg]; exact hR1, hb1⟩
  rw [hg]
  clear ho1 hb1 hR1 hg
  go_loopw [17] (fun p wr => ∃ (i : Nat) (L : List Nat), i ≤ m ∧ p = .int .i64 (i : Int) ∧ Hid (RowN .u64 wr g L ∧ AllW L ∧ L.length = n ∧ Below w0.heap.size w0 wr) ∧ Hid (numW L = numB (l.take i) * 256 ^ (m - i))) (fun p _ => m - (intOf p).toNat)
  case atStart =>
    refine ⟨0, List.replicate n 0, by omega, rfl, ⟨HR1.out.1, allW_zero _, by simp, HR1.out.2⟩, ?_⟩
    unfold Hid
    rw [numW_zero]
    simp [numB]
  case round =>
    obtain ⟨i, L, hi, rfl, hR, hE⟩ := hrel
    by_cases hin : i < m
    · have hin2 : (i : Int) < (m : Int) := by omega
      obtain ⟨b, hb⟩ : ∃ b, l[i]? = some b := ⟨_, List.getElem?_eq_getElem (by rw [HI.out.2]; exact hin)⟩
      have hIw := HI.out.1.later hR.out.2.2.2
      have hzl : (⟨l.toArray⟩ : ByteArray).size = m := by rw [size_of_list]; exact HI.out.2
      rw [← hzl] at hIw
      obtain ⟨bb, oo, rfl, _, gx⟩ := IsBytes.cellAt hIw (i := i) (by rw [hzl]; exact hin)
      rw [byte_list, List.toList_toArray, hb] at gx
      have gx' : wr.cell? ⟨bb, oo + i, none⟩ = some (.int .u8 (b.toNat : Int)) := gx
      clear gx hIw hzl
      obtain ⟨ch, hch⟩ : ∃ ch, b.toNat = ch := ⟨_, rfl⟩
      have hch256 : ch < 256 := by rw [← hch]; exact b.toNat_lt
      rw [hch] at gx'
      obtain ⟨m1, hm1⟩ : ∃ a, m - 1 = a := ⟨_, rfl⟩
      obtain ⟨pl, hpl⟩ : ∃ a, m1 - i = a := ⟨_, rfl⟩
      have hm1I : (m : Int) - 1 = (m1 : Int) := by omega
      have hplI : (m1 : Int) - (i : Int) = (pl : Int) := by omega
      obtain ⟨k, hk⟩ : ∃ a, pl / 8 = a := ⟨_, rfl⟩
      obtain ⟨r, hr⟩ : ∃ a, pl % 8 = a := ⟨_, rfl⟩
      obtain ⟨r8, hr8⟩ : ∃ a, r * 8 = a := ⟨_, rfl⟩
      have hkI : (pl : Int).tdiv 8 = (k : Int) := by rw [Int.tdiv_eq_ediv_of_nonneg (by omega)]; omega
      have hrI : (pl : Int).tmod 8 = (r : Int) := by rw [Int.tmod_eq_emod_of_nonneg (by omega)]; omega
      have hr8I : (r : Int) * 8 = (r8 : Int) := by omega
      have hkn : (k : Int) < (n : Int) := by have := HNM.out; omega
      obtain ⟨p, hp⟩ : ∃ p, L[k]? = some p := ⟨_, List.getElem?_eq_getElem (by rw [hR.out.2.2.1]; omega)⟩
      obtain ⟨f1, f2, f3⟩ := from_step (p := pl) (r := r) hR.out.2.1 (by rw [hE.out, show m - i = pl + 1 by omega]) (by omega) (by omega) hp hch256
      obtain ⟨sv, hsv⟩ : ∃ a, ch * 256 ^ r = a := ⟨_, rfl⟩
      obtain ⟨q, hq⟩ : ∃ a, p + sv = a := ⟨_, rfl⟩
      have hsh := wrap_mul ch r8
      have h256 : 2 ^ r8 = 256 ^ r := by rw [← hr8]; exact pow8 r
      rw [hsv] at f2 f3
      rw [h256, hsv, Nat.mod_eq_of_lt (by omega)] at hsh
      have hsvl : sv < 2 ^ ((r + 1) * 8) := by
        rw [pow8, ← hsv, Nat.pow_succ, Nat.mul_comm]
        exact Nat.mul_lt_mul_of_pos_left hch256 (Nat.pow_pos (by decide))
      have hor : bits .or .u64 (p : Int) (sv : Int) = (q : Int) := by
        rw [bits_or_u64_nat p sv (by omega) (by omega), or_high (k := (r + 1) * 8) (a := p / 256 ^ (r + 1)) (by rw [pow8]; have := Nat.div_add_mod p (256 ^ (r + 1)); omega) hsvl, hq]
      rw [hq] at f2 f3
      have HN := show Hid (AllW (L.set k q) ∧ (L.set k q).length = n ∧ numW (L.set k q) = numB (l.take (i + 1)) * 256 ^ (m - (i + 1))) from by
        refine ⟨hR.out.2.1.set _ f2, by rw [List.length_set]; exact hR.out.2.2.1, ?_⟩
        rw [f3, numB_take hb, hch, show m - (i + 1) = pl by omega]
      have hr8l : (r8 : Int) ≤ 64 := by omega
      have w1 : IntKind.i64.wrap (k : Int) = (k : Int) := by rw [IntKind.wrap_i64]; omega
      have w2 : IntKind.i64.wrap (r : Int) = (r : Int) := by rw [IntKind.wrap_i64]; omega
      have w3 : IntKind.i64.wrap (r8 : Int) = (r8 : Int) := by rw [IntKind.wrap_i64]; omega
      have w4 : IntKind.u64.wrap (ch : Int) = (ch : Int) := by rw [IntKind.wrap_u64]; omega
      clear hb hch hm1 hpl hk hr hr8 f1 f2 f3 hsv hq h256 hsvl hE
      obtain ⟨wx, hwx⟩ : ∃ wx, wx = wr := ⟨_, rfl⟩
      subst hwx
      go_wp2_with fail
      refine semFrR pl ch r r8 p sv q k g n L rfl rfl rfl rfl hkn hkI w1 hrI w2 hr8I w3 hr8l w4 hsh (hR.out.1.later ((Below.refl _ _).drew)) hp hor ?_
      intro vs u hSs hgr hZ
      unfold semFrO
      simp only [putFrom, Act.put, List.setIfInBounds_toArray, List.set_cons_succ, List.set_cons_zero, Nat.reduceAdd]
      clear hSs
      generalize vs 0 = qq0
      generalize vs 1 = qq1
      generalize vs 2 = qq2
      generalize vs 3 = qq3
      generalize vs 4 = qq4
      generalize vs 5 = qq5
      generalize vs 6 = qq6
      generalize vs 7 = qq7
      generalize vs 8 = qq8
      generalize vs 9 = qq9
      generalize vs 10 = qq10
      generalize vs 11 = qq11
      generalize vs 12 = qq12
      have HRu := show Hid (RowN .u64 u g (L.set k q) ∧ Below w0.heap.size w0 u) from by
        obtain ⟨_, h1, _⟩ := hZ
        exact ⟨h1, (hR.out.2.2.2.drew).grown hgr hR.out.2.2.2.drew.size (fun b hb => by obtain rfl : g = b := Option.some.inj hb; rw [HG.out]; exact Nat.le_refl _)⟩
      clear hZ hgr hsh hor hp hR
      go_wp2_with fail
      go_roundw
      case rel => exact ⟨i + 1, L.set k q, by omega, by go_num, ⟨HRu.out.1, HN.out.1, HN.out.2.1, HRu.out.2⟩, HN.out.2.2⟩
      case measure => simp [intOf]; omega
    · have hin2 : ¬ (i : Int) < (m : Int) := by omega
      obtain rfl : i = m := by omega
      have HF := show Hid (numW L = numB s.data.toList ∧ Tidy L) from by
        have h1 := hE.out
        rw [Nat.sub_self, Nat.pow_zero, Nat.mul_one, List.take_of_length_le (by rw [HI.out.2]; exact Nat.le_refl _)] at h1
        refine ⟨by rw [h1, HL.out.1], tidy_of_ge hR.out.2.1 ?_⟩
        by_cases h0 : L = []
        · exact .inl h0
        · refine .inr ?_
          have hn0 : 0 < n := by rw [← hR.out.2.2.1]; exact List.length_pos_iff.2 h0
          have hl0 : l ≠ [] := by
            intro h
            have e1 := HI.out.2
            rw [h] at e1
            have e2 : 0 = i := e1
            have e3 := HNM.out
            omega
          have h2 := numB_ge HL.out.2.1 hl0
          rw [h1, hR.out.2.2.1]
          refine Nat.le_trans ?_ h2
          have h3 : 18446744073709551616 ^ (n - 1) = 256 ^ (8 * (n - 1) + 0) := by rw [pow_word]; simp
          rw [h3, HI.out.2]
          exact Nat.pow_le_pow_right (by decide) (by have := HNM.out; omega)
      have HW5 := show Hid (IsW ((s.size + 7) / 8) wr (.slice (some ⟨g, 0, none⟩) n n) (numB s.data.toList)) from by
        refine ⟨some ⟨g, 0, none⟩, n, L, by rw [hR.out.2.2.1], ?_, hR.out.2.1, HF.out.2, HF.out.1, by rw [hR.out.2.2.1]; have := HNM.out; omega⟩
        have h5 := hR.out.1.isN (o := 0) (n := L.length) (c := n) (by omega) (by rw [hR.out.2.2.1]; exact Nat.le_refl _) (by omega)
        rw [List.drop_zero, List.take_length, hR.out.2.2.1] at h5
        exact h5
      go_wp2_with fail
      go_ret
      exact ⟨⟨_, rfl, HW5.out⟩, hR.out.2.2.2⟩
end Go.Proofs.YtpcmpeeflnlkpaaGreatDoor

/-
  Package nat: words as bytes.
-/
namespace Go.Proofs.YtpcmpeeflnlkpaaGreatDoor
open Go.RowKit Ch
set_option maxRecDepth 100000

def R8 : KR := ⟨.u8, 5, 22, 1, Tryz.underlying22, by kernel_rfl, by decide⟩
/-- A value is the bytes of the number N, without leading noughts. -/
def IsNum (w : World) (v : Value) (N : Nat) : Prop := ∃ (R : List UInt8) (y : Option Addr) (c : Nat), v = .slice y R.length c ∧ IsBytes w v ⟨R.toArray⟩ ∧ bareL R = R ∧ numB R = N
def natB (l : List UInt8) : List Nat := l.map (·.toNat)
theorem row_bytes {w : World} {g n : Nat} {l : List UInt8} (h : RowN .u8 w g (natB l)) (hn : l.length = n) (hm : n ≤ 1000000) : IsBytes w (.slice (some ⟨g, 0, none⟩) n n) ⟨l.toArray⟩ := by
  have hz : (⟨l.toArray⟩ : ByteArray).size = n := by rw [size_of_list]; exact hn
  refine ⟨some ⟨g, 0, none⟩, n, by rw [hz], by rw [hz]; exact Nat.le_refl _, by unfold maxLen; omega, .inr ⟨_, rfl, .inr ⟨g, 0, rfl, h.lt, fun i hi => ?_⟩⟩⟩
  rw [hz] at hi
  have hi' : i < l.length := by omega
  rw [byte_list, List.toList_toArray, Nat.zero_add, List.getElem?_eq_getElem hi']
  exact h.cell (by unfold natB; rw [List.getElem?_map, List.getElem?_eq_getElem hi']; rfl)
set_option maxHeartbeats 4000000 in
theorem nTo_any (y : Option Addr) (c : Nat) (A : List Nat) (w : World) (hI : IsN .u64 w (.slice y A.length c) A) (hA : AllW A) (hl : A.length ≤ 50000) :
    Calls Tryz.prog 54 #[.slice y A.length c] w fun e w' => (∃ v, e = .returned v ∧ IsNum w' v (numW A)) ∧ Below w.heap.size w w' := by
  obtain ⟨na, hna⟩ : ∃ na, A.length = na := ⟨_, rfl⟩
  have HIA := show Hid (IsN .u64 w (.slice y na c) A ∧ A.length = na) from ⟨by rw [← hna]; exact hI, hna⟩
  rw [hna]
  rw [hna] at hl
  clear hI hna
  obtain ⟨n, hn⟩ : ∃ a, na * 8 = a := ⟨_, rfl⟩
  have hnI : (na : Int) * 8 = (n : Int) := by omega
  have HN8 := show Hid (na * 8 = n) from hn
  have hnl : n ≤ 400000 := by omega
  clear hn
  obtain ⟨N, hN⟩ : ∃ N, numW A = N := ⟨_, rfl⟩
  have HN := show Hid (numW A = N ∧ N < 256 ^ n) from by
    refine ⟨hN, ?_⟩
    have h1 := numW_lt hA
    rw [hN, HIA.out.2] at h1
    have h2 : 256 ^ n = 18446744073709551616 ^ na := by
      rw [← HN8.out, Nat.mul_comm, show 8 * na = 8 * na + 0 from rfl, pow_word]
      simp
    rw [h2]
    exact h1
  rw [hN]
  clear hN
  go_enter Tryz.func54, Tryz.ntmps54
  go_wp2_with (at_make; go_must (refine wpList_make_n R8 w rfl _ _ rfl .i64 .i64 _ _ n rfl rfl rfl rfl (by omega) ?_; intro w1 ho1 hb1))
  obtain ⟨hR1, _⟩ := RowN.own ho1
  obtain ⟨g, hg⟩ : ∃ g, w.heap.size = g := ⟨_, rfl⟩
  have HG := show Hid (w.heap.size = g) from hg
  have HR1 := show Hid (RowN .u8 w1 g (List.replicate n 0) ∧ Below w.heap.size w w1) from ⟨by rw [← hg]; exact hR1, hb1⟩
  rw [hg]
  clear ho1 hb1 hR1 hg
  go_loopw [12] (fun p wr => ∃ (i : Nat) (L : List Nat), i ≤ n ∧ p = .int .i64 (i : Int) ∧ Hid (RowN .u8 wr g L ∧ L.length = n ∧ Below w.heap.size w wr) ∧ Hid (∀ k, k < i → L[k]? = some (N / 256 ^ (n - 1 - k) % 256))) (fun p _ => n - (intOf p).toNat)
  case atStart => exact ⟨0, List.replicate n 0, by omega, rfl, ⟨HR1.out.1, by simp, HR1.out.2⟩, fun k hk => by omega⟩
  case round =>
    obtain ⟨i, L, hi, rfl, hR, hE⟩ := hrel
    by_cases hin : i < n
    · have hin2 : (i : Int) < (n : Int) := by omega
      obtain ⟨n1, hn1⟩ : ∃ a, n - 1 = a := ⟨_, rfl⟩
      obtain ⟨pl, hpl⟩ : ∃ a, n1 - i = a := ⟨_, rfl⟩
      have hn1I : (n : Int) - 1 = (n1 : Int) := by omega
      have hplI : (n1 : Int) - (i : Int) = (pl : Int) := by omega
      obtain ⟨k, hk⟩ : ∃ a, pl / 8 = a := ⟨_, rfl⟩
      obtain ⟨r, hr⟩ : ∃ a, pl % 8 = a := ⟨_, rfl⟩
      obtain ⟨r8, hr8⟩ : ∃ a, r * 8 = a := ⟨_, rfl⟩
      have hkI : (pl : Int).tdiv 8 = (k : Int) := by rw [Int.tdiv_eq_ediv_of_nonneg (by omega)]; omega
      have hrI : (pl : Int).tmod 8 = (r : Int) := by rw [Int.tmod_eq_emod_of_nonneg (by omega)]; omega
      have hr8I : (r : Int) * 8 = (r8 : Int) := by omega
      have hkn : (k : Int) < (na : Int) := by have := HN8.out; omega
      obtain ⟨x, hx⟩ : ∃ x, A[k]? = some x := ⟨_, List.getElem?_eq_getElem (by rw [HIA.out.2]; omega)⟩
      obtain ⟨hmv, ba, oa, rfl, _, gx⟩ := IsN.cellAt (HIA.out.1.later hR.out.2.2) hx
      clear hmv
      have hxB := hA.at hx
      have htd := to_digit (p := pl) (r := r) hA (by omega) (by omega) hx
      rw [HN.out.1] at htd
      obtain ⟨sv, hsv⟩ : ∃ a, x / 256 ^ r = a := ⟨_, rfl⟩
      have h256 : 2 ^ r8 = 256 ^ r := by rw [← hr8]; exact pow8 r
      have hsh : (x : Int) / 2 ^ r8 = (sv : Int) := by
        rw [← hsv, ← h256]
        simp
      obtain ⟨d, hd⟩ : ∃ a, sv % 256 = a := ⟨_, rfl⟩
      have hdw : IntKind.u8.wrap (sv : Int) = (d : Int) := by rw [IntKind.wrap_u8]; omega
      obtain ⟨p, hp⟩ : ∃ p, L[i]? = some p := ⟨_, List.getElem?_eq_getElem (by rw [hR.out.2.1]; exact hin)⟩
      have gp := hR.out.1.cell hp
      have gf := hR.out.1.free i
      have HNx := show Hid ((RowN .u8 (wr.setCell ⟨g, i, none⟩ (.int .u8 (d : Int))) g (L.set i d) ∧ (L.set i d).length = n ∧ Below w.heap.size w (wr.setCell ⟨g, i, none⟩ (.int .u8 (d : Int)))) ∧ ∀ k, k < i + 1 → (L.set i d)[k]? = some (N / 256 ^ (n - 1 - k) % 256)) from by
        refine ⟨⟨hR.out.1.set hp d, by rw [List.length_set]; exact hR.out.2.1, hR.out.2.2.grown (grown_cell wr ⟨g, i, none⟩ _) hR.out.2.2.size (fun b hb => by obtain rfl : g = b := Option.some.inj hb; rw [HG.out]; exact Nat.le_refl _)⟩, fun k' hk' => ?_⟩
        by_cases hki : k' = i
        · subst hki
          rw [List.getElem?_set_self (by rw [hR.out.2.1]; exact hin), show n - 1 - k' = pl by omega, htd, hsv, hd]
        · rw [List.getElem?_set_ne (by omega)]
          exact hE.out k' (by omega)
      have hr8l : (r8 : Int) ≤ 64 := by omega
      have w1 : IntKind.i64.wrap (k : Int) = (k : Int) := by rw [IntKind.wrap_i64]; omega
      have w2 : IntKind.i64.wrap (r : Int) = (r : Int) := by rw [IntKind.wrap_i64]; omega
      have w3 : IntKind.i64.wrap (r8 : Int) = (r8 : Int) := by rw [IntKind.wrap_i64]; omega
      clear hx hn1 hpl hk hr hr8 htd hsv hd h256 hp hE hR
      go_wp2_with fail
      go_roundw
      case rel => exact ⟨i + 1, L.set i d, by omega, by go_num, HNx.out.1, HNx.out.2⟩
      case measure => simp [intOf]; omega
    · have hin2 : ¬ (i : Int) < (n : Int) := by omega
      obtain rfl : i = n := by omega
      have hL : L = natB (dB N i) := by
        apply List.ext_getElem?
        intro k
        by_cases hk : k < i
        · rw [hE.out k hk]
          unfold natB dB
          rw [List.map_map, List.getElem?_map, List.getElem?_range hk]
          simp only [Option.map_some, Function.comp, UInt8.toNat_ofNat']
          rw [Nat.mod_mod]
        · rw [List.getElem?_eq_none (by rw [hR.out.2.1]; omega), List.getElem?_eq_none (by unfold natB; rw [List.length_map, dB_length]; omega)]
      have hRb := hR.out.1
      rw [hL] at hRb
      have hIB := row_bytes hRb (dB_length N i) (by omega)
      have hz : (⟨(dB N i).toArray⟩ : ByteArray).size = i := by rw [size_of_list]; exact dB_length N i
      have hBr := nBare_any (some ⟨g, 0, none⟩) i ⟨(dB N i).toArray⟩ wr (by rw [hz]; exact hIB) (by rw [hz]; omega)
      rw [hz, List.toList_toArray] at hBr
      have HBW := show Hid (Below w.heap.size w wr) from hR.out.2.2
      clear hIB hRb hz hL hE hR
      go_wp2_with fail
      refine hBr.mono ?_
      rintro e w5 ⟨⟨yy, mm, cc, rfl, hmm, hI5⟩, rfl⟩
      have HI5 := show Hid (IsNum w5 (.slice yy mm cc) N) from ⟨bareL (dB N i), yy, cc, by rw [hmm], hI5, by unfold bareL; exact dropWhile_again _ _, by rw [numB_bare, numB_dB, Nat.mod_eq_of_lt HN.out.2]⟩
      clear hBr hI5 hmm
      go_wp2_with fail
      go_ret
      exact ⟨⟨_, rfl, HI5.out⟩, HBW.out⟩
end Go.Proofs.YtpcmpeeflnlkpaaGreatDoor

/-
  Package nat: a quotient and a rest of words.
-/
namespace Go.Proofs.YtpcmpeeflnlkpaaGreatDoor
open Go.RowKit Ch
set_option maxRecDepth 100000

theorem short_less {A V : List Nat} (hA : AllW A) (hV : Tidy V) (h : A.length < V.length) : numW A < numW V := by
  have h1 := numW_lt hA
  have h2 := tidy_ge hV (by intro e; subst e; simp at h)
  have h3 : 18446744073709551616 ^ A.length ≤ 18446744073709551616 ^ (V.length - 1) := Nat.pow_le_pow_right (by decide) (by omega)
  omega
theorem div_of {a b q r : Nat} (h : r + b * q = a) (hr : r < b) : q = a / b ∧ r = a % b := by
  have hb : 0 < b := by omega
  rw [← h, Nat.add_mul_div_left _ _ hb, Nat.div_eq_of_lt hr, Nat.zero_add, Nat.add_mul_mod_self_left, Nat.mod_eq_of_lt hr]
  exact ⟨rfl, rfl⟩
/-- What a division leaves. -/
def Divided (n m : Nat) (w w' : World) (A B : Nat) (e : Ending) : Prop := ∃ v1 v2, e = .returned (.tuple #[v1, v2]) ∧ IsW n w' v1 (A / B) ∧ IsW m w' v2 (A % B) ∧ Below w.heap.size w w'
theorem divided_mk {n m : Nat} {w w' : World} {A B : Nat} {v1 v2 : Value} (h1 : IsW n w' v1 (A / B)) (h2 : IsW m w' v2 (A % B)) (hb : Below w.heap.size w w') : Divided n m w w' A B (.returned (.tuple #[v1, v2])) := ⟨v1, v2, rfl, h1, h2, hb⟩
theorem norm_len {V L : List Nat} {n top s : Nat} (hA : AllW V) (hl : V.length = n + 1) (ht : V[n]? = some top) (ht0 : top ≠ 0) (hs : top * 2 ^ s < 18446744073709551616) (hs63 : s ≤ 63) (hL : numW L = numW V * 2 ^ s) (hAL : AllW L) : (trimL L).length = n + 1 := by
  have h1 : numW V = top * 18446744073709551616 ^ n + pv V 0 n := by rw [← pv_full hl]; exact top_one ht
  have h2 := pv_lt hA 0 n
  have hS : 2 ^ s * 2 ^ (64 - s) = 18446744073709551616 := pow_halves (by omega)
  have h3 : (top + 1) * 2 ^ s ≤ 18446744073709551616 := by
    have h4 : top < 2 ^ (64 - s) := by
      apply Nat.lt_of_mul_lt_mul_right (a := 2 ^ s)
      rw [Nat.mul_comm (2 ^ (64 - s)), hS]
      exact hs
    have h5 := Nat.mul_le_mul_right (2 ^ s) (show top + 1 ≤ 2 ^ (64 - s) from h4)
    rw [Nat.mul_comm (2 ^ (64 - s)), hS] at h5
    exact h5
  have h6 : numW V < (top + 1) * 18446744073709551616 ^ n := by rw [h1, Nat.add_mul, Nat.one_mul]; omega
  have h7 : numW V * 2 ^ s < 18446744073709551616 ^ (n + 1) := by
    have h8 := Nat.mul_lt_mul_of_pos_right h6 (show 0 < 2 ^ s from Nat.pow_pos (by decide))
    have h9 : (top + 1) * 18446744073709551616 ^ n * 2 ^ s = 18446744073709551616 ^ n * ((top + 1) * 2 ^ s) := by
      rw [Nat.mul_comm (top + 1), Nat.mul_assoc]
    have h10 : 18446744073709551616 ^ n * ((top + 1) * 2 ^ s) ≤ 18446744073709551616 ^ n * 18446744073709551616 := Nat.mul_le_mul_left _ h3
    rw [Nat.pow_succ]
    omega
  have h11 : 18446744073709551616 ^ n ≤ numW V * 2 ^ s := by
    have h12 : 1 * 18446744073709551616 ^ n ≤ top * 18446744073709551616 ^ n := Nat.mul_le_mul_right _ (by omega)
    have h13 : numW V * 1 ≤ numW V * 2 ^ s := Nat.mul_le_mul_left _ (Nat.pow_pos (by decide))
    omega
  have hT : numW (trimL L) = numW V * 2 ^ s := by rw [numW_trim _ L rfl, hL]
  have hlt := numW_lt hAL.trim
  rw [hT] at hlt
  apply Nat.le_antisymm
  · apply Classical.byContradiction
    intro hn
    have h14 := tidy_ge (tidy_trim L) (by intro e; rw [e] at hn; simp at hn)
    rw [hT] at h14
    have h15 : 18446744073709551616 ^ (n + 1) ≤ 18446744073709551616 ^ ((trimL L).length - 1) := Nat.pow_le_pow_right (by decide) (by omega)
    omega
  · apply Classical.byContradiction
    intro hn
    have h15 : 18446744073709551616 ^ (trimL L).length ≤ 18446744073709551616 ^ n := Nat.pow_le_pow_right (by decide) (by omega)
    omega
set_option maxHeartbeats 1000000 in
theorem nDivide_short (ya yb : Option Addr) (ca cb : Nat) (A V : List Nat) (w : World) (hIA : IsN .u64 w (.slice ya A.length ca) A) (hA : AllW A) (hTA : Tidy A) (hTV : Tidy V) (h : A.length < V.length) :
    Calls Tryz.prog 51 #[.slice ya A.length ca, .slice yb V.length cb] w fun e w' => Divided A.length A.length w w' (numW A) (numW V) e := by
  have hlt := short_less hA hTV h
  have HR := show Hid (IsW A.length w (.slice none 0 0) (numW A / numW V) ∧ IsW A.length w (.slice ya A.length ca) (numW A % numW V)) from by
    rw [Nat.div_eq_of_lt hlt, Nat.mod_eq_of_lt hlt]
    exact ⟨⟨none, 0, [], rfl, ⟨none, 0, rfl, Nat.le_refl _, by unfold maxLen; omega, .inl ⟨rfl, rfl, rfl⟩⟩, (fun _ h => by cases h), rfl, rfl, Nat.zero_le _⟩, ⟨ya, ca, A, rfl, hIA, hA, hTA, rfl, Nat.le_refl _⟩⟩
  obtain ⟨na, hna⟩ : ∃ a, A.length = a := ⟨_, rfl⟩
  obtain ⟨nb, hnb⟩ : ∃ a, V.length = a := ⟨_, rfl⟩
  rw [hna, hnb] at h
  rw [hna] at HR
  rw [hna, hnb]
  have h2 : (na : Int) < (nb : Int) := by omega
  clear hna hnb hIA
  go_enter Tryz.func51, Tryz.ntmps51
  go_wp2_with fail
  go_ret2
  exact divided_mk HR.out.1 HR.out.2 (Below.refl _ _)
/-- What is known in the midst of a division. -/
structure DivIn (w wr : World) (g1 g2 g3 cD na m nb : Nat) (R Q Dv : List Nat) : Prop where
  r : RowN .u64 wr g1 R
  aR : AllW R
  lR : R.length = na + 1
  q : RowN .u64 wr g3 Q
  aQ : AllW Q
  lQ : Q.length = m
  d : IsN .u64 wr (.slice (some ⟨g2, 0, none⟩) nb cD) Dv
  b : Below w.heap.size w wr
set_option maxHeartbeats 4000000 in
theorem nDivide_long (ya yb : Option Addr) (ca cb : Nat) (A V : List Nat) (w : World) (hIA : IsN .u64 w (.slice ya A.length ca) A) (hIV : IsN .u64 w (.slice yb V.length cb) V) (hA : AllW A) (hAV : AllW V) (hTV : Tidy V) (hV0 : V ≠ []) (hle : V.length ≤ A.length) (hla : A.length ≤ 20000) :
    Calls Tryz.prog 51 #[.slice ya A.length ca, .slice yb V.length cb] w fun e w' => Divided A.length V.length w w' (numW A) (numW V) e := by
  obtain ⟨n1, hn1⟩ : ∃ a, V.length = a + 1 := ⟨V.length - 1, by have := List.length_pos_iff.2 hV0; omega⟩
  obtain ⟨top, htp⟩ : ∃ x, V[n1]? = some x := ⟨_, List.getElem?_eq_getElem (by omega)⟩
  have ht0 : top ≠ 0 := by
    have hc : V = V.take n1 ++ [top] := by
      have h1 := List.take_add_one (l := V) (i := n1)
      rw [htp, List.take_of_length_le (by omega)] at h1
      exact h1
    exact tidy_last hTV hc
  have htB := hAV.at htp
  obtain ⟨s, hs63, hsI, hnz1, hnz2⟩ := norm_bounds ht0 htB
  have hLz := fun u => Tryz.bits_LeadingZeros64 (top : Int) u (by omega) (by omega)
  rw [Int.toNat_natCast, hsI] at hLz
  obtain ⟨hvv, bv, ov, rfl, _, gt⟩ := IsN.cellAt hIV htp
  clear hvv
  have hUp1 := nShiftUp_any ya ca s A w hIA hA (by omega) (by omega)
  have hUp2 := fun u (hb : Below w.heap.size w u) => nShiftUp_any (some ⟨bv, ov, none⟩) cb s V u (hIV.later hb) hAV (by omega) (by omega)
  obtain ⟨na, hna⟩ : ∃ a, A.length = a := ⟨_, rfl⟩
  obtain ⟨nb, hnb⟩ : ∃ a, V.length = a := ⟨_, rfl⟩
  have HLEN := show Hid (A.length = na ∧ V.length = nb ∧ nb = n1 + 1) from ⟨hna, hnb, by omega⟩
  obtain ⟨cc, hcc⟩ : ∃ a, na + 1 = a := ⟨_, rfl⟩
  obtain ⟨nn, hnn⟩ : ∃ a, nb + 1 = a := ⟨_, rfl⟩
  obtain ⟨m, hm⟩ : ∃ a, cc - nb = a := ⟨_, rfl⟩
  have HCC := show Hid (na + 1 = cc ∧ nb + 1 = nn ∧ cc - nb = m) from ⟨hcc, hnn, hm⟩
  simp only [hna, hcc] at hUp1
  simp only [hnb, hnn] at hUp2
  have hab : nb ≤ na := by omega
  have hnal : na ≤ 20000 := by omega
  have hnb1 : 1 ≤ nb := by omega
  rw [hna, hnb]
  have n0 : ¬ (na : Int) < (nb : Int) := by omega
  have hn1I : (nb : Int) - 1 = (n1 : Int) := by omega
  have hn1l : (n1 : Int) < (nb : Int) := by omega
  have hmI : (cc : Int) - (nb : Int) = (m : Int) := by omega
  have hm1 : 1 ≤ m := by omega
  have hml : m ≤ cc := by omega
  have hccl : cc ≤ 20001 := by omega
  have HTOP := show Hid (V[n1]? = some top ∧ V.length = n1 + 1 ∧ top ≠ 0 ∧ top * 2 ^ s < 18446744073709551616) from ⟨htp, hn1, ht0, hnz2⟩
  clear hcc hnn hm hna hnb htp hsI hnz1 hnz2 hIA hn1 ht0 hle hla
  go_enter Tryz.func51, Tryz.ntmps51
  go_wp2_with fail
  refine (hLz w).mono ?_
  rintro e w1 ⟨rfl, rfl⟩
  clear hLz
  go_wp2_with fail
  refine hUp1.mono ?_
  rintro e w2 ⟨⟨rfl, R0, hR0, hAR0, hlR0, hNR0⟩, hb2⟩
  clear hUp1
  have hD2 := hUp2 w2 hb2
  clear hUp2
  go_wp2_with fail
  refine hD2.mono ?_
  rintro e w3 ⟨⟨rfl, L0, hL0, hAL0, hlL0, hNL0⟩, hb3⟩
  clear hD2
  have hDl : (trimL L0).length = nb := by rw [norm_len hAV HTOP.out.2.1 HTOP.out.1 HTOP.out.2.2.1 HTOP.out.2.2.2 hs63 hNL0 hAL0, HLEN.out.2.2]
  have hTr := nTrimmed_any (some ⟨w2.heap.size, 0, none⟩) nn L0 w3 (by
    have := hL0.isN (o := 0) (n := L0.length) (c := nn) (by omega) (by rw [hlL0]; exact Nat.le_refl _) (by have := HCC.out; omega)
    rw [List.drop_zero, List.take_length] at this
    exact this) (by rw [hlL0]; have := HCC.out; omega)
  rw [hlL0, hDl] at hTr
  have HG12 := show Hid (w1.heap.size < w2.heap.size ∧ RowN .u64 w3 w1.heap.size R0 ∧ Below w1.heap.size w1 w3) from ⟨hR0.lt, hR0.later hb3, hb2.trans (hb3.mono hb2.size)⟩
  go_wp2_with fail
  refine hTr.mono ?_
  rintro e w4 ⟨rfl, hDI, rfl⟩
  clear hTr
  obtain ⟨Dv, hDv⟩ : ∃ a, trimL L0 = a := ⟨_, rfl⟩
  have HDV := show Hid (AllW Dv ∧ Tidy Dv ∧ numW Dv = numW V * 2 ^ s ∧ Dv.length = nb) from by
    rw [← hDv]
    exact ⟨hAL0.trim, tidy_trim L0, by rw [numW_trim _ L0 rfl, hNL0], hDl⟩
  rw [hDv] at hDI
  obtain ⟨g1, hg1⟩ : ∃ a, w1.heap.size = a := ⟨_, rfl⟩
  obtain ⟨g2, hg2⟩ : ∃ a, w2.heap.size = a := ⟨_, rfl⟩
  have HG := show Hid (w1.heap.size = g1 ∧ g1 < g2 ∧ RowN .u64 w4 g1 R0 ∧ Below w1.heap.size w1 w4 ∧ IsN .u64 w4 (.slice (some ⟨g2, 0, none⟩) nb nn) Dv) from ⟨hg1, by rw [← hg1, ← hg2]; exact HG12.out.1, by rw [← hg1]; exact HG12.out.2.1, HG12.out.2.2, by rw [← hg2]; exact hDI⟩
  have HR0 := show Hid (AllW R0 ∧ R0.length = cc ∧ numW R0 = numW A * 2 ^ s) from ⟨hAR0, hlR0, hNR0⟩
  rw [hg1, hg2]
  clear hR0 hL0 hDI hg1 hg2 hDv hDl hAL0 hlL0 hNL0 hAR0 hlR0 hNR0 hb2 hb3 HG12 gt
  go_wp2_with (at_make; go_must (refine wpList_make_n RW w4 rfl _ _ rfl .i64 .i64 _ _ m rfl rfl rfl rfl (by omega) ?_; intro w5 ho5 hb5))
  obtain ⟨hR5, _⟩ := RowN.own ho5
  obtain ⟨g3, hg3⟩ : ∃ a, w4.heap.size = a := ⟨_, rfl⟩
  rw [hg3] at hR5
  have hd0 : ∃ d, Dv[0]? = some d := ⟨_, List.getElem?_eq_getElem (by rw [HDV.out.2.2.2]; omega)⟩
  obtain ⟨d0, hd0⟩ := hd0
  obtain ⟨hxx, bb, oo, hbo, hbl, _⟩ := IsN.cellAt HG.out.2.2.2.2 hd0
  clear hxx
  have hg23 : g2 < g3 := by
    simp only [Option.some.injEq, Addr.mk.injEq, and_true] at hbo
    rw [hbo.1, ← hg3]
    exact hbl
  have hg13 : g1 < g3 := by rw [← hg3]; exact HG.out.2.2.1.lt
  have HGG := show Hid (g1 < g3 ∧ g2 < g3 ∧ g1 < g2 ∧ w1.heap.size = g1) from ⟨hg13, hg23, HG.out.2.1, HG.out.1⟩
  have HI0 := show Hid (DivIn w1 w5 g1 g2 g3 nn na m nb R0 (List.replicate m 0) Dv) from ⟨HG.out.2.2.1.later hb5, HR0.out.1, by rw [HR0.out.2.1]; exact HCC.out.1.symm, hR5, allW_zero _, by simp, HG.out.2.2.2.2.later hb5, HG.out.2.2.2.1.trans (hb5.mono HG.out.2.2.2.1.size)⟩
  obtain ⟨D, hD⟩ : ∃ a, numW Dv = a := ⟨_, rfl⟩
  have hS0 : 0 < 2 ^ s := Nat.pow_pos (by decide)
  have hVp : 0 < numW V := by
    apply Nat.pos_of_ne_zero
    intro h
    exact hV0 ((tidy_nil hTV).1 h)
  have HD := show Hid (numW Dv = D ∧ D = numW V * 2 ^ s ∧ 0 < D ∧ D < 18446744073709551616 ^ nb) from by
    have h1 : D = numW V * 2 ^ s := by rw [← hD, HDV.out.2.2.1]
    refine ⟨hD, h1, by rw [h1]; exact Nat.mul_pos hVp hS0, ?_⟩
    have h2 := numW_lt HDV.out.1
    rw [HDV.out.2.2.2, hD] at h2
    exact h2
  have HE0 := show Hid (numW (R0.drop m) < D ∧ numW R0 + D * (18446744073709551616 ^ m * numW ((List.replicate m 0).drop m)) = numW A * 2 ^ s) from by
    refine ⟨?_, ?_⟩
    · rw [HD.out.2.1]
      have h1 := div_first (R := R0) (la := na) (n := nb) (A := numW A) (Bn := numW V) (S := 2 ^ s) (by rw [HR0.out.2.1]; exact HCC.out.1.symm) HR0.out.2.2 (by rw [← HLEN.out.1]; exact numW_lt hA) (by rw [← HLEN.out.2.1]; exact tidy_ge hTV hV0) hS0 hnb1 hab
      rw [show m = na + 1 - nb by have := HCC.out; omega]
      exact h1
    · rw [List.drop_of_length_le (by simp), HR0.out.2.2]
      simp [numW]
  rw [hg3]
  clear hR5 ho5 hb5 hg3 hd0 hbo hbl hg23 hg13 hD HG HR0
  go_wp2_with fail
  go_loopw [10] (fun p wr => ∃ (j : Nat) (R Q : List Nat), j ≤ m ∧ p = .int .i64 ((j : Int) - 1) ∧ Hid (DivIn w1 wr g1 g2 g3 nn na m nb R Q Dv) ∧ Hid (numW (R.drop j) < D ∧ numW R + D * (18446744073709551616 ^ j * numW (Q.drop j)) = numW A * 2 ^ s)) (fun p _ => (intOf p + 1).toNat)
  case atStart => exact ⟨m, R0, List.replicate m 0, Nat.le_refl _, by first | rfl | (congr 1; omega), HI0.out, HE0.out⟩
  case round =>
    obtain ⟨j, R, Q, hj, rfl, hI, hE⟩ := hrel
    by_cases hj0 : j = 0
    · have hjn : ¬ (0 : Int) ≤ (j : Int) - 1 := by omega
      have hQR : numW Q = numW A / numW V ∧ numW R = (numW A % numW V) * 2 ^ s := by
        have h1 := hE.out
        rw [hj0, List.drop_zero, List.drop_zero, Nat.pow_zero, Nat.one_mul] at h1
        obtain ⟨h2, h3⟩ := div_of h1.2 h1.1
        rw [HD.out.2.1, Nat.mul_div_mul_right _ _ hS0] at h2
        rw [HD.out.2.1, Nat.mul_mod_mul_right] at h3
        exact ⟨h2, h3⟩
      have HQR := show Hid (numW Q = numW A / numW V ∧ numW R = (numW A % numW V) * 2 ^ s) from hQR
      have hTq := nTrimmed_any (some ⟨g3, 0, none⟩) m Q wr (by
        have := hI.out.q.isN (o := 0) (n := Q.length) (c := m) (by omega) (by rw [hI.out.lQ]; exact Nat.le_refl _) (by omega)
        rw [List.drop_zero, List.take_length] at this
        exact this) (by rw [hI.out.lQ]; omega)
      rw [hI.out.lQ] at hTq
      have hlR : R.length = cc := by rw [hI.out.lR]; exact HCC.out.1
      have hDn := nShiftDown_any (some ⟨g1, 0, none⟩) cc s R wr (by
        have := hI.out.r.isN (o := 0) (n := R.length) (c := cc) (by omega) (by rw [hlR]; exact Nat.le_refl _) (by omega)
        rw [List.drop_zero, List.take_length] at this
        exact this) hI.out.aR (by rw [hlR]; omega) (by omega)
      rw [hlR] at hDn
      clear hE hQR hj0
      go_wp2_with fail
      refine hTq.mono ?_
      rintro e w6 ⟨rfl, hI6, rfl⟩
      clear hTq
      go_wp2_with fail
      refine hDn.mono ?_
      rintro e w7 ⟨⟨rfl, L7, hL7, hA7, hl7, hN7⟩, hb7⟩
      clear hDn
      have hT7 := nTrimmed_any (some ⟨w6.heap.size, 0, none⟩) cc L7 w7 (by
        have := hL7.isN (o := 0) (n := L7.length) (c := cc) (by omega) (by rw [hl7]; exact Nat.le_refl _) (by omega)
        rw [List.drop_zero, List.take_length] at this
        exact this) (by rw [hl7]; omega)
      rw [hl7] at hT7
      go_wp2_with fail
      refine hT7.mono ?_
      rintro e w8 ⟨rfl, hI8, rfl⟩
      clear hT7
      have HW1 := show Hid (IsW na w8 (.slice (some ⟨g3, 0, none⟩) (trimL Q).length m) (numW A / numW V)) from (isW_trim hI6 hI.out.aQ HQR.out.1 (by rw [hI.out.lQ]; have := HCC.out; omega)).later hb7
      have HW2 := show Hid (IsW nb w8 (.slice (some ⟨w6.heap.size, 0, none⟩) (trimL L7).length cc) (numW A % numW V)) from by
        have hN8 : numW L7 = numW A % numW V := by rw [hN7, HQR.out.2, Nat.mul_div_cancel _ hS0]
        obtain ⟨y, c, L, h1, h2, h3, h4, h5, h6⟩ := isW_trim (n := cc) hI8 hA7 hN8 (by rw [hl7]; exact Nat.le_refl _)
        refine ⟨y, c, L, h1, h2, h3, h4, h5, ?_⟩
        rw [← HLEN.out.2.1]
        exact tidy_len h4 hAV (by rw [h5]; exact Nat.le_of_lt (Nat.mod_lt _ hVp))
      have HB8 := show Hid (Below w1.heap.size w1 w8) from hI.out.b.trans (hb7.mono hI.out.b.size)
      clear hI6 hI8 hL7 hb7
      go_wp2_with fail
      go_ret2
      exact divided_mk HW1.out HW2.out HB8.out
    · obtain ⟨i, hji⟩ : ∃ i, j = i + 1 := ⟨j - 1, by omega⟩
      have hjI : (j : Int) - 1 = (i : Int) := by omega
      have hi0 : (0 : Int) ≤ (i : Int) := by omega
      have him : (i : Int) < (m : Int) := by omega
      obtain ⟨e1, he1⟩ : ∃ a, i + nb = a := ⟨_, rfl⟩
      obtain ⟨e2, he2⟩ : ∃ a, e1 + 1 = a := ⟨_, rfl⟩
      have he1I : (i : Int) + (nb : Int) = (e1 : Int) := by omega
      have he2I : (e1 : Int) + 1 = (e2 : Int) := by omega
      have q2 : e2 ≤ cc := by have := HCC.out; omega
      have q1i : (i : Int) ≤ (e2 : Int) := by omega
      have q2i : (e2 : Int) ≤ (cc : Int) := by omega
      have q4 : ¬ cc = i := by omega
      have q5 : i ≤ cc := by omega
      have q6 : e2 - i = nn := by have := HCC.out; omega
      have q7 : ((e2 : Int) - (i : Int)).toNat = nn := by have := HCC.out; omega
      have q8 : (e2 : Int) - (i : Int) = (nn : Int) := by have := HCC.out; omega
      obtain ⟨x, hx⟩ : ∃ x, R[i]? = some x := ⟨_, List.getElem?_eq_getElem (by rw [hI.out.lR]; have := HCC.out; omega)⟩
      obtain ⟨yq, hyq⟩ : ∃ x, Q[i]? = some x := ⟨_, List.getElem?_eq_getElem (by rw [hI.out.lQ]; omega)⟩
      have hinR : i + (nb + 1) ≤ R.length := by rw [hI.out.lR]; have := HCC.out; omega
      obtain ⟨U, hU⟩ : ∃ a, numW (R.drop i) = a := ⟨_, rfl⟩
      have hUD : U < 18446744073709551616 * D := by
        have h1 := hE.out.1
        have h2 := numW_drop hx
        have h3 := hI.out.aR.at hx
        rw [hji] at h1
        rw [hU] at h2
        omega
      have hUX : U < 18446744073709551616 ^ (nb + 1) := by
        have h1 : 18446744073709551616 * D < 18446744073709551616 * 18446744073709551616 ^ nb := Nat.mul_lt_mul_of_pos_left HD.out.2.2.2 (by decide)
        rw [Nat.pow_succ, Nat.mul_comm (18446744073709551616 ^ nb)]
        omega
      have hpv : pv R i (nb + 1) = U := by rw [(piece_all hinR (by rw [hU]; exact hUX)).2, hU]
      have hGs := nGuess_any g1 i (cc - i) nb nn (some ⟨g2, 0, none⟩) ((R.drop i).take (nb + 1)) Dv wr (hI.out.r.isN hinR (by omega) (by omega)) hI.out.d ((hI.out.aR.drop i).take _) HDV.out.1 (by rw [List.length_take, List.length_drop]; omega) HDV.out.2.2.2 hnb1 (by omega) (fun z hz => by
          have hc : Dv = Dv.take (nb - 1) ++ [z] := by
            have h1 := List.take_add_one (l := Dv) (i := nb - 1)
            rw [hz, List.take_of_length_le (by rw [HDV.out.2.2.2]; omega)] at h1
            exact h1
          exact tidy_last HDV.out.2.1 hc) (by
          show pv R i (nb + 1) < _
          rw [hpv, HD.out.1]
          exact hUD)
      have hpP : numW ((R.drop i).take (nb + 1)) = U := hpv
      rw [hpP, HD.out.1, HCC.out.2.1] at hGs
      have HP := show Hid (pv R i nn = U ∧ U < 18446744073709551616 ^ nn ∧ numW (R.drop i) = U ∧ i + nn ≤ R.length ∧ j = i + 1 ∧ Q[i]? = some yq) from ⟨by rw [← HCC.out.2.1]; exact hpv, by rw [← HCC.out.2.1]; exact hUX, hU, by rw [← HCC.out.2.1]; exact hinR, hji, hyq⟩
      clear hx hU hUX hpv hpP hinR he1 he2 hji hj0 hyq
      go_wp2_with fail
      refine hGs.mono ?_
      rintro e w6 ⟨T, rfl, hT1, hT2, hTB, hb6⟩
      clear hGs
      have hq6 := hI.out.q.later hb6
      have gq6 := hq6.cell HP.out.2.2.2.2.2
      have gf6 := hq6.free i
      obtain ⟨w7, hw7⟩ : ∃ a, w6.setCell ⟨g3, i, none⟩ (.int .u64 (T : Int)) = a := ⟨_, rfl⟩
      have hgr7 : w6.grownBy w7 (some g3) := by rw [← hw7]; exact grown_cell w6 ⟨g3, i, none⟩ _
      have hR7 : RowN .u64 w7 g1 R := (hI.out.r.later hb6).grown hgr7 (by intro h; have := Option.some.inj h; have := HGG.out; omega)
      have hQ7 : RowN .u64 w7 g3 (Q.set i T) := by rw [← hw7]; exact hq6.set HP.out.2.2.2.2.2 T
      have hD7 : IsN .u64 w7 (.slice (some ⟨g2, 0, none⟩) nb nn) Dv := (hI.out.d.later hb6).grown hgr7 (by have := HGG.out; omega)
      have hb7 : Below w1.heap.size w1 w7 := (hI.out.b.trans (hb6.mono hI.out.b.size)).grown hgr7 (Nat.le_trans hI.out.b.size hb6.size) (fun b hb => by obtain rfl : g3 = b := Option.some.inj hb; have := HGG.out; omega)
      have hQi : (Q.set i T)[i]? = some T := by rw [List.getElem?_set_self (List.getElem?_eq_some_iff.1 HP.out.2.2.2.2.2).1]
      have gq7 := hQ7.cell hQi
      have hTk := nTakeFrom_any g1 i nn (cc - i) nn T (some ⟨g2, 0, none⟩) Dv R w7 hR7 hI.out.aR HP.out.2.2.2.1 (by rw [HDV.out.2.2.2]; have := HCC.out; omega) (by omega) (by have := HCC.out; omega) HDV.out.1 hTB (fun u hu => by
        rw [HDV.out.2.2.2]
        exact hD7.grown hu (by have := HGG.out; omega))
      rw [HDV.out.2.2.2] at hTk
      have HJ7 := show Hid (RowN .u64 w7 g1 R ∧ RowN .u64 w7 g3 (Q.set i T) ∧ IsN .u64 w7 (.slice (some ⟨g2, 0, none⟩) nb nn) Dv ∧ Below w1.heap.size w1 w7 ∧ (Q.set i T)[i]? = some T) from ⟨hR7, hQ7, hD7, hb7, hQi⟩
      have HT := show Hid (U / D ≤ T ∧ T ≤ U / D + 1) from ⟨hT1, hT2⟩
      clear hgr7 hR7 hQ7 hD7 hb7 hQi hq6 hb6 hT1 hT2
      go_wp2_with fail
      refine hTk.mono ?_
      rintro e w8 ⟨Rb, L', k, rfl, hRk, hW, hE8⟩
      clear hTk
      rw [HP.out.1, HD.out.1] at hE8
      have hDX : D ≤ 18446744073709551616 ^ nn := by
        have h1 : 18446744073709551616 ^ nb ≤ 18446744073709551616 ^ nn := Nat.pow_le_pow_right (by decide) (by have := HCC.out; omega)
        have := HD.out.2.2.2
        omega
      obtain ⟨tg1, tg2⟩ := take_guess HD.out.2.2.1 hDX HP.out.2.1 HT.out.1 HT.out.2 (pv_lt hW.2.1 i nn) hE8
      have hQ8 : RowN .u64 w8 g3 (Q.set i T) := HJ7.out.2.1.grown hW.2.2.2.2 (by intro h; have := Option.some.inj h; have := HGG.out; omega)
      have hD8 : IsN .u64 w8 (.slice (some ⟨g2, 0, none⟩) nb nn) Dv := HJ7.out.2.2.1.grown hW.2.2.2.2 (by have := HGG.out; omega)
      have hb8 : Below w1.heap.size w1 w8 := HJ7.out.2.2.2.1.grown hW.2.2.2.2 HJ7.out.2.2.2.1.size (fun b hb => by obtain rfl : g1 = b := Option.some.inj hb; have := HGG.out; omega)
      have hE1 := hE.out.2
      rw [HP.out.2.2.2.2.1] at hE1
      cases Rb
      · have hk0 : k = 0 := by
          apply Classical.byContradiction
          intro h
          have := hRk.2 h
          cases this
        obtain ⟨hTe, hPe⟩ := tg1 hk0
        have hdp := div_place (n := nb) (R := R) (R' := L') (Q := Q) (D := D) (N0 := numW A * 2 ^ s) (j := i) (U := U) (q := T) hW.2.2.1 (by rw [HCC.out.2.1]; exact HP.out.2.2.2.1) (by rw [HCC.out.2.1]; exact hW.2.2.2.1) HP.out.2.2.1.symm (by rw [HCC.out.2.1]; exact HP.out.2.1) (by rw [HCC.out.2.1]; exact hPe) hTe HD.out.2.2.1 HP.out.2.2.2.2.2 hE1
        have HN := show Hid (DivIn w1 w8 g1 g2 g3 nn na m nb L' (Q.set i T) Dv ∧ (numW (L'.drop i) < D ∧ numW L' + D * (18446744073709551616 ^ i * numW ((Q.set i T).drop i)) = numW A * 2 ^ s)) from ⟨⟨hW.1, hW.2.1, by rw [hW.2.2.1]; exact hI.out.lR, hQ8, hI.out.aQ.set _ hTB, by rw [List.length_set]; exact hI.out.lQ, hD8, hb8⟩, hdp⟩
        have hjj : i < j := by have := HP.out.2.2.2.2.1; omega
        clear hW hE8 tg1 tg2 hQ8 hD8 hb8 hE1 hdp hPe hTe hRk hI hE HJ7
        go_wp2_with fail
        go_roundw
        case rel => exact ⟨i, L', Q.set i T, by omega, by first | rfl | go_num, HN.out.1, HN.out.2⟩
        case measure => simp [intOf]; omega
      · have hk0 : k ≠ 0 := hRk.1 rfl
        obtain ⟨hTe, hPe⟩ := tg2 hk0
        have gq8 := hQ8.cell HJ7.out.2.2.2.2
        have gf8 := hQ8.free i
        obtain ⟨T', hT'⟩ : ∃ a, T - 1 = a := ⟨_, rfl⟩
        have hTge : 1 ≤ T := by rw [hTe]; exact Nat.le_add_left _ _
        have hT'I : (T : Int) - 1 = (T' : Int) := by omega
        have wT' : IntKind.u64.wrap (T' : Int) = (T' : Int) := by rw [IntKind.wrap_u64]; omega
        have hT'e := show Hid (T' = U / D) from by unfold Hid; rw [← hT', hTe]; exact Nat.add_sub_cancel _ _
        have hT'B : T' < 18446744073709551616 := by omega
        obtain ⟨w9, hw9⟩ : ∃ a, w8.setCell ⟨g3, i, none⟩ (.int .u64 (T' : Int)) = a := ⟨_, rfl⟩
        have hgr9 : w8.grownBy w9 (some g3) := by rw [← hw9]; exact grown_cell w8 ⟨g3, i, none⟩ _
        have hR9 : RowN .u64 w9 g1 L' := hW.1.grown hgr9 (by intro h; have := Option.some.inj h; have := HGG.out; omega)
        have hQ9 : RowN .u64 w9 g3 (Q.set i T') := by
          have := hQ8.set HJ7.out.2.2.2.2 T'
          rw [hw9, List.set_set] at this
          exact this
        have hD9 : IsN .u64 w9 (.slice (some ⟨g2, 0, none⟩) nb nn) Dv := hD8.grown hgr9 (by have := HGG.out; omega)
        have hb9 : Below w1.heap.size w1 w9 := hb8.grown hgr9 hb8.size (fun b hb => by obtain rfl : g3 = b := Option.some.inj hb; have := HGG.out; omega)
        have hAd := nAddTo_any g1 i nn (cc - i) nn (some ⟨g2, 0, none⟩) Dv L' w9 hR9 hW.2.1 (by rw [hW.2.2.1]; exact HP.out.2.2.2.1) (by rw [HDV.out.2.2.2]; have := HCC.out; omega) (by have := HCC.out; omega) HDV.out.1 (fun u hu => by
          rw [HDV.out.2.2.2]
          exact hD9.grown hu (by have := HGG.out; omega))
        rw [HDV.out.2.2.2] at hAd
        have HJ9 := show Hid (RowN .u64 w9 g3 (Q.set i T') ∧ IsN .u64 w9 (.slice (some ⟨g2, 0, none⟩) nb nn) Dv ∧ Below w1.heap.size w1 w9) from ⟨hQ9, hD9, hb9⟩
        have HW8 := show Hid (Wrote w7 w8 g1 R L' i nn) from hW
        have HPE := show Hid (∀ P' c', P' < 18446744073709551616 ^ nn → P' + c' * 18446744073709551616 ^ nn = pv L' i nn + D → P' = U % D) from hPe
        have HE1 := show Hid (numW R + D * (18446744073709551616 ^ (i + 1) * numW (Q.drop (i + 1))) = numW A * 2 ^ s) from hE1
        clear hW hE8 tg1 tg2 hQ8 hD8 hb8 hE1 hPe hTe hRk hE hgr9 hR9 hQ9 hD9 hb9 hT'
        go_wp2_with fail
        refine hAd.mono ?_
        rintro e w10 ⟨rfl, L2, hW2, k2, hk2, hE2⟩
        clear hAd
        rw [HD.out.1] at hE2
        have hPe2 := HPE.out _ _ (pv_lt hW2.2.1 i nn) hE2
        have hdp := div_place (n := nb) (R := R) (R' := L2) (Q := Q) (D := D) (N0 := numW A * 2 ^ s) (j := i) (U := U) (q := T') (by rw [hW2.2.2.1, HW8.out.2.2.1]) (by rw [HCC.out.2.1]; exact HP.out.2.2.2.1) (by rw [HCC.out.2.1]; exact fun z hz => (hW2.2.2.2.1 z hz).trans (HW8.out.2.2.2.1 z hz)) HP.out.2.2.1.symm (by rw [HCC.out.2.1]; exact HP.out.2.1) (by rw [HCC.out.2.1]; exact hPe2) hT'e.out HD.out.2.2.1 HP.out.2.2.2.2.2 HE1.out
        have HN := show Hid (DivIn w1 w10 g1 g2 g3 nn na m nb L2 (Q.set i T') Dv ∧ (numW (L2.drop i) < D ∧ numW L2 + D * (18446744073709551616 ^ i * numW ((Q.set i T').drop i)) = numW A * 2 ^ s)) from ⟨⟨hW2.1, hW2.2.1, by rw [hW2.2.2.1, HW8.out.2.2.1]; exact hI.out.lR, HJ9.out.1.grown hW2.2.2.2.2 (by intro h; have := Option.some.inj h; have := HGG.out; omega), hI.out.aQ.set _ hT'B, by rw [List.length_set]; exact hI.out.lQ, HJ9.out.2.1.grown hW2.2.2.2.2 (by have := HGG.out; omega), HJ9.out.2.2.grown hW2.2.2.2.2 HJ9.out.2.2.size (fun b hb => by obtain rfl : g1 = b := Option.some.inj hb; have := HGG.out; omega)⟩, hdp⟩
        have hjj : i < j := by have := HP.out.2.2.2.2.1; omega
        clear hW2 hE2 hdp hPe2 hI HJ7 HW8 HPE HE1 HJ9 hT'e
        go_wp2_with fail
        go_roundw
        case rel => exact ⟨i, L2, Q.set i T', by omega, by first | rfl | go_num, HN.out.1, HN.out.2⟩
        case measure => simp [intOf]; omega
end Go.Proofs.YtpcmpeeflnlkpaaGreatDoor
