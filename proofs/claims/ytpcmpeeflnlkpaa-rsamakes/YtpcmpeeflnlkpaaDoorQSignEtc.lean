/-
  rsa.Sign.
  The four keys of the laws: what Make answers of the document's primes.
  The laws' key.
-/
import Derived.Test.YtpcmpeeflnlkpaaDoorQVer
import Derived.Test.YtpcmpeeflnlkpaaDoorQRLessEtc
namespace Go.Proofs.YtpcmpeeflnlkpaaDoor
open Go.RowKit Ch
set_option maxRecDepth 100000

theorem numB_zeros (k : Nat) (R : List UInt8) : numB (List.replicate k 0 ++ R) = numB R := by
  induction k with
  | zero => rfl
  | succ k ih =>
    rw [List.replicate_succ, List.cons_append, numB_cons, ih]
    simp
theorem zeros_dB {R : List UInt8} {n : Nat} (h : R.length ≤ n) : List.replicate (n - R.length) 0 ++ R = dB (numB R) n := by
  refine numB_inj_len n _ _ (by simp; omega) (dB_length _ _) ?_
  rw [numB_zeros, numB_dB, Nat.mod_eq_of_lt (Nat.lt_of_lt_of_le (numB_lt R) (Nat.pow_le_pow_right (by decide) h))]
theorem own_zeros {base : Nat} {w : World} {v : Value} {n : Nat} (h : w.ownsRow base 5 1 v (List.replicate n 0).length (kc .u8 (List.replicate n 0))) : OwnL base w v (List.replicate n 0) := by
  unfold OwnL
  simpa [Lib.byteCells, kc] using h
/-- The number that a signature is. -/
def powL (N D b : List UInt8) : Nat := numB (sealL b (bareL N).length) ^ numB D % numB N
/-- What Sign answers. -/
def SignSays (N E D b : List UInt8) (e : Ending) (w' : World) : Prop :=
  (rightP N E D ∧ numB D ≠ 0 ∧ powL N D b ^ numB E % numB N = numB (sealL b (bareL N).length) ∧ ∃ x, e = .returned (.tuple #[x, .int .i64 0]) ∧ IsBytes w' x ⟨(dB (powL N D b) (bareL N).length).toArray⟩) ∨
  (rightP N E D ∧ numB D ≠ 0 ∧ powL N D b ^ numB E % numB N ≠ numB (sealL b (bareL N).length) ∧ e = .returned (.tuple #[.slice none 0 0, .int .i64 22])) ∨
  (¬ (rightP N E D ∧ numB D ≠ 0) ∧ e = .returned (.tuple #[.slice none 0 0, .int .i64 2]))
set_option maxHeartbeats 8000000 in
theorem qSign_any (v1 v2 v3 vb : Value) (N E D b : List UInt8) (w : World) (h1 : IsBytes w v1 ⟨N.toArray⟩) (h2 : IsBytes w v2 ⟨E.toArray⟩) (h3 : IsBytes w v3 ⟨D.toArray⟩) (h4 : IsBytes w vb ⟨b.toArray⟩) (hK : KTab w)
    (lN : N.length ≤ 900000) (lE : E.length ≤ 900000) (lD : D.length ≤ 900000) (lb : b.length ≤ 900000) :
    Calls Tryd.prog 16 #[.agg #[v1, v2, v3], vb] w fun e w' => SignSays N E D b e w' ∧ Below w.heap.size w w' := by
  obtain ⟨y1, k1, c1, rfl⟩ := isb_open h1
  obtain ⟨y2, k2, c2, rfl⟩ := isb_open h2
  obtain ⟨y3, k3, c3, rfl⟩ := isb_open h3
  obtain ⟨y4, k4, c4, rfl⟩ := isb_open h4
  have kb := keyBox w (.slice y1 k1 c1) (.slice y2 k2 c2) (.slice y3 k3 c3)
  obtain ⟨q, hq⟩ : ∃ q, w.heap.size = q := ⟨_, rfl⟩
  obtain ⟨W1, hW1⟩ : ∃ W, w.alloc (.cells #[.slice y1 k1 c1, .slice y2 k2 c2, .slice y3 k3 c3] 25) = W := ⟨_, rfl⟩
  rw [hW1, hq] at kb
  have hRt := rightV (.slice y1 k1 c1) (.slice y2 k2 c2) (.slice y3 k3 c3) N E D W1 (h1.later kb.below) (h2.later kb.below) (h3.later kb.below) (by omega) (by omega) (by omega)
  have HK := show Hid (KeyBox w W1 q (.slice y1 k1 c1) (.slice y2 k2 c2) (.slice y3 k3 c3)) from kb
  have HU := show Hid (∀ u, Below w.heap.size w u → IsBytes u (.slice y1 k1 c1) ⟨N.toArray⟩ ∧ IsBytes u (.slice y2 k2 c2) ⟨E.toArray⟩ ∧ IsBytes u (.slice y3 k3 c3) ⟨D.toArray⟩ ∧ IsBytes u (.slice y4 k4 c4) ⟨b.toArray⟩ ∧ KTab u) from fun u hu =>
    ⟨h1.later hu, h2.later hu, h3.later hu, h4.later hu, hK.later hu⟩
  have HL := show Hid (N.length ≤ 900000 ∧ E.length ≤ 900000 ∧ D.length ≤ 900000 ∧ b.length ≤ 900000) from ⟨lN, lE, lD, lb⟩
  obtain ⟨g0, g1, g2⟩ := kb.cells (Below.refl _ W1)
  clear kb h1 h2 h3 h4 hK lN lE lD lb
  by_cases cp : rightP N E D
  · rw [decide_eq_true cp] at hRt
    have HP := show Hid (rightP N E D) from cp
    clear cp
    go_enter Tryd.func16, Tryd.ntmps16
    go_wp2_with fail
    refine hRt.mono ?_
    rintro e w2 ⟨rfl, b2⟩
    clear hRt g0 g1 g2
    obtain ⟨g0, g1, g2⟩ := HK.out.cells b2
    have HB2 := show Hid (Below W1.heap.size W1 w2) from b2
    have hw2 := bl2 HK.out.below b2
    have hPr := qPrivate_any (.slice y1 k1 c1) (.slice y2 k2 c2) (.slice y3 k3 c3) N E D w2 (HU.out w2 hw2).1 (HU.out w2 hw2).2.1 (HU.out w2 hw2).2.2.1 (by have := HL.out.2.2.1; omega)
    clear b2 hw2
    by_cases cd : numB D = 0
    · rw [decide_eq_false (fun h => h cd)] at hPr
      have HD := show Hid (¬ (rightP N E D ∧ numB D ≠ 0)) from fun h => h.2 cd
      clear cd
      go_wp2_with fail
      refine hPr.mono ?_
      rintro e w3 ⟨rfl, b3⟩
      clear hPr
      have HF := show Hid (Below w.heap.size w w3) from bl2 HK.out.below (bl2 HB2.out b3)
      clear b3
      go_wp2_with fail
      go_ret2
      exact ⟨.inr (.inr ⟨HD.out, rfl⟩), HF.out⟩
    rw [decide_eq_true (show numB D ≠ 0 from cd)] at hPr
    have HD := show Hid (numB D ≠ 0) from cd
    clear cd
    go_wp2_with fail
    refine hPr.mono ?_
    rintro e w2b ⟨rfl, b2b⟩
    clear hPr g0 g1 g2
    obtain ⟨g0, g1, g2⟩ := HK.out.cells (bl2 HB2.out b2b)
    have HB2b := show Hid (Below W1.heap.size W1 w2b) from bl2 HB2.out b2b
    have hw2 := bl2 HK.out.below HB2b.out
    have hTm := qTrimmed_any (.slice y1 k1 c1) (.slice y2 k2 c2) (.slice y3 k3 c3) N E D w2b (HU.out w2b hw2).1 (HU.out w2b hw2).2.1 (HU.out w2b hw2).2.2.1 HL.out.1 HL.out.2.1 HL.out.2.2.1
    clear b2b hw2
    go_wp2_with fail
    refine hTm.mono ?_
    rintro e w3 ⟨⟨v, rfl, ya, ka, ca, yb, kb, cb, yc, kc, cc, rfl, ia, ib, ic⟩, b3⟩
    clear hTm g0 g1 g2
    have hB := ((bl2 HB2b.out b3).block q (block_lt HK.out.at0)).trans HK.out.at0
    have HE := show Hid (_ ∧ _) from key_stored (.slice ya ka ca) (.slice yb kb cb) (.slice yc kc cc) hB
    have f0 := block_free 0 hB
    have f1 := block_free 1 hB
    have f2 := block_free 2 hB
    have g0 := block_cell (v := .slice y1 k1 c1) 0 hB rfl
    have g1 := block_cell (v := .slice y2 k2 c2) 1 hB rfl
    have g2 := block_cell (v := .slice y3 k3 c3) 2 hB rfl
    have HI := show Hid (IsBytes w3 (.slice ya ka ca) ⟨(bareL N).toArray⟩ ∧ IsBytes w3 (.slice yb kb cb) ⟨(bareL E).toArray⟩ ∧ IsBytes w3 (.slice yc kc cc) ⟨(bareL D).toArray⟩ ∧ BoxN w3 q ∧ Below w.heap.size w w3) from ⟨ia, ib, ic, boxN_sl hB, bl2 HK.out.below (bl2 HB2b.out b3)⟩
    have hka : (bareL N).length = ka := (size_of_list _).symm.trans (isb_size ia)
    have HN := show Hid ((bareL N).length = ka ∧ 62 ≤ ka ∧ ka ≤ 512 ∧ (bareL E).length ≤ 512 ∧ numB (bareL N) ≠ 0 ∧ (bareL D).length ≤ 512) from by
      have h9 := HP.out.1
      have h8 := right_len HP.out
      rw [hka] at h9 h8
      exact ⟨hka, h9.1, h9.2, by omega, h8.2.2, by omega⟩
    have HS := show Hid (∀ W5, W5.heap[q]? = some (.cells #[.slice ya ka ca, .slice yb kb cb, .slice yc kc cc] 25 (0, 0)) → KeptX [q] w3 W5 → Below w.heap.size w W5 ∧ IsBytes W5 (.slice ya ka ca) ⟨(bareL N).toArray⟩ ∧ IsBytes W5 (.slice yb kb cb) ⟨(bareL E).toArray⟩ ∧ IsBytes W5 (.slice yc kc cc) ⟨(bareL D).toArray⟩) from fun W5 hb5 hk5 => by
      have hbx : ∀ p ∈ [q], BoxN w3 p := fun p hp => by
        rw [List.mem_singleton.1 hp]
        exact HI.out.2.2.2.1
      exact ⟨HI.out.2.2.2.2.trans (hk5.below HI.out.2.2.2.2.size (fun p hp => by
        rw [List.mem_singleton.1 hp]
        omega)), HI.out.1.keptN hk5 hbx, HI.out.2.1.keptN hk5 hbx, HI.out.2.2.1.keptN hk5 hbx⟩
    clear hB ia ib ic b3 hka
    go_wp2_with fail
    generalize (((w3.setCell ⟨q, 0, none⟩ (.slice ya ka ca)).setCell ⟨q, 1, none⟩ (.slice yb kb cb)).setCell ⟨q, 2, none⟩ (.slice yc kc cc)) = W5 at *
    clear g0 g1 g2 f0 f1 f2
    obtain ⟨hb5, hk5⟩ := HE.out
    have HJ := show Hid (_ ∧ _) from HS.out W5 hb5 hk5
    have hSe := qSeal_any (.slice y4 k4 c4) b ka W5 (HU.out W5 HJ.out.1).2.2.2.1 (HU.out W5 HJ.out.1).2.2.2.2 HL.out.2.2.2 HN.out.2.1 HN.out.2.2.1
    refine hSe.mono ?_
    rintro e w6 ⟨⟨v6, rfl, i6⟩, b6⟩
    obtain ⟨y6, k6, c6, rfl⟩ := isb_open i6
    have hqb := (b6.block q (block_lt hb5)).trans hb5
    have HC := show Hid (∀ u, Below w6.heap.size w6 u → u.cell? ⟨q, 0, none⟩ = some (.slice ya ka ca) ∧ u.cell? ⟨q, 1, none⟩ = some (.slice yb kb cb) ∧ u.cell? ⟨q, 2, none⟩ = some (.slice yc kc cc) ∧ IsBytes u (.slice ya ka ca) ⟨(bareL N).toArray⟩ ∧ IsBytes u (.slice yb kb cb) ⟨(bareL E).toArray⟩ ∧ IsBytes u (.slice yc kc cc) ⟨(bareL D).toArray⟩ ∧ IsBytes u (.slice y6 k6 c6) ⟨(sealL b ka).toArray⟩ ∧ Below w.heap.size w u) from fun u hu => by
      have h9 := (hu.block q (block_lt hqb)).trans hqb
      exact ⟨block_cell 0 h9 rfl, block_cell 1 h9 rfl, block_cell 2 h9 rfl, HJ.out.2.1.later (bl2 b6 hu), HJ.out.2.2.1.later (bl2 b6 hu), HJ.out.2.2.2.later (bl2 b6 hu), i6.later hu, bl2 HJ.out.1 (bl2 b6 hu)⟩
    have hsl := sealL_length b (n := ka) (by have := HN.out; omega)
    have hX := expV (sealL b ka) (bareL D) (bareL N) (.slice y6 k6 c6) (.slice yc kc cc) (.slice ya ka ca) w6 i6 (HC.out w6 (Below.refl _ _)).2.2.2.2.2.1 (HC.out w6 (Below.refl _ _)).2.2.2.1 (by have := HN.out; omega) (by have := HN.out; omega) (by have := HN.out; omega) HN.out.2.2.2.2.1 (bare_bare N)
    rw [numB_bare, numB_bare, HN.out.1] at hX
    have HPW := show Hid (powL N D b = numB (sealL b ka) ^ numB D % numB N) from by unfold Hid powL; rw [HN.out.1]
    obtain ⟨P, hP⟩ : ∃ P, numB (sealL b ka) ^ numB D % numB N = P := ⟨_, rfl⟩
    rw [hP] at hX HPW
    obtain ⟨g0, g1, g2, _⟩ := HC.out w6 (Below.refl _ _)
    clear hSe hb5 hk5 i6 b6 hqb hP
    go_wp2_with fail
    refine hX.mono ?_
    rintro e w7 ⟨⟨x7, rfl, R, i7, _, n7, l7⟩, b7⟩
    obtain ⟨y7, c7, rfl⟩ := isb_shape i7
    obtain ⟨k7, hk7⟩ : ∃ k, R.length = k := ⟨_, rfl⟩
    rw [hk7] at i7 l7 ⊢
    clear hX g0 g1 g2
    obtain ⟨g0, g1, g2, j1, j2, j3, j4, _⟩ := HC.out w7 b7
    have hO := qOpens_any (.slice ya ka ca) (.slice yb kb cb) (.slice yc kc cc) (.slice y7 k7 c7) (.slice y6 k6 c6) (bareL N) (bareL E) (bareL D) R (sealL b ka) w7 j1 j2 j3 i7 j4 (by have := HN.out; omega) (by have := HN.out; omega) (by have := HN.out; omega) (by have := HN.out; omega) HN.out.2.2.2.2.1 (bare_bare N)
    rw [numB_bare, numB_bare, n7] at hO
    have H7 := show Hid (IsBytes w7 (.slice y7 k7 c7) ⟨R.toArray⟩ ∧ numB R = P ∧ R.length = k7 ∧ k7 ≤ ka ∧ Below w6.heap.size w6 w7) from ⟨i7, n7, hk7, l7, b7⟩
    clear j1 j2 j3 j4 i7 n7 hk7 l7 b7 hsl
    by_cases co : P ^ numB E % numB N = numB (sealL b ka)
    · rw [decide_eq_true co] at hO
      have HO := show Hid (powL N D b ^ numB E % numB N = numB (sealL b (bareL N).length)) from by unfold Hid; rw [HPW.out, HN.out.1]; exact co
      clear co
      go_wp2_with fail
      refine hO.mono ?_
      rintro e w8 ⟨rfl, b8⟩
      clear hO g0 g1 g2
      obtain ⟨g0, g1, g2, _⟩ := HC.out w8 (bl2 H7.out.2.2.2.2 b8)
      have H8 := show Hid (IsBytes w8 (.slice y7 k7 c7) ⟨R.toArray⟩ ∧ Below w.heap.size w w8) from ⟨H7.out.1.later b8, (HC.out w8 (bl2 H7.out.2.2.2.2 b8)).2.2.2.2.2.2.2⟩
      obtain ⟨z, hz⟩ : ∃ z, ka - k7 = z := ⟨_, rfl⟩
      have hzI : (ka : Int) - (k7 : Int) = (z : Int) := by have := H7.out.2.2.2.1; omega
      have hz1 : z ≤ 1000000 := by have := HN.out; omega
      have HZ := show Hid (ka - k7 = z) from hz
      have uw : IntKind.i64.wrap (z : Int) = (z : Int) := by rw [IntKind.wrap_i64]; omega
      clear b8 hz
      go_wp2_with (first
        | (at_make; go_must (refine wpList_make_n R8 w8 rfl _ _ rfl .i64 .i64 _ _ z rfl rfl rfl rfl (by omega) ?_; intro w9 ho9 hb9; have h9 := own_zeros ho9; have i9 := H8.out.1.later hb9))
        | (at_builtin; go_must (refine wpList_append_l rfl _ _ rfl w8.heap.size (.slice (some ⟨w8.heap.size, 0, none⟩) z z) (List.replicate z 0) rfl h9 (.slice y7 k7 c7) R rfl i9 (by have := HN.out; have := H7.out.2.2; have := HZ.out; simp only [List.length_replicate]; omega) hb9.size ?_; intro v10 w10 ho10 hb10)))
      go_ret2
      refine ⟨.inl ⟨HP.out, HD.out, HO.out, _, rfl, ?_⟩, ?_⟩
      · have e1 := zeros_dB (R := R) (n := ka) (by have := H7.out.2.2; omega)
        rw [H7.out.2.2.1, HZ.out, H7.out.2.1] at e1
        rw [HPW.out, HN.out.1, ← e1]
        exact ho10.is
      · exact bl2 H8.out.2 (hb9.trans hb10)
    · rw [decide_eq_false co] at hO
      have HO := show Hid (powL N D b ^ numB E % numB N ≠ numB (sealL b (bareL N).length)) from by unfold Hid; rw [HPW.out, HN.out.1]; exact co
      clear co
      go_wp2_with fail
      refine hO.mono ?_
      rintro e w8 ⟨rfl, b8⟩
      clear hO
      have H8 := show Hid (Below w.heap.size w w8) from (HC.out w8 (bl2 H7.out.2.2.2.2 b8)).2.2.2.2.2.2.2
      clear b8
      go_wp2_with fail
      go_ret2
      exact ⟨.inr (.inl ⟨HP.out, HD.out, HO.out, rfl⟩), H8.out⟩
  · rw [decide_eq_false cp] at hRt
    have HD := show Hid (¬ (rightP N E D ∧ numB D ≠ 0)) from fun h => cp h.1
    clear cp
    go_enter Tryd.func16, Tryd.ntmps16
    go_wp2_with fail
    refine hRt.mono ?_
    rintro e w2 ⟨rfl, b2⟩
    clear hRt
    have HF := show Hid (Below w.heap.size w w2) from bl2 HK.out.below b2
    clear b2
    go_wp2_with fail
    go_ret2
    exact ⟨.inr (.inr ⟨HD.out, rfl⟩), HF.out⟩
end Go.Proofs.YtpcmpeeflnlkpaaDoor

namespace Go.Proofs.YtpcmpeeflnlkpaaDoor
open Go.RowKit Ch
set_option maxRecDepth 100000

theorem len_of {R : List UInt8} {n : Nat} (hb : bareL R = R) (hn : 0 < n) (h1 : 256 ^ (n - 1) ≤ numB R) (h2 : numB R < 256 ^ n) : R.length = n := by
  have a2 := numB_lt R
  have hR : R ≠ [] := by
    intro h0
    subst h0
    have h3 : numB [] = 0 := rfl
    have h4 : 0 < 256 ^ (n - 1) := Nat.pow_pos (by decide)
    omega
  have b2 := numB_ge hb hR
  have l2 : 0 < R.length := List.length_pos_iff.2 hR
  have c1 := pow_between hn h1 a2
  have c2 := pow_between l2 b2 h2
  omega
/-- What holds of such a pair. -/
def Pair (p z n : Nat) : Prop := (3 ≤ p ∧ 3 ≤ z ∧ p ≠ z) ∧ 256 ^ (n - 1) ≤ p * z ∧ p * z < 256 ^ n ∧ 62 ≤ n ∧ n ≤ 512 ∧ Nat.gcd (65537 % lcmN (p - 1) (z - 1)) (lcmN (p - 1) (z - 1)) = 1 ∧ p * z % 2 = 1 ∧ lcmN (p - 1) (z - 1) < p * z ∧ 65537 < p * z
instance (p z n : Nat) : Decidable (Pair p z n) := by unfold Pair; infer_instance
theorem pair_0 : Pair c_256_189 c_255_19 64 := by decide +kernel
theorem pair_1 : Pair c_256_357 c_255_31 64 := by decide +kernel
theorem pair_2 : Pair c_256_435 c_255_19 64 := by decide +kernel
theorem pair_3 : Pair c_512_569 c_511_187 128 := by decide +kernel
theorem key_good {p z n : Nat} {e : Ending} {w' : World} (hP : Pair p z n) (h : MakeSays p z 65537 [1, 0, 1] e w') :
    ∃ v1 v2 v3, e = .returned (.tuple #[.agg #[v1, v2, v3], .int .i64 0]) ∧ MakeOk p z 65537 [1, 0, 1] w' v1 v2 v3 := by
  obtain ⟨h3, n1, n2, n3, n4, hg, ho, hL, h6⟩ := hP
  have hlen : ∀ R : List UInt8, bareL R = R → numB R = p * z → R.length = n := fun R hb hn => len_of hb (by omega) (by rw [hn]; exact n1) (by rw [hn]; exact n2)
  rcases h with ⟨h, _⟩ | ⟨_, ⟨R, hb, hn, hl⟩, _⟩ | ⟨_, _, h, _⟩ | ⟨_, ⟨R, D, K, hb, hn, hl, _, hD, hK, _, hr⟩, _⟩ | h
  · omega
  · have := hlen R hb hn
    omega
  · exact absurd hg h
  · refine absurd ?_ hr
    have he : bareL ([1, 0, 1] : List UInt8) = [1, 0, 1] := rfl
    have h65 : numB ([1, 0, 1] : List UInt8) = 65537 := rfl
    refine ⟨by rw [hb]; exact hl, by rw [hn]; exact ho, by rw [he, h65], by rw [he, h65]; decide, by rw [he, h65, hn]; exact h6, by rw [hD, hn]; omega⟩
  · exact h
end Go.Proofs.YtpcmpeeflnlkpaaDoor

namespace Go.Proofs.YtpcmpeeflnlkpaaDoor
open Go.RowKit Ch
set_option maxRecDepth 100000

def keyP : Nat → Nat
  | 1 => c_256_357
  | 2 => c_256_435
  | 3 => c_512_569
  | _ => c_256_189
def keyQ : Nat → Nat
  | 1 => c_255_31
  | 3 => c_511_187
  | _ => c_255_19
def keyN : Nat → Nat
  | 3 => 128
  | _ => 64
theorem pair_any : ∀ j, j < 4 → Pair (keyP j) (keyQ j) (keyN j)
  | 0, _ => pair_0
  | 1, _ => pair_1
  | 2, _ => pair_2
  | 3, _ => pair_3
  | n + 4, h => absurd h (by omega)
theorem qrPrimes_any : ∀ (j : Nat) (w : World), j < 4 → Calls Tryd.prog 33 #[.int .i64 (j : Int)] w fun e w' => (∃ x y, e = .returned (.tuple #[x, y]) ∧ IsP w' x (keyP j) ∧ IsP w' y (keyQ j)) ∧ Below w.heap.size w w'
  | 0, w, _ => qrPrimes_0 w
  | 1, w, _ => qrPrimes_1 w
  | 2, w, _ => qrPrimes_2 w
  | 3, w, _ => qrPrimes_3 w
  | n + 4, _, h => absurd h (by omega)
theorem pair_small {p z n : Nat} (h : Pair p z n) (hn : n ≤ 128) : p < 256 ^ 128 ∧ z < 256 ^ 128 := by
  obtain ⟨⟨h1, h2, _⟩, _, h3, _⟩ := h
  have h4 : 256 ^ n ≤ 256 ^ 128 := Nat.pow_le_pow_right (by decide) hn
  generalize 256 ^ 128 = X at *
  have a : p * 1 ≤ p * z := Nat.mul_le_mul_left p (by omega)
  have b : 1 * z ≤ p * z := Nat.mul_le_mul_right z (by omega)
  omega
theorem keyN_le : ∀ j, keyN j ≤ 128 := fun j => by unfold keyN; split <;> decide
theorem MakeOk.kept {p z ee : Nat} {E : List UInt8} {w w' : World} {v1 v2 v3 : Value} {ps : List Nat} (h : MakeOk p z ee E w v1 v2 v3) (hk : KeptX ps w w') (hb : ∀ x ∈ ps, BoxN w x) : MakeOk p z ee E w' v1 v2 v3 := by
  obtain ⟨h1, R, D, K, a, b, c, h2⟩ := h
  exact ⟨h1, R, D, K, a.keptN hk hb, b.keptN hk hb, c.keptN hk hb, h2⟩
theorem MakeOk.later {p z ee : Nat} {E : List UInt8} {w w' : World} {v1 v2 v3 : Value} (h : MakeOk p z ee E w v1 v2 v3) (hb : Below w.heap.size w w') : MakeOk p z ee E w' v1 v2 v3 := by
  obtain ⟨h1, R, D, K, a, b, c, h2⟩ := h
  exact ⟨h1, R, D, K, a.later hb, b.later hb, c.later hb, h2⟩
/-- Which of the four. -/
def keyAt (i : Int) : Nat := ((i.tmod 4 + 4).tmod 4).toNat
set_option maxHeartbeats 8000000 in
theorem lqKey_any (i : Int) (w : World) :
    Calls Tryd.prog 15 #[.int .i64 i] w fun e w' => (∃ v1 v2 v3, e = .returned (.tuple #[.agg #[v1, v2, v3], .bool true]) ∧ MakeOk (keyP (keyAt i)) (keyQ (keyAt i)) 65537 [1, 0, 1] w' v1 v2 v3) ∧ Below w.heap.size w w' := by
  obtain ⟨r, hr⟩ : ∃ r, i.tmod 4 = r := ⟨_, rfl⟩
  have hr4 : -4 < r ∧ r < 4 := by
    have h1 := Int.natAbs_tmod i 4
    have h2 : (i.tmod 4).natAbs < 4 := by
      rw [h1]
      exact Nat.mod_lt _ (by decide)
    rw [hr] at h2
    omega
  obtain ⟨j, hj⟩ : ∃ j, keyAt i = j := ⟨_, rfl⟩
  have hj2 : (r + 4).tmod 4 = (j : Int) := by
    rw [← hj]
    unfold keyAt
    rw [hr, Int.tmod_eq_emod_of_nonneg (by omega)]
    omega
  have hj4 : j < 4 := by
    rw [Int.tmod_eq_emod_of_nonneg (by omega)] at hj2
    omega
  have wr4 : IntKind.i64.wrap (r + 4) = r + 4 := by rw [IntKind.wrap_i64]; omega
  have kb := keyBox w (.slice none 0 0) (.slice none 0 0) (.slice none 0 0)
  obtain ⟨q, hq⟩ : ∃ q, w.heap.size = q := ⟨_, rfl⟩
  obtain ⟨W1, hW1⟩ : ∃ W, w.alloc (.cells #[.slice none 0 0, .slice none 0 0, .slice none 0 0] 25) = W := ⟨_, rfl⟩
  rw [hW1, hq] at kb
  have HK := show Hid (KeyBox w W1 q (.slice none 0 0) (.slice none 0 0) (.slice none 0 0)) from kb
  have hPr := qrPrimes_any j W1 hj4
  have HJ := show Hid (Pair (keyP j) (keyQ j) (keyN j) ∧ keyP j < 256 ^ 128 ∧ keyQ j < 256 ^ 128) from ⟨pair_any j hj4, pair_small (pair_any j hj4) (keyN_le j)⟩
  rw [hj]
  generalize keyP j = P at *
  generalize keyQ j = Q at *
  clear hj kb
  go_enter Tryd.func15, Tryd.ntmps15
  go_wp2_with fail
  refine hPr.mono ?_
  rintro e w2 ⟨⟨x, y, rfl, ⟨A, ia, ba, na⟩, ⟨B, ib, bb, nb⟩⟩, b2⟩
  clear hPr
  obtain ⟨ya, ka, ca, rfl⟩ := isb_open ia
  obtain ⟨yb, kb, cb, rfl⟩ := isb_open ib
  obtain ⟨W3, hW3⟩ : ∃ W, w2.alloc (.cells #[.int .u8 1, .int .u8 0, .int .u8 1] 5) = W := ⟨_, rfl⟩
  have b3 : Below w2.heap.size w2 W3 := by rw [← hW3]; exact alB _ _
  have i3 : IsBytes W3 (.slice (some ⟨w2.heap.size, 0, none⟩) 3 3) ⟨([1, 0, 1] : List UInt8).toArray⟩ := by rw [← hW3]; exact litM w2 ⟨#[1, 0, 1]⟩ _ _ rfl (show (3 : Nat) ≤ maxLen by unfold maxLen; decide)
  have hMk := qMake_any A B [1, 0, 1] (.slice ya ka ca) (.slice yb kb cb) (.slice (some ⟨w2.heap.size, 0, none⟩) 3 3) W3 (ia.later b3) (ib.later b3) i3 (Nat.le_trans (numB_pow ba (by rw [na]; exact HJ.out.2.1)) (by decide)) (Nat.le_trans (numB_pow bb (by rw [nb]; exact HJ.out.2.2)) (by decide)) (by decide)
  rw [na, nb, show numB ([1, 0, 1] : List UInt8) = 65537 from rfl] at hMk
  have HB3 := show Hid (Below W1.heap.size W1 W3) from bl2 b2 b3
  clear b2 b3 i3 ia ib ba bb na nb
  go_wp2_with fail
  refine hMk.mono ?_
  rintro e w4 ⟨hs, b4⟩
  obtain ⟨v1, v2, v3, rfl, hok⟩ := key_good HJ.out.1 hs
  clear hMk hs
  have hok2 := show Hid (MakeOk P Q 65537 [1, 0, 1] w4 v1 v2 v3 ∧ Below W1.heap.size W1 w4) from ⟨hok, bl2 HB3.out b4⟩
  obtain ⟨_, _, _, _, j1, j2, j3, _⟩ := hok
  obtain ⟨y1, k1, c1, rfl⟩ := isb_open j1
  obtain ⟨y2, k2, c2, rfl⟩ := isb_open j2
  obtain ⟨y3, k3, c3, rfl⟩ := isb_open j3
  clear j1 j2 j3 b4
  have hB := (hok2.out.2.block q (block_lt HK.out.at0)).trans HK.out.at0
  have kr := keyBox w4 (.slice y1 k1 c1) (.slice y2 k2 c2) (.slice y3 k3 c3)
  obtain ⟨g4, hg4⟩ : ∃ g, w4.heap.size = g := ⟨_, rfl⟩
  obtain ⟨W5, hW5⟩ : ∃ W, w4.alloc (.cells #[.slice y1 k1 c1, .slice y2 k2 c2, .slice y3 k3 c3] 25) = W := ⟨_, rfl⟩
  rw [hW5, hg4] at kr
  obtain ⟨m0, m1, m2⟩ := kr.cells (Below.refl _ W5)
  have hB5 := (kr.below.block q (block_lt hB)).trans hB
  have f0 := block_free 0 hB5
  have f1 := block_free 1 hB5
  have f2 := block_free 2 hB5
  have g0 := block_cell (v := .slice none 0 0) 0 hB5 rfl
  have g1 := block_cell (v := .slice none 0 0) 1 hB5 rfl
  have g2 := block_cell (v := .slice none 0 0) 2 hB5 rfl
  have HE := show Hid (_ ∧ _) from key_stored (.slice y1 k1 c1) (.slice y2 k2 c2) (.slice y3 k3 c3) hB5
  have HI := show Hid (MakeOk P Q 65537 [1, 0, 1] W5 (.slice y1 k1 c1) (.slice y2 k2 c2) (.slice y3 k3 c3) ∧ BoxN W5 q ∧ Below w.heap.size w W5) from ⟨hok2.out.1.later kr.below, boxN_nil hB5, bl2 HK.out.below (bl2 hok2.out.2 kr.below)⟩
  clear kr hB hB5
  go_wp2_with fail
  generalize (((W5.setCell ⟨q, 0, none⟩ (.slice y1 k1 c1)).setCell ⟨q, 1, none⟩ (.slice y2 k2 c2)).setCell ⟨q, 2, none⟩ (.slice y3 k3 c3)) = W6 at *
  obtain ⟨hb6, hk6⟩ := HE.out
  have q0 := block_cell (v := .slice y1 k1 c1) 0 hb6 rfl
  have q1 := block_cell (v := .slice y2 k2 c2) 1 hb6 rfl
  have q2 := block_cell (v := .slice y3 k3 c3) 2 hb6 rfl
  have hbx : ∀ p ∈ [q], BoxN W5 p := fun p hp => by
    rw [List.mem_singleton.1 hp]
    exact HI.out.2.1
  have hF : Below w.heap.size w W6 := HI.out.2.2.trans (hk6.below HI.out.2.2.size (fun p hp => by
    rw [List.mem_singleton.1 hp]
    omega))
  refine bodyPost_ret (v := .tuple #[.agg #[.slice y1 k1 c1, .slice y2 k2 c2, .slice y3 k3 c3], .bool true]) (by simp [results, Tryd.results15, go_sem, q0, q1, q2]) rfl ⟨⟨_, _, _, rfl, HI.out.1.kept hk6 hbx⟩, hF⟩
end Go.Proofs.YtpcmpeeflnlkpaaDoor
