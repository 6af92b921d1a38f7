/-
  
  
  
  
-/
import Derived.Test.YtpcmpeeflnlkpaaGreatDoorQTrimEtc
import Derived.Test.YtpcmpeeflnlkpaaGreatDoorNRSubEtc
/-
  rsa.Sign.
-/
namespace Go.Proofs.YtpcmpeeflnlkpaaGreatDoor
open Go.RowKit Ch
set_option maxRecDepth 100000

theorem numB_zeros (k : Nat) (R : List UInt8) : numB (List.replicate k 0 ++ R) = numB R := by
  induction k with
  | zero => rfl
  | succ k ih =>
    rw [List.replicate_succ, List.cons_append, numB_cons, ih]
    simp
theorem zeros_dB {R : List UInt8} {n : Nat} (h : R.length ≤ n) : List.replicate (n - R.length) 0 ++ R = dB (numB R) n := by
  refine numB_inj_len n _ _ (by simp; omega) (dB_length _ _) ?_
  rw [numB_zeros, numB_dB, Nat.mod_eq_of_lt (Nat.lt_of_lt_of_le (numB_lt R) (Nat.pow_le_pow_right (by decide) h))]
theorem own_zeros {base : Nat} {w : World} {v : Value} {n : Nat} (h : w.ownsRow base 5 1 v (List.replicate n 0).length (kc .u8 (List.replicate n 0))) : OwnL base w v (List.replicate n 0) := by
  unfold OwnL
  simpa [Lib.byteCells, kc] using h
/-- The number that a signature is. -/
def powL (N D b : List UInt8) : Nat := numB (sealL b (bareL N).length) ^ numB D % numB N
/-- What Sign answers. -/
def SignSays (N E D b : List UInt8) (e : Ending) (w' : World) : Prop :=
  (rightP N E D ∧ numB D ≠ 0 ∧ powL N D b ^ numB E % numB N = numB (sealL b (bareL N).length) ∧ ∃ x, e = .returned (.tuple #[x, .int .i64 0]) ∧ IsBytes w' x ⟨(dB (powL N D b) (bareL N).length).toArray⟩) ∨
  (rightP N E D ∧ numB D ≠ 0 ∧ powL N D b ^ numB E % numB N ≠ numB (sealL b (bareL N).length) ∧ e = .returned (.tuple #[.slice none 0 0, .int .i64 22])) ∨
  (¬ (rightP N E D ∧ numB D ≠ 0) ∧ e = .returned (.tuple #[.slice none 0 0, .int .i64 2]))
set_option maxHeartbeats 8000000 in
theorem qSign_any (v1 v2 v3 vb : Value) (N E D b : List UInt8) (w : World) (h1 : IsBytes w v1 ⟨N.toArray⟩) (h2 : IsBytes w v2 ⟨E.toArray⟩) (h3 : IsBytes w v3 ⟨D.toArray⟩) (h4 : IsBytes w vb ⟨b.toArray⟩) (hK : KTab w)
    (lN : N.length ≤ 900000) (lE : E.length ≤ 900000) (lD : D.length ≤ 900000) (lb : b.length ≤ 900000) :
    Calls Tryz.prog 9 #[.agg #[v1, v2, v3], vb] w fun e w' => SignSays N E D b e w' ∧ Below w.heap.size w w' := by
  obtain ⟨y1, k1, c1, rfl⟩ := isb_open h1
  obtain ⟨y2, k2, c2, rfl⟩ := isb_open h2
  obtain ⟨y3, k3, c3, rfl⟩ := isb_open h3
  obtain ⟨y4, k4, c4, rfl⟩ := isb_open h4
  have kb := keyBox w (.slice y1 k1 c1) (.slice y2 k2 c2) (.slice y3 k3 c3)
  obtain ⟨q, hq⟩ : ∃ q, w.heap.size = q := ⟨_, rfl⟩
  obtain ⟨W1, hW1⟩ : ∃ W, w.alloc (.cells #[.slice y1 k1 c1, .slice y2 k2 c2, .slice y3 k3 c3] 25) = W := ⟨_, rfl⟩
  rw [hW1, hq] at kb
  have hRt := rightV (.slice y1 k1 c1) (.slice y2 k2 c2) (.slice y3 k3 c3) N E D W1 (h1.later kb.below) (h2.later kb.below) (h3.later kb.below) (by omega) (by omega) (by omega)
  have HK := show Hid (KeyBox w W1 q (.slice y1 k1 c1) (.slice y2 k2 c2) (.slice y3 k3 c3)) from kb
  have HU := show Hid (∀ u, Below w.heap.size w u → IsBytes u (.slice y1 k1 c1) ⟨N.toArray⟩ ∧ IsBytes u (.slice y2 k2 c2) ⟨E.toArray⟩ ∧ IsBytes u (.slice y3 k3 c3) ⟨D.toArray⟩ ∧ IsBytes u (.slice y4 k4 c4) ⟨b.toArray⟩ ∧ KTab u) from fun u hu =>
    ⟨h1.later hu, h2.later hu, h3.later hu, h4.later hu, hK.later hu⟩
  have HL := show Hid (N.length ≤ 900000 ∧ E.length ≤ 900000 ∧ D.length ≤ 900000 ∧ b.length ≤ 900000) from ⟨lN, lE, lD, lb⟩
  obtain ⟨g0, g1, g2⟩ := kb.cells (Below.refl _ W1)
  clear kb h1 h2 h3 h4 hK lN lE lD lb
  by_cases cp : rightP N E D
  · rw [decide_eq_true cp] at hRt
    have HP := show Hid (rightP N E D) from cp
    clear cp
    go_enter Tryz.func9, Tryz.ntmps9
    go_wp2_with fail
    refine hRt.mono ?_
    rintro e w2 ⟨rfl, b2⟩
    clear hRt g0 g1 g2
    obtain ⟨g0, g1, g2⟩ := HK.out.cells b2
    have HB2 := show Hid (Below W1.heap.size W1 w2) from b2
    have hw2 := bl2 HK.out.below b2
    have hPr := qPrivate_any (.slice y1 k1 c1) (.slice y2 k2 c2) (.slice y3 k3 c3) N E D w2 (HU.out w2 hw2).1 (HU.out w2 hw2).2.1 (HU.out w2 hw2).2.2.1 (by have := HL.out.2.2.1; omega)
    clear b2 hw2
    by_cases cd : numB D = 0
    · rw [decide_eq_false (fun h => h cd)] at hPr
      have HD := show Hid (¬ (rightP N E D ∧ numB D ≠ 0)) from fun h => h.2 cd
      clear cd
      go_wp2_with fail
      refine hPr.mono ?_
      rintro e w3 ⟨rfl, b3⟩
      clear hPr
      have HF := show Hid (Below w.heap.size w w3) from bl2 HK.out.below (bl2 HB2.out b3)
      clear b3
      go_wp2_with fail
      go_ret2
      exact ⟨.inr (.inr ⟨HD.out, rfl⟩), HF.out⟩
    rw [decide_eq_true (show numB D ≠ 0 from cd)] at hPr
    have HD := show Hid (numB D ≠ 0) from cd
    clear cd
    go_wp2_with fail
    refine hPr.mono ?_
    rintro e w2b ⟨rfl, b2b⟩
    clear hPr g0 g1 g2
    obtain ⟨g0, g1, g2⟩ := HK.out.cells (bl2 HB2.out b2b)
    have HB2b := show Hid (Below W1.heap.size W1 w2b) from bl2 HB2.out b2b
    have hw2 := bl2 HK.out.below HB2b.out
    have hTm := qTrimmed_any (.slice y1 k1 c1) (.slice y2 k2 c2) (.slice y3 k3 c3) N E D w2b (HU.out w2b hw2).1 (HU.out w2b hw2).2.1 (HU.out w2b hw2).2.2.1 HL.out.1 HL.out.2.1 HL.out.2.2.1
    clear b2b hw2
    go_wp2_with fail
    refine hTm.mono ?_
    rintro e w3 ⟨⟨v, rfl, ya, ka, ca, yb, kb, cb, yc, kc, cc, rfl, ia, ib, ic⟩, b3⟩
    clear hTm g0 g1 g2
    have hB := ((bl2 HB2b.out b3).block q (block_lt HK.out.at0)).trans HK.out.at0
    have HE := show Hid (_ ∧ _) from key_stored (.slice ya ka ca) (.slice yb kb cb) (.slice yc kc cc) hB
    have f0 := block_free 0 hB
    have f1 := block_free 1 hB
    have f2 := block_free 2 hB
    have g0 := block_cell (v := .slice y1 k1 c1) 0 hB rfl
    have g1 := block_cell (v := .slice y2 k2 c2) 1 hB rfl
    have g2 := block_cell (v := .slice y3 k3 c3) 2 hB rfl
    have HI := show Hid (IsBytes w3 (.slice ya ka ca) ⟨(bareL N).toArray⟩ ∧ IsBytes w3 (.slice yb kb cb) ⟨(bareL E).toArray⟩ ∧ IsBytes w3 (.slice yc kc cc) ⟨(bareL D).toArray⟩ ∧ BoxN w3 q ∧ Below w.heap.size w w3) from ⟨ia, ib, ic, boxN_sl hB, bl2 HK.out.below (bl2 HB2b.out b3)⟩
    have hka : (bareL N).length = ka := (size_of_list _).symm.trans (isb_size ia)
    have HN := show Hid ((bareL N).length = ka ∧ 62 ≤ ka ∧ ka ≤ 512 ∧ (bareL E).length ≤ 512 ∧ numB (bareL N) ≠ 0 ∧ (bareL D).length ≤ 512) from by
      have h9 := HP.out.1
      have h8 := right_len HP.out
      rw [hka] at h9 h8
      exact ⟨hka, h9.1, h9.2, by omega, h8.2.2, by omega⟩
    have HS := show Hid (∀ W5, W5.heap[q]? = some (.cells #[.slice ya ka ca, .slice yb kb cb, .slice yc kc cc] 25 (0, 0)) → KeptX [q] w3 W5 → Below w.heap.size w W5 ∧ IsBytes W5 (.slice ya ka ca) ⟨(bareL N).toArray⟩ ∧ IsBytes W5 (.slice yb kb cb) ⟨(bareL E).toArray⟩ ∧ IsBytes W5 (.slice yc kc cc) ⟨(bareL D).toArray⟩) from fun W5 hb5 hk5 => by
      have hbx : ∀ p ∈ [q], BoxN w3 p := fun p hp => by
        rw [List.mem_singleton.1 hp]
        exact HI.out.2.2.2.1
      exact ⟨HI.out.2.2.2.2.trans (hk5.below HI.out.2.2.2.2.size (fun p hp => by
        rw [List.mem_singleton.1 hp]
        omega)), HI.out.1.keptN hk5 hbx, HI.out.2.1.keptN hk5 hbx, HI.out.2.2.1.keptN hk5 hbx⟩
    clear hB ia ib ic b3 hka
    go_wp2_with fail
    generalize (((w3.setCell ⟨q, 0, none⟩ (.slice ya ka ca)).setCell ⟨q, 1, none⟩ (.slice yb kb cb)).setCell ⟨q, 2, none⟩ (.slice yc kc cc)) = W5 at *
    clear g0 g1 g2 f0 f1 f2
    obtain ⟨hb5, hk5⟩ := HE.out
    have HJ := show Hid (_ ∧ _) from HS.out W5 hb5 hk5
    have hSe := qSeal_any (.slice y4 k4 c4) b ka W5 (HU.out W5 HJ.out.1).2.2.2.1 (HU.out W5 HJ.out.1).2.2.2.2 HL.out.2.2.2 HN.out.2.1 HN.out.2.2.1
    refine hSe.mono ?_
    rintro e w6 ⟨⟨v6, rfl, i6⟩, b6⟩
    obtain ⟨y6, k6, c6, rfl⟩ := isb_open i6
    have hqb := (b6.block q (block_lt hb5)).trans hb5
    have HC := show Hid (∀ u, Below w6.heap.size w6 u → u.cell? ⟨q, 0, none⟩ = some (.slice ya ka ca) ∧ u.cell? ⟨q, 1, none⟩ = some (.slice yb kb cb) ∧ u.cell? ⟨q, 2, none⟩ = some (.slice yc kc cc) ∧ IsBytes u (.slice ya ka ca) ⟨(bareL N).toArray⟩ ∧ IsBytes u (.slice yb kb cb) ⟨(bareL E).toArray⟩ ∧ IsBytes u (.slice yc kc cc) ⟨(bareL D).toArray⟩ ∧ IsBytes u (.slice y6 k6 c6) ⟨(sealL b ka).toArray⟩ ∧ Below w.heap.size w u) from fun u hu => by
      have h9 := (hu.block q (block_lt hqb)).trans hqb
      exact ⟨block_cell 0 h9 rfl, block_cell 1 h9 rfl, block_cell 2 h9 rfl, HJ.out.2.1.later (bl2 b6 hu), HJ.out.2.2.1.later (bl2 b6 hu), HJ.out.2.2.2.later (bl2 b6 hu), i6.later hu, bl2 HJ.out.1 (bl2 b6 hu)⟩
    have hsl := sealL_length b (n := ka) (by have := HN.out; omega)
    have hX := expV (sealL b ka) (bareL D) (bareL N) (.slice y6 k6 c6) (.slice yc kc cc) (.slice ya ka ca) w6 i6 (HC.out w6 (Below.refl _ _)).2.2.2.2.2.1 (HC.out w6 (Below.refl _ _)).2.2.2.1 (by have := HN.out; omega) (by have := HN.out; omega) (by have := HN.out; omega) HN.out.2.2.2.2.1 (bare_bare N)
    rw [numB_bare, numB_bare, HN.out.1] at hX
    have HPW := show Hid (powL N D b = numB (sealL b ka) ^ numB D % numB N) from by unfold Hid powL; rw [HN.out.1]
    obtain ⟨P, hP⟩ : ∃ P, numB (sealL b ka) ^ numB D % numB N = P := ⟨_, rfl⟩
    rw [hP] at hX HPW
    obtain ⟨g0, g1, g2, _⟩ := HC.out w6 (Below.refl _ _)
    clear hSe hb5 hk5 i6 b6 hqb hP
    go_wp2_with fail
    refine hX.mono ?_
    rintro e w7 ⟨⟨x7, rfl, R, i7, _, n7, l7⟩, b7⟩
    obtain ⟨y7, c7, rfl⟩ := isb_shape i7
    obtain ⟨k7, hk7⟩ : ∃ k, R.length = k := ⟨_, rfl⟩
    rw [hk7] at i7 l7 ⊢
    clear hX g0 g1 g2
    obtain ⟨g0, g1, g2, j1, j2, j3, j4, _⟩ := HC.out w7 b7
    have hO := qOpens_any (.slice ya ka ca) (.slice yb kb cb) (.slice yc kc cc) (.slice y7 k7 c7) (.slice y6 k6 c6) (bareL N) (bareL E) (bareL D) R (sealL b ka) w7 j1 j2 j3 i7 j4 (by have := HN.out; omega) (by have := HN.out; omega) (by have := HN.out; omega) (by have := HN.out; omega) HN.out.2.2.2.2.1 (bare_bare N)
    rw [numB_bare, numB_bare, n7] at hO
    have H7 := show Hid (IsBytes w7 (.slice y7 k7 c7) ⟨R.toArray⟩ ∧ numB R = P ∧ R.length = k7 ∧ k7 ≤ ka ∧ Below w6.heap.size w6 w7) from ⟨i7, n7, hk7, l7, b7⟩
    clear j1 j2 j3 j4 i7 n7 hk7 l7 b7 hsl
    by_cases co : P ^ numB E % numB N = numB (sealL b ka)
    · rw [decide_eq_true co] at hO
      have HO := show Hid (powL N D b ^ numB E % numB N = numB (sealL b (bareL N).length)) from by unfold Hid; rw [HPW.out, HN.out.1]; exact co
      clear co
      go_wp2_with fail
      refine hO.mono ?_
      rintro e w8 ⟨rfl, b8⟩
      clear hO g0 g1 g2
      obtain ⟨g0, g1, g2, _⟩ := HC.out w8 (bl2 H7.out.2.2.2.2 b8)
      have H8 := show Hid (IsBytes w8 (.slice y7 k7 c7) ⟨R.toArray⟩ ∧ Below w.heap.size w w8) from ⟨H7.out.1.later b8, (HC.out w8 (bl2 H7.out.2.2.2.2 b8)).2.2.2.2.2.2.2⟩
      obtain ⟨z, hz⟩ : ∃ z, ka - k7 = z := ⟨_, rfl⟩
      have hzI : (ka : Int) - (k7 : Int) = (z : Int) := by have := H7.out.2.2.2.1; omega
      have hz1 : z ≤ 1000000 := by have := HN.out; omega
      have HZ := show Hid (ka - k7 = z) from hz
      have uw : IntKind.i64.wrap (z : Int) = (z : Int) := by rw [IntKind.wrap_i64]; omega
      clear b8 hz
      go_wp2_with (first
        | (at_make; go_must (refine wpList_make_n R8 w8 rfl _ _ rfl .i64 .i64 _ _ z rfl rfl rfl rfl (by omega) ?_; intro w9 ho9 hb9; have h9 := own_zeros ho9; have i9 := H8.out.1.later hb9))
        | (at_builtin; go_must (refine wpList_append_l rfl _ _ rfl w8.heap.size (.slice (some ⟨w8.heap.size, 0, none⟩) z z) (List.replicate z 0) rfl h9 (.slice y7 k7 c7) R rfl i9 (by have := HN.out; have := H7.out.2.2; have := HZ.out; simp only [List.length_replicate]; omega) hb9.size ?_; intro v10 w10 ho10 hb10)))
      go_ret2
      refine ⟨.inl ⟨HP.out, HD.out, HO.out, _, rfl, ?_⟩, ?_⟩
      · have e1 := zeros_dB (R := R) (n := ka) (by have := H7.out.2.2; omega)
        rw [H7.out.2.2.1, HZ.out, H7.out.2.1] at e1
        rw [HPW.out, HN.out.1, ← e1]
        exact ho10.is
      · exact bl2 H8.out.2 (hb9.trans hb10)
    · rw [decide_eq_false co] at hO
      have HO := show Hid (powL N D b ^ numB E % numB N ≠ numB (sealL b (bareL N).length)) from by unfold Hid; rw [HPW.out, HN.out.1]; exact co
      clear co
      go_wp2_with fail
      refine hO.mono ?_
      rintro e w8 ⟨rfl, b8⟩
      clear hO
      have H8 := show Hid (Below w.heap.size w w8) from (HC.out w8 (bl2 H7.out.2.2.2.2 b8)).2.2.2.2.2.2.2
      clear b8
      go_wp2_with fail
      go_ret2
      exact ⟨.inr (.inl ⟨HP.out, HD.out, HO.out, rfl⟩), H8.out⟩
  · rw [decide_eq_false cp] at hRt
    have HD := show Hid (¬ (rightP N E D ∧ numB D ≠ 0)) from fun h => cp h.1
    clear cp
    go_enter Tryz.func9, Tryz.ntmps9
    go_wp2_with fail
    refine hRt.mono ?_
    rintro e w2 ⟨rfl, b2⟩
    clear hRt
    have HF := show Hid (Below w.heap.size w w2) from bl2 HK.out.below b2
    clear b2
    go_wp2_with fail
    go_ret2
    exact ⟨.inr (.inr ⟨HD.out, rfl⟩), HF.out⟩
end Go.Proofs.YtpcmpeeflnlkpaaGreatDoor

/-
  The four keys of the laws: what Make answers of the document's primes.
-/
namespace Go.Proofs.YtpcmpeeflnlkpaaGreatDoor
open Go.RowKit Ch
set_option maxRecDepth 100000

theorem len_of {R : List UInt8} {n : Nat} (hb : bareL R = R) (hn : 0 < n) (h1 : 256 ^ (n - 1) ≤ numB R) (h2 : numB R < 256 ^ n) : R.length = n := by
  have a2 := numB_lt R
  have hR : R ≠ [] := by
    intro h0
    subst h0
    have h3 : numB [] = 0 := rfl
    have h4 : 0 < 256 ^ (n - 1) := Nat.pow_pos (by decide)
    omega
  have b2 := numB_ge hb hR
  have l2 : 0 < R.length := List.length_pos_iff.2 hR
  have c1 := pow_between hn h1 a2
  have c2 := pow_between l2 b2 h2
  omega
/-- What holds of such a pair. -/
def Pair (p z n : Nat) : Prop := (3 ≤ p ∧ 3 ≤ z ∧ p ≠ z) ∧ 256 ^ (n - 1) ≤ p * z ∧ p * z < 256 ^ n ∧ 62 ≤ n ∧ n ≤ 512 ∧ Nat.gcd (65537 % lcmN (p - 1) (z - 1)) (lcmN (p - 1) (z - 1)) = 1 ∧ p * z % 2 = 1 ∧ lcmN (p - 1) (z - 1) < p * z ∧ 65537 < p * z
instance (p z n : Nat) : Decidable (Pair p z n) := by unfold Pair; infer_instance
theorem pair_0 : Pair c_256_189 c_255_19 64 := by decide +kernel
theorem pair_1 : Pair c_256_357 c_255_31 64 := by decide +kernel
theorem pair_2 : Pair c_256_435 c_255_19 64 := by decide +kernel
theorem pair_3 : Pair c_512_569 c_511_187 128 := by decide +kernel
theorem key_good {p z n : Nat} {e : Ending} {w' : World} (hP : Pair p z n) (h : MakeSays p z 65537 [1, 0, 1] e w') :
    ∃ v1 v2 v3, e = .returned (.tuple #[.agg #[v1, v2, v3], .int .i64 0]) ∧ MakeOk p z 65537 [1, 0, 1] w' v1 v2 v3 := by
  obtain ⟨h3, n1, n2, n3, n4, hg, ho, hL, h6⟩ := hP
  have hlen : ∀ R : List UInt8, bareL R = R → numB R = p * z → R.length = n := fun R hb hn => len_of hb (by omega) (by rw [hn]; exact n1) (by rw [hn]; exact n2)
  rcases h with ⟨h, _⟩ | ⟨_, ⟨R, hb, hn, hl⟩, _⟩ | ⟨_, _, h, _⟩ | ⟨_, ⟨R, D, K, hb, hn, hl, _, hD, hK, _, hr⟩, _⟩ | h
  · omega
  · have := hlen R hb hn
    omega
  · exact absurd hg h
  · refine absurd ?_ hr
    have he : bareL ([1, 0, 1] : List UInt8) = [1, 0, 1] := rfl
    have h65 : numB ([1, 0, 1] : List UInt8) = 65537 := rfl
    refine ⟨by rw [hb]; exact hl, by rw [hn]; exact ho, by rw [he, h65], by rw [he, h65]; decide, by rw [he, h65, hn]; exact h6, by rw [hD, hn]; omega⟩
  · exact h
end Go.Proofs.YtpcmpeeflnlkpaaGreatDoor

/-
  The laws' key.
-/
namespace Go.Proofs.YtpcmpeeflnlkpaaGreatDoor
open Go.RowKit Ch
set_option maxRecDepth 100000

def keyP : Nat → Nat
  | 1 => c_256_357
  | 2 => c_256_435
  | 3 => c_512_569
  | _ => c_256_189
def keyQ : Nat → Nat
  | 1 => c_255_31
  | 3 => c_511_187
  | _ => c_255_19
def keyN : Nat → Nat
  | 3 => 128
  | _ => 64
theorem pair_any : ∀ j, j < 4 → Pair (keyP j) (keyQ j) (keyN j)
  | 0, _ => pair_0
  | 1, _ => pair_1
  | 2, _ => pair_2
  | 3, _ => pair_3
  | n + 4, h => absurd h (by omega)
theorem qrPrimes_any : ∀ (j : Nat) (w : World), j < 4 → Calls Tryz.prog 20 #[.int .i64 (j : Int)] w fun e w' => (∃ x y, e = .returned (.tuple #[x, y]) ∧ IsP w' x (keyP j) ∧ IsP w' y (keyQ j)) ∧ Below w.heap.size w w'
  | 0, w, _ => qrPrimes_0 w
  | 1, w, _ => qrPrimes_1 w
  | 2, w, _ => qrPrimes_2 w
  | 3, w, _ => qrPrimes_3 w
  | n + 4, _, h => absurd h (by omega)
theorem pair_small {p z n : Nat} (h : Pair p z n) (hn : n ≤ 128) : p < 256 ^ 128 ∧ z < 256 ^ 128 := by
  obtain ⟨⟨h1, h2, _⟩, _, h3, _⟩ := h
  have h4 : 256 ^ n ≤ 256 ^ 128 := Nat.pow_le_pow_right (by decide) hn
  generalize 256 ^ 128 = X at *
  have a : p * 1 ≤ p * z := Nat.mul_le_mul_left p (by omega)
  have b : 1 * z ≤ p * z := Nat.mul_le_mul_right z (by omega)
  omega
theorem keyN_le : ∀ j, keyN j ≤ 128 := fun j => by unfold keyN; split <;> decide
theorem MakeOk.kept {p z ee : Nat} {E : List UInt8} {w w' : World} {v1 v2 v3 : Value} {ps : List Nat} (h : MakeOk p z ee E w v1 v2 v3) (hk : KeptX ps w w') (hb : ∀ x ∈ ps, BoxN w x) : MakeOk p z ee E w' v1 v2 v3 := by
  obtain ⟨h1, R, D, K, a, b, c, h2⟩ := h
  exact ⟨h1, R, D, K, a.keptN hk hb, b.keptN hk hb, c.keptN hk hb, h2⟩
theorem MakeOk.later {p z ee : Nat} {E : List UInt8} {w w' : World} {v1 v2 v3 : Value} (h : MakeOk p z ee E w v1 v2 v3) (hb : Below w.heap.size w w') : MakeOk p z ee E w' v1 v2 v3 := by
  obtain ⟨h1, R, D, K, a, b, c, h2⟩ := h
  exact ⟨h1, R, D, K, a.later hb, b.later hb, c.later hb, h2⟩
/-- Which of the four. -/
def keyAt (i : Int) : Nat := ((i.tmod 4 + 4).tmod 4).toNat
set_option maxHeartbeats 8000000 in
theorem lqKey_any (i : Int) (w : World) :
    Calls Tryz.prog 8 #[.int .i64 i] w fun e w' => (∃ v1 v2 v3, e = .returned (.tuple #[.agg #[v1, v2, v3], .bool true]) ∧ MakeOk (keyP (keyAt i)) (keyQ (keyAt i)) 65537 [1, 0, 1] w' v1 v2 v3) ∧ Below w.heap.size w w' := by
  obtain ⟨r, hr⟩ : ∃ r, i.tmod 4 = r := ⟨_, rfl⟩
  have hr4 : -4 < r ∧ r < 4 := by
    have h1 := Int.natAbs_tmod i 4
    have h2 : (i.tmod 4).natAbs < 4 := by
      rw [h1]
      exact Nat.mod_lt _ (by decide)
    rw [hr] at h2
    omega
  obtain ⟨j, hj⟩ : ∃ j, keyAt i = j := ⟨_, rfl⟩
  have hj2 : (r + 4).tmod 4 = (j : Int) := by
    rw [← hj]
    unfold keyAt
    rw [hr, Int.tmod_eq_emod_of_nonneg (by omega)]
    omega
  have hj4 : j < 4 := by
    rw [Int.tmod_eq_emod_of_nonneg (by omega)] at hj2
    omega
  have wr4 : IntKind.i64.wrap (r + 4) = r + 4 := by rw [IntKind.wrap_i64]; omega
  have kb := keyBox w (.slice none 0 0) (.slice none 0 0) (.slice none 0 0)
  obtain ⟨q, hq⟩ : ∃ q, w.heap.size = q := ⟨_, rfl⟩
  obtain ⟨W1, hW1⟩ : ∃ W, w.alloc (.cells #[.slice none 0 0, .slice none 0 0, .slice none 0 0] 25) = W := ⟨_, rfl⟩
  rw [hW1, hq] at kb
  have HK := show Hid (KeyBox w W1 q (.slice none 0 0) (.slice none 0 0) (.slice none 0 0)) from kb
  have hPr := qrPrimes_any j W1 hj4
  have HJ := show Hid (Pair (keyP j) (keyQ j) (keyN j) ∧ keyP j < 256 ^ 128 ∧ keyQ j < 256 ^ 128) from ⟨pair_any j hj4, pair_small (pair_any j hj4) (keyN_le j)⟩
  rw [hj]
  generalize keyP j = P at *
  generalize keyQ j = Q at *
  clear hj kb
  go_enter Tryz.func8, Tryz.ntmps8
  go_wp2_with fail
  refine hPr.mono ?_
  rintro e w2 ⟨⟨x, y, rfl, ⟨A, ia, ba, na⟩, ⟨B, ib, bb, nb⟩⟩, b2⟩
  clear hPr
  obtain ⟨ya, ka, ca, rfl⟩ := isb_open ia
  obtain ⟨yb, kb, cb, rfl⟩ := isb_open ib
  obtain ⟨W3, hW3⟩ : ∃ W, w2.alloc (.cells #[.int .u8 1, .int .u8 0, .int .u8 1] 5) = W := ⟨_, rfl⟩
  have b3 : Below w2.heap.size w2 W3 := by rw [← hW3]; exact alB _ _
  have i3 : IsBytes W3 (.slice (some ⟨w2.heap.size, 0, none⟩) 3 3) ⟨([1, 0, 1] : List UInt8).toArray⟩ := by rw [← hW3]; exact litM w2 ⟨#[1, 0, 1]⟩ _ _ rfl (show (3 : Nat) ≤ maxLen by unfold maxLen; decide)
  have hMk := qMake_any A B [1, 0, 1] (.slice ya ka ca) (.slice yb kb cb) (.slice (some ⟨w2.heap.size, 0, none⟩) 3 3) W3 (ia.later b3) (ib.later b3) i3 (Nat.le_trans (numB_pow ba (by rw [na]; exact HJ.out.2.1)) (by decide)) (Nat.le_trans (numB_pow bb (by rw [nb]; exact HJ.out.2.2)) (by decide)) (by decide)
  rw [na, nb, show numB ([1, 0, 1] : List UInt8) = 65537 from rfl] at hMk
  have HB3 := show Hid (Below W1.heap.size W1 W3) from bl2 b2 b3
  clear b2 b3 i3 ia ib ba bb na nb
  go_wp2_with fail
  refine hMk.mono ?_
  rintro e w4 ⟨hs, b4⟩
  obtain ⟨v1, v2, v3, rfl, hok⟩ := key_good HJ.out.1 hs
  clear hMk hs
  have hok2 := show Hid (MakeOk P Q 65537 [1, 0, 1] w4 v1 v2 v3 ∧ Below W1.heap.size W1 w4) from ⟨hok, bl2 HB3.out b4⟩
  obtain ⟨_, _, _, _, j1, j2, j3, _⟩ := hok
  obtain ⟨y1, k1, c1, rfl⟩ := isb_open j1
  obtain ⟨y2, k2, c2, rfl⟩ := isb_open j2
  obtain ⟨y3, k3, c3, rfl⟩ := isb_open j3
  clear j1 j2 j3 b4
  have hB := (hok2.out.2.block q (block_lt HK.out.at0)).trans HK.out.at0
  have kr := keyBox w4 (.slice y1 k1 c1) (.slice y2 k2 c2) (.slice y3 k3 c3)
  obtain ⟨g4, hg4⟩ : ∃ g, w4.heap.size = g := ⟨_, rfl⟩
  obtain ⟨W5, hW5⟩ : ∃ W, w4.alloc (.cells #[.slice y1 k1 c1, .slice y2 k2 c2, .slice y3 k3 c3] 25) = W := ⟨_, rfl⟩
  rw [hW5, hg4] at kr
  obtain ⟨m0, m1, m2⟩ := kr.cells (Below.refl _ W5)
  have hB5 := (kr.below.block q (block_lt hB)).trans hB
  have f0 := block_free 0 hB5
  have f1 := block_free 1 hB5
  have f2 := block_free 2 hB5
  have g0 := block_cell (v := .slice none 0 0) 0 hB5 rfl
  have g1 := block_cell (v := .slice none 0 0) 1 hB5 rfl
  have g2 := block_cell (v := .slice none 0 0) 2 hB5 rfl
  have HE := show Hid (_ ∧ _) from key_stored (.slice y1 k1 c1) (.slice y2 k2 c2) (.slice y3 k3 c3) hB5
  have HI := show Hid (MakeOk P Q 65537 [1, 0, 1] W5 (.slice y1 k1 c1) (.slice y2 k2 c2) (.slice y3 k3 c3) ∧ BoxN W5 q ∧ Below w.heap.size w W5) from ⟨hok2.out.1.later kr.below, boxN_nil hB5, bl2 HK.out.below (bl2 hok2.out.2 kr.below)⟩
  clear kr hB hB5
  go_wp2_with fail
  generalize (((W5.setCell ⟨q, 0, none⟩ (.slice y1 k1 c1)).setCell ⟨q, 1, none⟩ (.slice y2 k2 c2)).setCell ⟨q, 2, none⟩ (.slice y3 k3 c3)) = W6 at *
  obtain ⟨hb6, hk6⟩ := HE.out
  have q0 := block_cell (v := .slice y1 k1 c1) 0 hb6 rfl
  have q1 := block_cell (v := .slice y2 k2 c2) 1 hb6 rfl
  have q2 := block_cell (v := .slice y3 k3 c3) 2 hb6 rfl
  have hbx : ∀ p ∈ [q], BoxN W5 p := fun p hp => by
    rw [List.mem_singleton.1 hp]
    exact HI.out.2.1
  have hF : Below w.heap.size w W6 := HI.out.2.2.trans (hk6.below HI.out.2.2.size (fun p hp => by
    rw [List.mem_singleton.1 hp]
    omega))
  refine bodyPost_ret (v := .tuple #[.agg #[.slice y1 k1 c1, .slice y2 k2 c2, .slice y3 k3 c3], .bool true]) (by simp [results, Tryz.results8, go_sem, q0, q1, q2]) rfl ⟨⟨_, _, _, rfl, HI.out.1.kept hk6 hbx⟩, hF⟩
end Go.Proofs.YtpcmpeeflnlkpaaGreatDoor

/-
  Primes, without a library: Pratt's certificates; a power by d and by e below the product of two primes. No program is named here.
-/
namespace Go.Proofs.YtpcmpeeflnlkpaaGreatDoor

/-- A power's rest, for reckoning. -/
def pmod (n : Nat) : Nat → Nat → Nat → Nat
  | 0, _, _ => 1 % n
  | f + 1, a, e => if e = 0 then 1 % n else if e % 2 = 1 then a * pmod n f (a * a % n) (e / 2) % n else pmod n f (a * a % n) (e / 2)
theorem pow_modL (a n e : Nat) : (a % n) ^ e % n = a ^ e % n := (Nat.pow_mod a e n).symm
theorem pmod_eq (n : Nat) : ∀ (f a e : Nat), e < 2 ^ f → pmod n f a e = a ^ e % n
  | 0, a, e, h => by
    obtain rfl : e = 0 := by simpa using h
    rfl
  | f + 1, a, e, h => by
    rw [pmod]
    by_cases h0 : e = 0
    · subst h0
      rw [if_pos rfl, Nat.pow_zero]
    · rw [if_neg h0]
      have hh : e / 2 < 2 ^ f := by rw [Nat.pow_succ] at h; omega
      have ih := pmod_eq n f (a * a % n) (e / 2) hh
      rw [ih, pow_modL]
      have e2 : (a * a) ^ (e / 2) = a ^ (2 * (e / 2)) := by rw [← Nat.pow_two, ← Nat.pow_mul]
      rw [e2]
      by_cases h1 : e % 2 = 1
      · rw [if_pos h1, Nat.mul_mod, Nat.mod_mod, ← Nat.mul_mod, ← Nat.pow_succ', show (2 * (e / 2)).succ = e by omega]
      · rw [if_neg h1, show 2 * (e / 2) = e by omega]
theorem pigeon : ∀ (n : Nat) (f : Nat → Nat), (∀ i, i < n → f i < n) → (∀ i j, i < n → j < n → f i = f j → i = j) → ∀ y, y < n → ∃ i, i < n ∧ f i = y
  | 0, _, _, _, y, hy => absurd hy (Nat.not_lt_zero _)
  | n + 1, f, h1, h2, y, hy => by
    have hm := h1 n (by omega)
    have g1 : ∀ i, i < n → (if f i = n then f n else f i) < n := fun i hi => by
      split
      · rename_i h
        have : f n ≠ n := fun e => by have := h2 i n (by omega) (by omega) (h.trans e.symm); omega
        omega
      · have := h1 i (by omega)
        omega
    have g2 : ∀ i j, i < n → j < n → (if f i = n then f n else f i) = (if f j = n then f n else f j) → i = j := fun i j hi hj h => by
      split at h <;> split at h
      · rename_i a b
        exact h2 i j (by omega) (by omega) (a.trans b.symm)
      · have := h2 n j (by omega) (by omega) h
        omega
      · have := h2 i n (by omega) (by omega) h
        omega
      · exact h2 i j (by omega) (by omega) h
    have ih := pigeon n _ g1 g2
    by_cases hyn : y < n
    · obtain ⟨i, hi, e⟩ := ih y hyn
      split at e
      · exact ⟨n, by omega, e⟩
      · exact ⟨i, by omega, e⟩
    · obtain rfl : y = n := by omega
      by_cases hf : f y = y
      · exact ⟨y, by omega, hf⟩
      · obtain ⟨i, hi, e⟩ := ih (f y) (by omega)
        split at e
        · rename_i h
          exact ⟨i, by omega, h⟩
        · have := h2 i y (by omega) (by omega) e
          omega
/-- A prime. -/
def Pr (p : Nat) : Prop := 1 < p ∧ ∀ d, d ∣ p → d = 1 ∨ d = p
/-- The product of numbers. -/
def prodL : List Nat → Nat
  | [] => 1
  | q :: l => q * prodL l
theorem cover : ∀ (L : List Nat), (∀ q ∈ L, Pr q) → ∀ k, 1 < k → k ∣ prodL L → ∃ q ∈ L, q ∣ k
  | [], _, k, h1, h2 => by
    have := Nat.le_of_dvd (by decide) h2
    simp only [prodL] at this
    omega
  | q :: L, hL, k, h1, h2 => by
    have hq := hL q (List.mem_cons_self ..)
    rcases hq.2 (Nat.gcd q k) (Nat.gcd_dvd_left q k) with h3 | h3
    · have h4 : k ∣ prodL L := Nat.Coprime.dvd_of_dvd_mul_left (by rw [Nat.coprime_iff_gcd_eq_one, Nat.gcd_comm]; exact h3) h2
      obtain ⟨r, hr, hd⟩ := cover L (fun r hr => hL r (List.mem_cons_of_mem _ hr)) k h1 h4
      exact ⟨r, List.mem_cons_of_mem _ hr, hd⟩
    · exact ⟨q, List.mem_cons_self .., h3 ▸ Nat.gcd_dvd_right q k⟩
theorem pow_one_mod {g p : Nat} (h : g % p = 1 % p) (k : Nat) : g ^ k % p = 1 % p := by
  rw [Nat.pow_mod, h, ← Nat.pow_mod, Nat.one_pow]
theorem pow_of_dvd {g p d k : Nat} (h : g ^ d % p = 1 % p) (hd : d ∣ k) : g ^ k % p = 1 % p := by
  obtain ⟨c, rfl⟩ := hd
  rw [Nat.pow_mul]
  exact pow_one_mod h c
/-- A least number with a property. -/
theorem least {P : Nat → Prop} : ∀ n, P n → ∃ m, P m ∧ m ≤ n ∧ ∀ k, k < m → ¬ P k := by
  intro n
  induction n using Nat.strongRecOn with
  | _ n ih =>
    intro h
    by_cases hk : ∃ k, k < n ∧ P k
    · obtain ⟨k, hk, hp⟩ := hk
      obtain ⟨m, h1, h2, h3⟩ := ih k hk hp
      exact ⟨m, h1, by omega, h3⟩
    · exact ⟨n, h, Nat.le_refl _, fun k hkn hp => hk ⟨k, hkn, hp⟩⟩
theorem order_dvd {g p d n : Nat} (hd0 : 0 < d) (hd : g ^ d % p = 1 % p) (hl : ∀ k, k < d → ¬ (0 < k ∧ g ^ k % p = 1 % p)) (hn : g ^ n % p = 1 % p) : d ∣ n := by
  have h1 : g ^ n % p = g ^ (n % d) % p := by
    conv => lhs; rw [← Nat.div_add_mod n d, Nat.pow_add, Nat.mul_mod, pow_of_dvd hd (Nat.dvd_mul_right d (n / d)), ← Nat.mul_mod, Nat.one_mul]
  have h2 := hl (n % d) (Nat.mod_lt _ hd0)
  have h3 : n % d = 0 := by
    apply Classical.byContradiction
    intro h
    exact h2 ⟨by omega, h1 ▸ hn⟩
  exact Nat.dvd_of_mod_eq_zero h3
/-- What a root of p brings: every number that p does not divide has p - 1 as an exponent. -/
theorem root_all {p g : Nat} (hp : 1 < p) (h1 : g ^ (p - 1) % p = 1 % p) (ho : ∀ k, 0 < k → k < p - 1 → g ^ k % p ≠ 1 % p) : ∀ x, x % p ≠ 0 → x ^ (p - 1) % p = 1 % p := by
  have inv : ∀ i, i ≤ p - 1 → g ^ i * g ^ (p - 1 - i) % p = 1 % p := fun i hi => by
    rw [← Nat.pow_add, show i + (p - 1 - i) = p - 1 by omega]
    exact h1
  have nz : ∀ i, i ≤ p - 1 → g ^ i % p ≠ 0 := fun i hi h => by
    have := inv i hi
    rw [Nat.mul_mod, h, Nat.zero_mul, Nat.zero_mod, Nat.mod_eq_of_lt hp] at this
    omega
  have lt : ∀ i, g ^ i % p < p := fun i => Nat.mod_lt _ (by omega)
  have inj0 : ∀ i j, i ≤ j → j < p - 1 → g ^ i % p = g ^ j % p → i = j := fun i j hij hj h => by
    apply Classical.byContradiction
    intro hne
    apply ho (j - i) (by omega) (by omega)
    have e1 : g ^ j = g ^ i * g ^ (j - i) := by rw [← Nat.pow_add, show i + (j - i) = j by omega]
    have e2 : g ^ (p - 1 - i) * g ^ j % p = g ^ (p - 1 - i) * g ^ i % p := by rw [Nat.mul_mod, ← h, ← Nat.mul_mod]
    rw [Nat.mul_comm _ (g ^ i), inv i (by omega), e1, ← Nat.mul_assoc, Nat.mul_comm _ (g ^ i), Nat.mul_mod, inv i (by omega), ← Nat.mul_mod, Nat.one_mul] at e2
    exact e2
  intro x hx
  obtain ⟨i, hi, e⟩ := pigeon (p - 1) (fun i => g ^ i % p - 1) (fun i hi => by have := nz i (by omega); have := lt i; show g ^ i % p - 1 < p - 1; omega) (fun i j hi hj h => by
    have a1 := nz i (by omega)
    have a2 := nz j (by omega)
    have h' : g ^ i % p - 1 = g ^ j % p - 1 := h
    have h2 : g ^ i % p = g ^ j % p := by omega
    rcases Nat.le_total i j with hij | hij
    · exact inj0 i j hij hj h2
    · exact (inj0 j i hij hi h2.symm).symm) (x % p - 1) (by have := Nat.mod_lt x (show 0 < p by omega); omega)
  have a1 := nz i (by omega)
  have e' : g ^ i % p - 1 = x % p - 1 := e
  have e2 : x % p = g ^ i % p := by omega
  rw [Nat.pow_mod, e2, ← Nat.pow_mod, ← Nat.pow_mul, Nat.mul_comm, Nat.pow_mul]
  exact pow_one_mod h1 i
theorem root_prime {p : Nat} (hp : 1 < p) (h : ∀ x, x % p ≠ 0 → x ^ (p - 1) % p = 1 % p) : Pr p := by
  refine ⟨hp, fun d hd => ?_⟩
  apply Classical.byContradiction
  intro hn
  obtain ⟨h1, h2⟩ := not_or.1 hn
  have hle := Nat.le_of_dvd (by omega) hd
  have hd0 : d ≠ 0 := by
    intro e
    subst e
    have := Nat.eq_zero_of_zero_dvd hd
    omega
  have hlt : d < p := by omega
  have h3 := h d (by rw [Nat.mod_eq_of_lt hlt]; exact hd0)
  obtain ⟨c, hc⟩ := hd
  have hp2 : d ^ (p - 1) = d * d ^ (p - 2) := by
    rw [← Nat.pow_succ', show (p - 2).succ = p - 1 by omega]
  have h4 : d ^ (p - 1) * c % p = 0 := by
    rw [hp2, Nat.mul_right_comm, ← hc]
    exact Nat.mul_mod_right _ _
  rw [Nat.mul_mod, h3, ← Nat.mul_mod, Nat.one_mul] at h4
  have hc1 : c < p := by
    have : c ≠ 0 := by
      intro e
      rw [e] at hc
      omega
    have h5 : 2 * c ≤ d * c := Nat.mul_le_mul_right c (by omega)
    omega
  rw [Nat.mod_eq_of_lt hc1] at h4
  rw [h4] at hc
  omega
/-- Pratt's certificate: a root, and the primes of p - 1. -/
theorem pratt (p g f : Nat) (L : List Nat) (hp : 1 < p) (hL : ∀ q ∈ L, Pr q) (hprod : prodL L + 1 = p) (hf : p < 2 ^ f) (h1 : pmod p f g (p - 1) = 1) (hq : ∀ q ∈ L, pmod p f g ((p - 1) / q) ≠ 1) : Pr p ∧ ∀ x, x % p ≠ 0 → x ^ (p - 1) % p = 1 := by
  have o1 : 1 % p = 1 := Nat.mod_eq_of_lt hp
  rw [pmod_eq p f g (p - 1) (by omega)] at h1
  have hp1 : 0 < p - 1 := by omega
  obtain ⟨d, ⟨hd0, hd⟩, _, hl⟩ := least (P := fun k => 0 < k ∧ g ^ k % p = 1 % p) (p - 1) ⟨hp1, h1.trans o1.symm⟩
  have hdv := order_dvd hd0 hd hl (h1.trans o1.symm)
  have hdp : d = p - 1 := by
    apply Classical.byContradiction
    intro hne
    obtain ⟨k, hk⟩ := hdv
    have hk1 : 1 < k := by
      rcases k with _ | _ | k
      · omega
      · omega
      · omega
    obtain ⟨q, hqL, c, hc⟩ := cover L hL k hk1 (by rw [show prodL L = p - 1 by omega, hk]; exact Nat.dvd_mul_left k d)
    have hqp := (hL q hqL).1
    have hx := hq q hqL
    have e1 : (p - 1) / q = d * c := by
      rw [hk, hc, Nat.mul_left_comm]
      exact Nat.mul_div_cancel_left _ (by omega)
    rw [pmod_eq p f g ((p - 1) / q) (by have := Nat.div_le_self (p - 1) q; omega), e1] at hx
    exact hx ((pow_of_dvd hd (Nat.dvd_mul_right d c)).trans o1)
  have hall := root_all hp (h1.trans o1.symm) (fun k h0 hk h => hl k (by omega) ⟨h0, h⟩)
  exact ⟨root_prime hp hall, fun x hx => (hall x hx).trans o1⟩
theorem rsa_one {p e d l x : Nat} (hp : 1 < p) (hall : ∀ x, x % p ≠ 0 → x ^ (p - 1) % p = 1) (hl : p - 1 ∣ l) (h : d * e % l = 1) : x ^ (d * e) % p = x % p := by
  obtain ⟨c, hc⟩ := hl
  have h1 : d * e = 1 + (p - 1) * (c * (d * e / l)) := by
    have := Nat.div_add_mod (d * e) l
    rw [h] at this
    rw [← Nat.mul_assoc, ← hc]
    omega
  by_cases hx : x % p = 0
  · rw [hx, h1, Nat.pow_add, Nat.pow_one, Nat.mul_mod, hx, Nat.zero_mul, Nat.zero_mod]
  · have h2 : (x ^ (p - 1)) ^ (c * (d * e / l)) % p = 1 % p := pow_one_mod ((hall x hx).trans (Nat.mod_eq_of_lt hp).symm) _
    rw [h1, Nat.pow_add, Nat.pow_one, Nat.pow_mul, Nat.mul_mod, h2, ← Nat.mul_mod, Nat.mul_one]
theorem crt_le {p q a b : Nat} (hpq : Nat.Coprime p q) (h1 : a % p = b % p) (h2 : a % q = b % q) (ha : a < p * q) : a ≤ b := by
  apply Classical.byContradiction
  intro hn
  have d1 : p ∣ a - b := Nat.dvd_of_mod_eq_zero (Nat.sub_mod_eq_zero_of_mod_eq h1)
  have d2 : q ∣ a - b := Nat.dvd_of_mod_eq_zero (Nat.sub_mod_eq_zero_of_mod_eq h2)
  have d3 := Nat.le_of_dvd (by omega) (Nat.Coprime.mul_dvd_of_dvd_of_dvd hpq d1 d2)
  omega
theorem coprime_pr {p q : Nat} (hp : Pr p) (hq : Pr q) (h : p ≠ q) : Nat.Coprime p q := by
  rw [Nat.coprime_iff_gcd_eq_one]
  rcases hp.2 _ (Nat.gcd_dvd_left p q) with h1 | h1
  · exact h1
  · rcases hq.2 _ (Nat.gcd_dvd_right p q) with h2 | h2
    · exact h2
    · exact absurd (h1.symm.trans h2) h
/-- A power by d, and by e, of a number below the product of two primes. -/
theorem rsa_back {p q e d l : Nat} (hp : Pr p ∧ ∀ x, x % p ≠ 0 → x ^ (p - 1) % p = 1) (hq : Pr q ∧ ∀ x, x % q ≠ 0 → x ^ (q - 1) % q = 1) (hne : p ≠ q) (lp : p - 1 ∣ l) (lq : q - 1 ∣ l) (h : d * e % l = 1) (x : Nat) (hx : x < p * q) : (x ^ d % (p * q)) ^ e % (p * q) = x := by
  have hpq0 : 0 < p * q := by omega
  rw [pow_modL, ← Nat.pow_mul]
  have hc := coprime_pr hp.1 hq.1 hne
  have e1 : x ^ (d * e) % (p * q) % p = x % p := by
    rw [Nat.mod_mod_of_dvd _ (Nat.dvd_mul_right p q)]
    exact rsa_one hp.1.1 hp.2 lp h
  have e2 : x ^ (d * e) % (p * q) % q = x % q := by
    rw [Nat.mod_mod_of_dvd _ (Nat.dvd_mul_left q p)]
    exact rsa_one hq.1.1 hq.2 lq h
  have hlt := Nat.mod_lt (x ^ (d * e)) hpq0
  exact Nat.le_antisymm (crt_le hc e1 e2 hlt) (crt_le hc e1.symm e2.symm hx)
/-- Unlike numbers have unlike powers. -/
theorem rsa_apart {p q e d l : Nat} (hp : Pr p ∧ ∀ x, x % p ≠ 0 → x ^ (p - 1) % p = 1) (hq : Pr q ∧ ∀ x, x % q ≠ 0 → x ^ (q - 1) % q = 1) (hne : p ≠ q) (lp : p - 1 ∣ l) (lq : q - 1 ∣ l) (h : e * d % l = 1) {x y : Nat} (hx : x < p * q) (hy : y < p * q) (he : x ^ e % (p * q) = y ^ e % (p * q)) : x = y := by
  rw [← rsa_back hp hq hne lp lq h x hx, he, rsa_back hp hq hne lp lq h y hy]
theorem pr_2 : Pr 2 := ⟨by decide, fun d hd => by have := Nat.le_of_dvd (by decide) hd; match d, this with
  | 0, _ => exact absurd (Nat.eq_zero_of_zero_dvd hd) (by decide)
  | 1, _ => exact .inl rfl
  | 2, _ => exact .inr rfl⟩
theorem pr_3 : Pr 3 := ⟨by decide, fun d hd => by have := Nat.le_of_dvd (by decide) hd; match d, this with
  | 0, _ => exact absurd (Nat.eq_zero_of_zero_dvd hd) (by decide)
  | 1, _ => exact .inl rfl
  | 2, _ => exact absurd (Nat.mod_eq_zero_of_dvd hd) (by decide)
  | 3, _ => exact .inr rfl⟩
end Go.Proofs.YtpcmpeeflnlkpaaGreatDoor
