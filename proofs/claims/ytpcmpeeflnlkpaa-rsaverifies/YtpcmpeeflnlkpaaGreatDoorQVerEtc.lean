/-
  rsa.Verify.
  The document's parts and shift, rot and low.
  The document's times: two rows of parts.
-/
import Derived.Test.YtpcmpeeflnlkpaaGreatDoorQOpsEtc
import Derived.Test.YtpcmpeeflnlkpaaGreatDoorKPlainEtc
import Derived.Test.YtpcmpeeflnlkpaaGreatDoorKLeafEtc
import Derived.BigQuiet
namespace Go.Proofs.YtpcmpeeflnlkpaaGreatDoor
open Go.RowKit Ch
set_option maxRecDepth 100000

/-- What Verify answers. -/
def verL (N E D b S : List UInt8) : Int := if rightP N E D then if S.length = (bareL N).length then if numB S < numB N ∧ numB S ^ numB E % numB N = numB (sealL b (bareL N).length) then 0 else 22 else 21 else 2
theorem right_len {N E D : List UInt8} (h : rightP N E D) : (bareL E).length ≤ (bareL N).length ∧ (bareL D).length ≤ (bareL N).length ∧ numB (bareL N) ≠ 0 := by
  obtain ⟨_, _, _, h4, h5, h6⟩ := h
  have hlt : numB (bareL N) < 256 ^ (bareL N).length := (show ∀ l : List UInt8, bareL l = l → numB l < 256 ^ l.length from fun l _ => numB_lt l) _ (bare_bare N)
  rw [numB_bare] at hlt
  refine ⟨numB_pow (bare_bare E) (by rw [numB_bare]; omega), numB_pow (bare_bare D) (by rw [numB_bare]; omega), ?_⟩
  rw [numB_bare]
  omega
theorem boxN_sl {u : World} {q : Nat} {t : TypeId} {a b c : Option Addr} {k l m k' l' m' : Nat} (h : u.heap[q]? = some (.cells #[.slice a k k', .slice b l l', .slice c m m'] t (0, 0))) : BoxN u q := ⟨_, _, _, h, fun i z => by
  rcases i with _ | _ | _ | i <;> simp⟩
set_option maxHeartbeats 8000000 in
theorem qVerify_any (v1 v2 v3 vb vs : Value) (N E D b S : List UInt8) (w : World) (h1 : IsBytes w v1 ⟨N.toArray⟩) (h2 : IsBytes w v2 ⟨E.toArray⟩) (h3 : IsBytes w v3 ⟨D.toArray⟩) (h4 : IsBytes w vb ⟨b.toArray⟩) (h5 : IsBytes w vs ⟨S.toArray⟩) (hK : KTab w)
    (lN : N.length ≤ 900000) (lE : E.length ≤ 900000) (lD : D.length ≤ 900000) (lb : b.length ≤ 900000) (lS : S.length ≤ 900000) :
    Calls Tryz.prog 10 #[.agg #[v1, v2, v3], vb, vs] w fun e w' => e = .returned (.int .i64 (verL N E D b S)) ∧ Below w.heap.size w w' := by
  obtain ⟨y1, k1, c1, rfl⟩ := isb_open h1
  obtain ⟨y2, k2, c2, rfl⟩ := isb_open h2
  obtain ⟨y3, k3, c3, rfl⟩ := isb_open h3
  obtain ⟨y4, k4, c4, rfl⟩ := isb_open h4
  obtain ⟨y5, c5, rfl⟩ := isb_shape h5
  obtain ⟨k5, hk5⟩ : ∃ k, S.length = k := ⟨_, rfl⟩
  rw [hk5] at h5 ⊢
  have kb := keyBox w (.slice y1 k1 c1) (.slice y2 k2 c2) (.slice y3 k3 c3)
  obtain ⟨q, hq⟩ : ∃ q, w.heap.size = q := ⟨_, rfl⟩
  obtain ⟨W1, hW1⟩ : ∃ W, w.alloc (.cells #[.slice y1 k1 c1, .slice y2 k2 c2, .slice y3 k3 c3] 25) = W := ⟨_, rfl⟩
  rw [hW1, hq] at kb
  have hRt := rightV (.slice y1 k1 c1) (.slice y2 k2 c2) (.slice y3 k3 c3) N E D W1 (h1.later kb.below) (h2.later kb.below) (h3.later kb.below) (by omega) (by omega) (by omega)
  have HK := show Hid (KeyBox w W1 q (.slice y1 k1 c1) (.slice y2 k2 c2) (.slice y3 k3 c3)) from kb
  have HU := show Hid (∀ u, Below w.heap.size w u → IsBytes u (.slice y1 k1 c1) ⟨N.toArray⟩ ∧ IsBytes u (.slice y2 k2 c2) ⟨E.toArray⟩ ∧ IsBytes u (.slice y3 k3 c3) ⟨D.toArray⟩ ∧ IsBytes u (.slice y4 k4 c4) ⟨b.toArray⟩ ∧ IsBytes u (.slice y5 k5 c5) ⟨S.toArray⟩ ∧ KTab u) from fun u hu =>
    ⟨h1.later hu, h2.later hu, h3.later hu, h4.later hu, h5.later hu, hK.later hu⟩
  have HL := show Hid (N.length ≤ 900000 ∧ E.length ≤ 900000 ∧ D.length ≤ 900000 ∧ b.length ≤ 900000 ∧ S.length ≤ 900000 ∧ S.length = k5) from ⟨lN, lE, lD, lb, lS, hk5⟩
  obtain ⟨R, hR⟩ : ∃ R, Hid (verL N E D b S = R) := ⟨_, rfl⟩
  rw [hR.out]
  obtain ⟨g0, g1, g2⟩ := kb.cells (Below.refl _ W1)
  clear kb h1 h2 h3 h4 h5 hK lN lE lD lb lS hk5
  by_cases cp : rightP N E D
  · rw [decide_eq_true cp] at hRt
    have HP := show Hid (rightP N E D) from cp
    clear cp
    go_enter Tryz.func10, Tryz.ntmps10
    go_wp2_with fail
    refine hRt.mono ?_
    rintro e w2 ⟨rfl, b2⟩
    clear hRt g0 g1 g2
    obtain ⟨g0, g1, g2⟩ := HK.out.cells b2
    have HB2 := show Hid (Below W1.heap.size W1 w2) from b2
    have hw2 := bl2 HK.out.below b2
    have hTm := qTrimmed_any (.slice y1 k1 c1) (.slice y2 k2 c2) (.slice y3 k3 c3) N E D w2 (HU.out w2 hw2).1 (HU.out w2 hw2).2.1 (HU.out w2 hw2).2.2.1 HL.out.1 HL.out.2.1 HL.out.2.2.1
    clear b2 hw2
    go_wp2_with fail
    refine hTm.mono ?_
    rintro e w3 ⟨⟨v, rfl, ya, ka, ca, yb, kb, cb, yc, kc, cc, rfl, ia, ib, ic⟩, b3⟩
    clear hTm g0 g1 g2
    have hB := ((bl2 HB2.out b3).block q (block_lt HK.out.at0)).trans HK.out.at0
    have HE := show Hid (_ ∧ _) from key_stored (.slice ya ka ca) (.slice yb kb cb) (.slice yc kc cc) hB
    have f0 := block_free 0 hB
    have f1 := block_free 1 hB
    have f2 := block_free 2 hB
    have g0 := block_cell (v := .slice y1 k1 c1) 0 hB rfl
    have g1 := block_cell (v := .slice y2 k2 c2) 1 hB rfl
    have g2 := block_cell (v := .slice y3 k3 c3) 2 hB rfl
    have HI := show Hid (IsBytes w3 (.slice ya ka ca) ⟨(bareL N).toArray⟩ ∧ IsBytes w3 (.slice yb kb cb) ⟨(bareL E).toArray⟩ ∧ IsBytes w3 (.slice yc kc cc) ⟨(bareL D).toArray⟩ ∧ BoxN w3 q ∧ Below w.heap.size w w3) from ⟨ia, ib, ic, boxN_sl hB, bl2 HK.out.below (bl2 HB2.out b3)⟩
    have hka : (bareL N).length = ka := (size_of_list _).symm.trans (isb_size ia)
    have HN := show Hid ((bareL N).length = ka ∧ 62 ≤ ka ∧ ka ≤ 512 ∧ (bareL E).length ≤ 512 ∧ numB (bareL N) ≠ 0) from by
      have h9 := HP.out.1
      have h8 := right_len HP.out
      rw [hka] at h9 h8
      exact ⟨hka, h9.1, h9.2, by omega, h8.2.2⟩
    have HS := show Hid (∀ W5, W5.heap[q]? = some (.cells #[.slice ya ka ca, .slice yb kb cb, .slice yc kc cc] 25 (0, 0)) → KeptX [q] w3 W5 → Below w.heap.size w W5 ∧ IsBytes W5 (.slice ya ka ca) ⟨(bareL N).toArray⟩ ∧ IsBytes W5 (.slice yb kb cb) ⟨(bareL E).toArray⟩ ∧ IsBytes W5 (.slice yc kc cc) ⟨(bareL D).toArray⟩) from fun W5 hb5 hk5 => by
      have hbx : ∀ p ∈ [q], BoxN w3 p := fun p hp => by
        rw [List.mem_singleton.1 hp]
        exact HI.out.2.2.2.1
      exact ⟨HI.out.2.2.2.2.trans (hk5.below HI.out.2.2.2.2.size (fun p hp => by
        rw [List.mem_singleton.1 hp]
        omega)), HI.out.1.keptN hk5 hbx, HI.out.2.1.keptN hk5 hbx, HI.out.2.2.1.keptN hk5 hbx⟩
    clear hB ia ib ic b3 hka
    by_cases cl : k5 = ka
    · subst cl
      go_wp2_with fail
      generalize (((w3.setCell ⟨q, 0, none⟩ (.slice ya k5 ca)).setCell ⟨q, 1, none⟩ (.slice yb kb cb)).setCell ⟨q, 2, none⟩ (.slice yc kc cc)) = W5 at *
      clear g0 g1 g2 f0 f1 f2
      obtain ⟨hb5, hk5⟩ := HE.out
      have HJ := show Hid (_ ∧ _) from HS.out W5 hb5 hk5
      have hSe := qSeal_any (.slice y4 k4 c4) b k5 W5 (HU.out W5 HJ.out.1).2.2.2.1 (HU.out W5 HJ.out.1).2.2.2.2.2 HL.out.2.2.2.1 HN.out.2.1 HN.out.2.2.1
      refine hSe.mono ?_
      rintro e w6 ⟨⟨v6, rfl, i6⟩, b6⟩
      obtain ⟨y6, k6, c6, rfl⟩ := isb_open i6
      have hqb := (b6.block q (block_lt hb5)).trans hb5
      have g0 := block_cell (v := .slice ya k5 ca) 0 hqb rfl
      have g1 := block_cell (v := .slice yb kb cb) 1 hqb rfl
      have g2 := block_cell (v := .slice yc kc cc) 2 hqb rfl
      have hw6 := bl2 HJ.out.1 b6
      have hC := cmpV S (bareL N) (.slice y5 k5 c5) (.slice ya k5 ca) w6 (HU.out w6 hw6).2.2.2.2.1 (HJ.out.2.1.later b6) (by have := HL.out.2.2.2.2.1; omega) (by have := HN.out; omega)
      have hO := qOpens_any (.slice ya k5 ca) (.slice yb kb cb) (.slice yc kc cc) (.slice y5 k5 c5) (.slice y6 k6 c6) (bareL N) (bareL E) (bareL D) S (sealL b k5) w6 (HJ.out.2.1.later b6) (HJ.out.2.2.1.later b6) (HJ.out.2.2.2.later b6) (HU.out w6 hw6).2.2.2.2.1 i6 (by have := HN.out; omega) (by have := HN.out; omega) (by have := HN.out; have := HL.out.2.2.2.2.2; omega) (by rw [sealL_length b (by have := HN.out; omega)]; have := HN.out; omega) HN.out.2.2.2.2 (bare_bare N)
      rw [numB_bare, numB_bare] at hO
      have hc := (cmp_num S (bareL N)).1
      rw [numB_bare] at hc
      obtain ⟨cq, hcq⟩ : ∃ c, cmpL S (bareL N) = c := ⟨_, rfl⟩
      rw [hcq] at hc hC
      have HB6 := show Hid (Below w.heap.size w w6) from hw6
      have HV := show Hid (verL N E D b S = if numB S < numB N ∧ numB S ^ numB E % numB N = numB (sealL b k5) then 0 else 22) from by
        unfold Hid verL
        rw [if_pos HP.out, if_pos (HL.out.2.2.2.2.2.trans HN.out.1.symm), HN.out.1]
      clear hSe hcq hb5 hk5 i6 b6 hqb hw6
      by_cases c1 : numB S < numB N
      · have q1 : cq < 0 := hc.2 c1
        by_cases c2 : numB S ^ numB E % numB N = numB (sealL b k5)
        · rw [decide_eq_true c2] at hO
          have HRv := show Hid (0 = R) from by
            unfold Hid
            rw [← hR.out, HV.out, if_pos ⟨c1, c2⟩]
          clear hc c1 c2
          go_wp2_with fail
          refine hC.mono ?_
          rintro e w7 ⟨rfl, rfl⟩
          clear hC
          go_wp2_with fail
          refine hO.mono ?_
          rintro e w8 ⟨rfl, b8⟩
          clear hO
          have HF := show Hid (Below w.heap.size w w8) from bl2 HB6.out b8
          clear b8
          go_wp2_with fail
          go_ret
          exact ⟨by rw [← HRv.out] <;> rfl, HF.out⟩
        · rw [decide_eq_false c2] at hO
          have HRv := show Hid (22 = R) from by
            unfold Hid
            rw [← hR.out, HV.out, if_neg (fun h => c2 h.2)]
          clear hc c1 c2
          go_wp2_with fail
          refine hC.mono ?_
          rintro e w7 ⟨rfl, rfl⟩
          clear hC
          go_wp2_with fail
          refine hO.mono ?_
          rintro e w8 ⟨rfl, b8⟩
          clear hO
          have HF := show Hid (Below w.heap.size w w8) from bl2 HB6.out b8
          clear b8
          go_wp2_with fail
          go_ret
          exact ⟨by rw [← HRv.out] <;> rfl, HF.out⟩
      · have q1 : ¬ cq < 0 := fun h => c1 (hc.1 h)
        have q2 : 0 ≤ cq := by omega
        have HRv := show Hid (22 = R) from by
          unfold Hid
          rw [← hR.out, HV.out, if_neg (fun h => c1 h.1)]
        clear hc c1 hO
        go_wp2_with fail
        refine hC.mono ?_
        rintro e w7 ⟨rfl, rfl⟩
        clear hC
        go_wp2_with fail
        go_ret
        exact ⟨by rw [← HRv.out] <;> rfl, HB6.out⟩
    · have hl1 : ((k5 : Int) != (ka : Int)) = true := bne_iff_ne.2 (by omega)
      have HRv := show Hid (21 = R) from by
        unfold Hid
        rw [← hR.out]
        unfold verL
        rw [if_pos HP.out, if_neg (by have := HL.out.2.2.2.2.2; have := HN.out; omega)]
      clear cl
      go_wp2_with fail
      generalize (((w3.setCell ⟨q, 0, none⟩ (.slice ya ka ca)).setCell ⟨q, 1, none⟩ (.slice yb kb cb)).setCell ⟨q, 2, none⟩ (.slice yc kc cc)) = W5 at *
      have HF := show Hid (_ ∧ _) from HS.out W5 HE.out.1 HE.out.2
      go_ret
      exact ⟨by rw [← HRv.out] <;> rfl, HF.out.1⟩
  · rw [decide_eq_false cp] at hRt
    have HRv := show Hid (2 = R) from by
      unfold Hid
      rw [← hR.out]
      unfold verL
      rw [if_neg cp]
    clear cp
    go_enter Tryz.func10, Tryz.ntmps10
    go_wp2_with fail
    refine hRt.mono ?_
    rintro e w2 ⟨rfl, b2⟩
    clear hRt
    have HF := show Hid (Below w.heap.size w w2) from bl2 HK.out.below b2
    clear b2
    go_wp2_with fail
    go_ret
    exact ⟨by rw [← HRv.out] <;> rfl, HF.out⟩
end Go.Proofs.YtpcmpeeflnlkpaaGreatDoor

namespace Go.Proofs.YtpcmpeeflnlkpaaGreatDoor
open Go.RowKit Ch
set_option maxRecDepth 100000

def R64 : KR := ⟨.u64, 62, 73, 8, Tryz.underlying73, by kernel_rfl, by decide⟩
/-- Divided by 65536 so many times. -/
def dv (n : Nat) : Nat → Nat
  | 0 => n
  | i + 1 => dv n i / 65536
def partsN (n i : Nat) : List Nat := (List.range i).map fun j => dv n j % 65536
theorem partsN_succ (n i : Nat) : partsN n (i + 1) = partsN n i ++ [dv n i % 65536] := by simp [partsN, List.range_succ]
theorem dv_lt {n : Nat} (h : n < 18446744073709551616) : ∀ i, dv n i < 18446744073709551616
  | 0 => h
  | i + 1 => Nat.lt_of_le_of_lt (Nat.div_le_self _ _) (dv_lt h i)
set_option maxHeartbeats 2000000 in
theorem vParts_any (n : Nat) (w : World) (hn : n < 18446744073709551616) :
    Calls Tryz.prog 101 #[.int .u64 (n : Int)] w fun e w' => (∃ v, e = .returned v ∧ w'.ownsRow w.heap.size 62 1 v (partsN n 4).length (kc .u64 (partsN n 4))) ∧ Below w.heap.size w w' := by
  go_enter Tryz.func101, Tryz.ntmps101
  go_wp2_with fail
  go_loopw [0, 3, 4] (fun u v t wr => ∃ i : Nat, i ≤ 4 ∧ t = .int .i64 (i : Int) ∧ u = .int .u64 (dv n i : Int) ∧ wr.ownsRow w.heap.size 62 1 v (partsN n i).length (kc .u64 (partsN n i)) ∧ Below w.heap.size w wr) (fun _ _ t _ => 4 - (intOf t).toNat)
  case atStart => exact ⟨0, by omega, rfl, rfl, own_nil _ _ _, Below.refl _ _⟩
  case round =>
    obtain ⟨i, hi, rfl, rfl, hown, hb⟩ := hrel
    by_cases hlt : i < 4
    · have hlt2 : (i : Int) < 4 := by omega
      have hN := dv_lt hn i
      have hpl : (partsN n i).length ≤ 1000000 := by simp [partsN]; omega
      have hs := partsN_succ n i
      have hq : dv n (i + 1) = dv n i / 65536 := rfl
      obtain ⟨N, hNe⟩ : ∃ N, dv n i = N := ⟨_, rfl⟩
      rw [hNe] at hN hs hq ⊢
      obtain ⟨m, hm⟩ : ∃ m, N % 65536 = m := ⟨_, rfl⟩
      obtain ⟨q, hqe⟩ : ∃ q, N / 65536 = q := ⟨_, rfl⟩
      have e1 : (N : Int).tmod 65536 = (m : Int) := by rw [← hm, Int.tmod_eq_emod_of_nonneg (by omega)]; omega
      have e2 : (N : Int).tdiv 65536 = (q : Int) := by rw [← hqe, Int.tdiv_eq_ediv_of_nonneg (by omega)]; omega
      have hq64 : q < 18446744073709551616 := by omega
      have hm64 : m < 65536 := by omega
      rw [hm] at hs
      have HA : Hid (partsN n i ++ [m] = partsN n (i + 1)) := hs.symm
      have HQ : Hid (q = dv n (i + 1)) := by unfold Hid; rw [hq, hqe]
      have hbz := hb.size
      clear hs hq hNe hm hqe
      go_wp2_with (at_builtin; go_must (refine wpList_append_n R64 rfl _ _ rfl w.heap.size _ _ rfl hown _ rfl m rfl _ HA hpl hbz hb ?_; intro v2 w2 ho2 hb2))
      go_roundw
      case rel => exact ⟨i + 1, by omega, by go_num, by rw [HQ.out], ho2, hb2⟩
      case measure => simp [intOf]; omega
    · have hlt2 : ¬ (i : Int) < 4 := by omega
      obtain rfl : i = 4 := by omega
      go_wp2_with fail
      go_ret
      exact ⟨⟨_, rfl, hown⟩, hb⟩
end Go.Proofs.YtpcmpeeflnlkpaaGreatDoor

namespace Go.Proofs.YtpcmpeeflnlkpaaGreatDoor
open Go.RowKit Ch
set_option maxRecDepth 100000

def M64 : Nat := 18446744073709551616
def mulC (c o a b : Nat) : Nat := ((c + o) % M64 + a * b % M64) % M64
def innS (x : Nat) (b : List Nat) (i : Nat) (o0 : List Nat) : Nat → List Nat × Nat
  | 0 => (o0, 0)
  | k + 1 => ((innS x b i o0 k).1.set (i + k) (mulC (innS x b i o0 k).2 (atN (innS x b i o0 k).1 (i + k)) x (atN b k) % 65536), mulC (innS x b i o0 k).2 (atN (innS x b i o0 k).1 (i + k)) x (atN b k) / 65536)
def outS (a b : List Nat) : Nat → List Nat
  | 0 => List.replicate (a.length + b.length) 0
  | i + 1 => (innS (atN a i) b i (outS a b i) b.length).1.set (i + b.length) ((atN (innS (atN a i) b i (outS a b i) b.length).1 (i + b.length) + (innS (atN a i) b i (outS a b i) b.length).2) % M64)
def timesN (a b : List Nat) : List Nat := outS a b a.length
theorem innS_length (x : Nat) (b : List Nat) (i : Nat) (o0 : List Nat) (k : Nat) : (innS x b i o0 k).1.length = o0.length := by
  induction k with
  | zero => rfl
  | succ k ih => rw [innS, List.length_set, ih]
theorem outS_length (a b : List Nat) (i : Nat) : (outS a b i).length = a.length + b.length := by
  induction i with
  | zero => simp [outS]
  | succ i ih => rw [outS, List.length_set, innS_length, ih]
def All64 (L : List Nat) : Prop := ∀ i, atN L i < M64
theorem all_set {L : List Nat} (h : All64 L) (i n : Nat) (hn : n < M64) : All64 (L.set i n) := by
  intro j
  unfold atN
  rw [List.getElem?_set]
  split
  · split
    · exact hn
    · show 0 < M64; unfold M64; omega
  · exact h j
theorem innS_64 (x : Nat) (b : List Nat) (i : Nat) (o0 : List Nat) (h : All64 o0) (k : Nat) : All64 (innS x b i o0 k).1 ∧ (innS x b i o0 k).2 < M64 := by
  induction k with
  | zero => exact ⟨h, by show 0 < M64; unfold M64; omega⟩
  | succ k ih =>
    rw [innS]
    have hm : mulC (innS x b i o0 k).2 (atN (innS x b i o0 k).1 (i + k)) x (atN b k) < M64 := Nat.mod_lt _ (by unfold M64; omega)
    exact ⟨all_set ih.1 _ _ (Nat.lt_of_le_of_lt (Nat.mod_le _ _) hm), Nat.lt_of_le_of_lt (Nat.div_le_self _ _) hm⟩
theorem outS_64 (a b : List Nat) (i : Nat) : All64 (outS a b i) := by
  induction i with
  | zero =>
    intro j
    unfold atN outS
    rw [List.getElem?_replicate]
    split <;> (show 0 < M64; unfold M64; omega)
  | succ i ih =>
    rw [outS]
    exact all_set (innS_64 _ _ _ _ ih _).1 _ _ (Nat.mod_lt _ (by unfold M64; omega))
theorem wrap_sum (a b : Nat) : IntKind.u64.wrap ((a : Int) + (b : Int)) = (((a + b) % M64 : Nat) : Int) := by rw [wrap_u64]; unfold M64; omega
theorem wrap_mulV (a b : Nat) : IntKind.u64.wrap ((a : Int) * (b : Int)) = ((a * b % M64 : Nat) : Int) := by
  rw [wrap_u64, ← Int.natCast_mul]; unfold M64; omega
set_option maxHeartbeats 4000000 in
theorem vTimes_any (xa xb : Option Addr) (ca cb : Nat) (a b : List Nat) (w : World) (hA : IsN .u64 w (.slice xa a.length ca) a) (hB : IsN .u64 w (.slice xb b.length cb) b) (ha : a.length ≤ 1000) (hb : b.length ≤ 1000) (ha64 : All64 a) (hb64 : All64 b) :
    Calls Tryz.prog 100 #[.slice xa a.length ca, .slice xb b.length cb] w fun e w' => (∃ v, e = .returned v ∧ w'.ownsRow w.heap.size 62 1 v (timesN a b).length (kc .u64 (timesN a b))) ∧ Below w.heap.size w w' := by
  obtain ⟨la, hla⟩ : ∃ la, a.length = la := ⟨_, rfl⟩
  obtain ⟨lb, hlb⟩ : ∃ lb, b.length = lb := ⟨_, rfl⟩
  obtain ⟨n, hn⟩ : ∃ n, la + lb = n := ⟨_, rfl⟩
  have en : (la : Int) + (lb : Int) = (n : Int) := by omega
  rw [hla] at hA ha ⊢
  rw [hlb] at hB hb ⊢
  have HL := show Hid (a.length = la ∧ b.length = lb ∧ la + lb = n) from ⟨hla, hlb, hn⟩
  have hn2 : n ≤ 2000 := by omega
  have HT := show Hid (timesN a b = outS a b la) from by unfold Hid timesN; rw [hla]
  have HA := show Hid (IsN .u64 w (.slice xa la ca) a ∧ IsN .u64 w (.slice xb lb cb) b) from ⟨hA, hB⟩
  clear hla hlb hn hA hB
  go_enter Tryz.func100, Tryz.ntmps100
  go_wp2_with (at_make; go_must (refine wpList_make_n R64 w rfl _ _ rfl .i64 .i64 _ _ n rfl rfl rfl rfl (by omega) ?_; intro w1 ho1 hb1))
  have h0 : w1.ownsRow w.heap.size 62 1 (.slice (some ⟨w.heap.size, 0, none⟩) n n) (outS a b 0).length (kc .u64 (outS a b 0)) := by
    have e : outS a b 0 = List.replicate n 0 := by unfold outS; rw [HL.out.1, HL.out.2.1, HL.out.2.2]
    rw [e]; exact ho1
  clear ho1
  go_loopw [6] (fun t wr => ∃ i : Nat, i ≤ la ∧ t = .int .i64 (i : Int) ∧ Hid (wr.ownsRow w.heap.size 62 1 (.slice (some ⟨w.heap.size, 0, none⟩) n n) (outS a b i).length (kc .u64 (outS a b i))) ∧ Below w.heap.size w wr) (fun t _ => la - (intOf t).toNat)
  case atStart => exact ⟨0, by omega, rfl, h0, hb1⟩
  case round =>
    obtain ⟨i, hi, rfl, ho, hbw⟩ := hrel
    by_cases hlt : i < la
    · have hlt2 : (i : Int) < (la : Int) := by omega
      obtain ⟨X, hX⟩ : ∃ X, atN a i = X := ⟨_, rfl⟩
      have hX64 := ha64 i
      rw [hX] at hX64
      have HX := show Hid (a[i]? = some X) from by rw [← hX]; exact atN_some (by rw [HL.out.1]; exact hlt)
      have HO := show Hid (outS a b (i + 1) = (innS X b i (outS a b i) lb).1.set (i + lb) ((atN (innS X b i (outS a b i) lb).1 (i + lb) + (innS X b i (outS a b i) lb).2) % M64)) from by unfold Hid; rw [outS, hX, HL.out.2.1]
      have HO64 := show Hid (All64 (outS a b i) ∧ (outS a b i).length = n) from ⟨outS_64 a b i, by rw [outS_length, HL.out.1, HL.out.2.1, HL.out.2.2]⟩
      generalize outS a b i = O at *
      clear hX
      go_wp2_with fail
      go_loopw [7, 8] (fun u t wr => ∃ k : Nat, k ≤ lb ∧ t = .int .i64 (k : Int) ∧ u = .int .u64 ((innS X b i O k).2 : Int) ∧ Hid (wr.ownsRow w.heap.size 62 1 (.slice (some ⟨w.heap.size, 0, none⟩) n n) (innS X b i O k).1.length (kc .u64 (innS X b i O k).1)) ∧ Below w.heap.size w wr) (fun _ t _ => lb - (intOf t).toNat)
      case atStart => exact ⟨0, by omega, rfl, rfl, ho, hbw⟩
      case round =>
        obtain ⟨k, hk, rfl, rfl, hp, hbp⟩ := hrel
        have hp64 := innS_64 X b i O HO64.out.1 k
        have hpl := innS_length X b i O k
        rw [HO64.out.2] at hpl
        by_cases hltk : k < lb
        · have hltk2 : (k : Int) < (lb : Int) := by omega
          obtain ⟨ik, hik⟩ : ∃ ik, i + k = ik := ⟨_, rfl⟩
          have eik : (i : Int) + (k : Int) = (ik : Int) := by omega
          have hikn : ik < n := by have := HL.out.2.2; omega
          obtain ⟨Y, hY⟩ : ∃ Y, atN b k = Y := ⟨_, rfl⟩
          have hY64 := hb64 k
          rw [hY] at hY64
          have hYs : b[k]? = some Y := by rw [← hY]; exact atN_some (by rw [HL.out.2.1]; exact hltk)
          obtain ⟨Z, hZ⟩ : ∃ Z, atN (innS X b i O k).1 ik = Z := ⟨_, rfl⟩
          have hZ64 := hp64.1 ik
          rw [hZ] at hZ64
          have hZs : (innS X b i O k).1[ik]? = some Z := by rw [← hZ]; exact atN_some (by omega)
          have hC64 := hp64.2
          have HS := show Hid (innS X b i O (k + 1) = ((innS X b i O k).1.set ik (mulC (innS X b i O k).2 Z X Y % 65536), mulC (innS X b i O k).2 Z X Y / 65536)) from by unfold Hid; rw [innS, hik, hY, hZ]
          generalize (innS X b i O k).2 = C at *
          obtain ⟨x1, x2, x3, hgl, gc, gf, gs⟩ := own_setG hp.out hZs
          clear x1 x2 x3
          obtain ⟨x1, ba, oa, rfl, hal, gA⟩ := IsN.cellAt (HA.out.1.later hbp) HX.out
          obtain ⟨x2, bb, ob, rfl, hbl, gB⟩ := IsN.cellAt (HA.out.2.later hbp) hYs
          clear x1 x2
          obtain ⟨q1, hq1⟩ : ∃ q, (C + Z) % M64 = q := ⟨_, rfl⟩
          obtain ⟨q2, hq2⟩ : ∃ q, X * Y % M64 = q := ⟨_, rfl⟩
          obtain ⟨q3, hq3⟩ : ∃ q, (q1 + q2) % M64 = q := ⟨_, rfl⟩
          have e1 : IntKind.u64.wrap ((C : Int) + (Z : Int)) = (q1 : Int) := by rw [wrap_sum, hq1]
          have e2 : IntKind.u64.wrap ((X : Int) * (Y : Int)) = (q2 : Int) := by rw [wrap_mulV, hq2]
          have e3 : IntKind.u64.wrap ((q1 : Int) + (q2 : Int)) = (q3 : Int) := by rw [wrap_sum, hq3]
          obtain ⟨m, hm⟩ : ∃ m, q3 % 65536 = m := ⟨_, rfl⟩
          obtain ⟨d, hd⟩ : ∃ d, q3 / 65536 = d := ⟨_, rfl⟩
          have e4 : (q3 : Int).tmod 65536 = (m : Int) := by rw [← hm, Int.tmod_eq_emod_of_nonneg (by omega)]; omega
          have e5 : (q3 : Int).tdiv 65536 = (d : Int) := by rw [← hd, Int.tdiv_eq_ediv_of_nonneg (by omega)]; omega
          have hq364 : q3 < 18446744073709551616 := by rw [← hq3]; exact Nat.mod_lt _ (by unfold M64; omega)
          have hm2 : m < 65536 := by omega
          have hd2 : d < 18446744073709551616 := by omega
          have HR := show Hid (mulC C Z X Y = q3) from by unfold Hid mulC; rw [hq1, hq2, hq3]
          have HMD := show Hid (q3 % 65536 = m ∧ q3 / 65536 = d) from ⟨hm, hd⟩
          clear hpl hq1 hq2 hq3 hm hd hYs hY hZ hik gs gf
          have HZS := show Hid ((innS X b i O k).1[ik]? = some Z) from hZs
          clear hZs
          go_wp2_with fail
          go_quiet (fail)
          have hpq := ownsRow_later hp.out (below_drewN (Below.refl wr.heap.size wr) nq)
          have hbq := below_drewN hbp nq
          generalize wr.drewN nq = wq at *
          obtain ⟨x1, x2, x3, hgl2, gc2, gf2, gs2⟩ := own_setG hpq HZS.out
          have HG := show Hid ((wq.setCell ⟨w.heap.size, ik, none⟩ (.int .u64 (m : Int))).ownsRow w.heap.size 62 1 (.slice (some ⟨w.heap.size, 0, none⟩) n n) ((innS X b i O k).1.set ik m).length (kc .u64 ((innS X b i O k).1.set ik m))) from gs2 m
          have hbs := hbq.setCell (p := ⟨w.heap.size, ik, none⟩) (Nat.le_refl _) (.int .u64 (m : Int))
          clear x1 x2 x3 gs2 hpq hp
          go_wp2_with fail
          go_roundw
          case rel => exact ⟨k + 1, by omega, by go_num, by rw [HS.out, HR.out, HMD.out.2], by unfold Hid; rw [HS.out, HR.out, HMD.out.1]; exact HG.out, hbs⟩
          case measure => simp [intOf]; omega
        · have hltk2 : ¬ (k : Int) < (lb : Int) := by omega
          obtain rfl : k = lb := by omega
          obtain ⟨ik, hik⟩ : ∃ ik, i + k = ik := ⟨_, rfl⟩
          have eik : (i : Int) + (k : Int) = (ik : Int) := by omega
          have hikn : ik < n := by have := HL.out.2.2; omega
          obtain ⟨Z, hZ⟩ : ∃ Z, atN (innS X b i O k).1 ik = Z := ⟨_, rfl⟩
          have hZ64 := hp64.1 ik
          rw [hZ] at hZ64
          have hZs : (innS X b i O k).1[ik]? = some Z := by rw [← hZ]; exact atN_some (by omega)
          have hC64 := hp64.2
          have HS := show Hid (outS a b (i + 1) = (innS X b i O k).1.set ik ((Z + (innS X b i O k).2) % M64)) from by unfold Hid; rw [HO.out, hik, hZ]
          generalize (innS X b i O k).2 = C at *
          obtain ⟨q1, hq1⟩ : ∃ q, (Z + C) % M64 = q := ⟨_, rfl⟩
          have e1 : IntKind.u64.wrap ((Z : Int) + (C : Int)) = (q1 : Int) := by rw [wrap_sum, hq1]
          have hq64 : q1 < 18446744073709551616 := by rw [← hq1]; exact Nat.mod_lt _ (by unfold M64; omega)
          obtain ⟨x1, x2, x3, hgl2, gc2, gf2, gs2⟩ := own_setG hp.out hZs
          have HG := show Hid ((wr.setCell ⟨w.heap.size, ik, none⟩ (.int .u64 (q1 : Int))).ownsRow w.heap.size 62 1 (.slice (some ⟨w.heap.size, 0, none⟩) n n) ((innS X b i O k).1.set ik q1).length (kc .u64 ((innS X b i O k).1.set ik q1))) from gs2 q1
          have hbs := hbp.setCell (p := ⟨w.heap.size, ik, none⟩) (Nat.le_refl _) (.int .u64 (q1 : Int))
          have HQ1 := show Hid ((Z + C) % M64 = q1) from hq1
          clear x1 x2 x3 gs2 hp hpl hZs hZ hik hq1 HO
          go_wp2_with fail
          go_roundw
          case rel => exact ⟨i + 1, by omega, by go_num, by unfold Hid; rw [HS.out, HQ1.out]; exact HG.out, hbs⟩
          case measure => simp [intOf]; omega
    · have hlt2 : ¬ (i : Int) < (la : Int) := by omega
      obtain rfl : i = la := by omega
      go_wp2_with fail
      go_ret
      exact ⟨⟨_, rfl, by rw [HT.out]; exact ho.out⟩, hbw⟩
end Go.Proofs.YtpcmpeeflnlkpaaGreatDoor
