/-
  
  
  
  
  
-/
import Derived.Test.YtpcmpeeflnlkpaaGreatDoorQSignEtc
import Derived.Test.YtpcmpeeflnlkpaaGreatDoorQPrime
import Derived.Lib.SlBytesConst
import Derived.Test.YtpcmpeeflnlkpaaGreatDoorKPlainEtc
import Derived.Test.YtpcmpeeflnlkpaaGreatDoorKLeafEtc
import Derived.BigQuiet
/-
  What a key of the laws signs comes back.
-/
namespace Go.Proofs.YtpcmpeeflnlkpaaGreatDoor
open Go.RowKit Ch
set_option maxRecDepth 100000

def Fermat (p : Nat) : Prop := Pr p ∧ ∀ x, x % p ≠ 0 → x ^ (p - 1) % p = 1
theorem fermat_256_189 : Fermat c_256_189 := fermat_of _ (by decide +kernel)
theorem fermat_255_19 : Fermat c_255_19 := fermat_of _ (by decide +kernel)
theorem fermat_256_357 : Fermat c_256_357 := fermat_of _ (by decide +kernel)
theorem fermat_255_31 : Fermat c_255_31 := fermat_of _ (by decide +kernel)
theorem fermat_256_435 : Fermat c_256_435 := fermat_of _ (by decide +kernel)
theorem fermat_512_569 : Fermat c_512_569 := fermat_of _ (by decide +kernel)
theorem fermat_511_187 : Fermat c_511_187 := fermat_of _ (by decide +kernel)
def KeyFacts (p z : Nat) : Prop := Fermat p ∧ Fermat z ∧ p ≠ z ∧ p - 1 ∣ lcmN (p - 1) (z - 1) ∧ z - 1 ∣ lcmN (p - 1) (z - 1)
theorem facts_0 : KeyFacts c_256_189 c_255_19 := ⟨fermat_256_189, fermat_255_19, by decide +kernel, by decide +kernel, by decide +kernel⟩
theorem facts_1 : KeyFacts c_256_357 c_255_31 := ⟨fermat_256_357, fermat_255_31, by decide +kernel, by decide +kernel, by decide +kernel⟩
theorem facts_2 : KeyFacts c_256_435 c_255_19 := ⟨fermat_256_435, fermat_255_19, by decide +kernel, by decide +kernel, by decide +kernel⟩
theorem facts_3 : KeyFacts c_512_569 c_511_187 := ⟨fermat_512_569, fermat_511_187, by decide +kernel, by decide +kernel, by decide +kernel⟩
theorem facts_any : ∀ j, j < 4 → KeyFacts (keyP j) (keyQ j)
  | 0, _ => facts_0
  | 1, _ => facts_1
  | 2, _ => facts_2
  | 3, _ => facts_3
  | n + 4, h => absurd h (by omega)
theorem seal_small (b : List UInt8) {n : Nat} (h : 54 ≤ n) : numB (sealL b n) < 256 ^ (n - 1) := by
  have hl := sealL_length b h
  have e : sealL b n = 0 :: (1 :: (List.replicate (n - 54) 255 ++ (0 :: algL) ++ shaL b)) := by
    unfold sealL
    simp only [List.cons_append, List.nil_append, List.append_assoc]
  rw [e] at hl ⊢
  generalize 1 :: (List.replicate (n - 54) 255 ++ (0 :: algL) ++ shaL b) = t at *
  rw [List.length_cons] at hl
  have h2 := numB_lt t
  rw [show t.length = n - 1 by omega] at h2
  rw [numB_cons]
  simpa using h2
/-- What is raised to K and then to e is as it was, and the other way about. -/
theorem key_back {p z N K ee : Nat} (hF : KeyFacts p z) (hN : N = p * z) (hK : K * (ee % lcmN (p - 1) (z - 1)) % lcmN (p - 1) (z - 1) = 1) : (∀ x, x < N → (x ^ K % N) ^ ee % N = x) ∧ ∀ x y, x < N → y < N → x ^ ee % N = y ^ ee % N → x = y := by
  obtain ⟨f1, f2, hne, d1, d2⟩ := hF
  subst hN
  have h1 : K * ee % lcmN (p - 1) (z - 1) = 1 := by
    rw [Nat.mul_mod] at hK ⊢
    rw [Nat.mod_mod] at hK
    exact hK
  exact ⟨fun x hx => rsa_back f1 f2 hne d1 d2 h1 x hx, fun x y hx hy he => rsa_apart f1 f2 hne d1 d2 (by rw [Nat.mul_comm]; exact h1) hx hy he⟩
end Go.Proofs.YtpcmpeeflnlkpaaGreatDoor

/-
  A key of the laws: all that the laws want of it.
-/
namespace Go.Proofs.YtpcmpeeflnlkpaaGreatDoor
open Go.RowKit Ch
set_option maxRecDepth 100000

/-- A key whose signatures are verified. -/
structure KeyIs (w : World) (v1 v2 v3 : Value) (R E D : List UInt8) (n : Nat) : Prop where
  at1 : IsBytes w v1 ⟨R.toArray⟩
  at2 : IsBytes w v2 ⟨E.toArray⟩
  at3 : IsBytes w v3 ⟨D.toArray⟩
  right : rightP R E D
  priv : numB D ≠ 0
  bare : bareL R = R
  bareE : bareL E = E
  bareD : bareL D = D
  len : R.length = n
  lenE : E.length = 3
  lenD : D.length ≤ n
  size : 62 ≤ n ∧ n ≤ 128
  back : ∀ b, powL R D b ^ numB E % numB R = numB (sealL b n)
  apart : ∀ x y, x < numB R → y < numB R → x ^ numB E % numB R = y ^ numB E % numB R → x = y
theorem KeyIs.later {w w' : World} {v1 v2 v3 : Value} {R E D : List UInt8} {n : Nat} (h : KeyIs w v1 v2 v3 R E D n) (hb : Below w.heap.size w w') : KeyIs w' v1 v2 v3 R E D n :=
  { h with at1 := h.at1.later hb, at2 := h.at2.later hb, at3 := h.at3.later hb }
theorem keyIs_of {p z n : Nat} {E : List UInt8} {w : World} {v1 v2 v3 : Value} {ee : Nat} (hF : KeyFacts p z) (hn1 : 256 ^ (n - 1) ≤ p * z) (hn2 : p * z < 256 ^ n) (hn3 : 62 ≤ n) (hn4 : n ≤ 128) (hE : bareL E = E) (hee : numB E = ee) (hE3 : E.length = 3)
    (h : MakeOk p z ee E w v1 v2 v3) : ∃ R D, KeyIs w v1 v2 v3 R E D n := by
  obtain ⟨_, R, D, K, i1, i2, i3, bR, nR, _, bD, nD, _, hK, hr⟩ := h
  rw [hE] at i2 hr
  have hlen : R.length = n := len_of bR (by omega) (by rw [nR]; exact hn1) (by rw [nR]; exact hn2)
  obtain ⟨hb1, hb2⟩ := key_back hF nR hK
  have hl := right_len hr
  rw [bR, hlen, bD] at hl
  refine ⟨R, D, ?_⟩
  refine { at1 := i1, at2 := i2, at3 := i3, right := hr, priv := ?_, bare := bR, bareE := hE, bareD := bD, len := hlen, lenE := hE3, lenD := hl.2.1, size := ⟨hn3, hn4⟩, back := fun b => ?_, apart := ?_ }
  · intro h0
    rw [nD] at h0
    rw [h0, Nat.zero_mul, Nat.zero_mod] at hK
    cases hK
  · unfold powL
    rw [bR, hlen, hee, nD]
    refine hb1 _ ?_
    rw [nR]
    exact Nat.lt_of_lt_of_le (seal_small b (by omega)) hn1
  · rw [hee]
    exact hb2
theorem key_is (j : Nat) (hj : j < 4) {w : World} {v1 v2 v3 : Value} (h : MakeOk (keyP j) (keyQ j) 65537 [1, 0, 1] w v1 v2 v3) : ∃ R D, KeyIs w v1 v2 v3 R [1, 0, 1] D (keyN j) := by
  obtain ⟨_, n1, n2, n3, _⟩ := pair_any j hj
  exact keyIs_of (facts_any j hj) n1 n2 n3 (keyN_le j) rfl rfl rfl h
theorem keyAt_lt (i : Int) : keyAt i < 4 := by
  unfold keyAt
  have h1 := Int.natAbs_tmod (i.tmod 4 + 4) 4
  have h2 : ((i.tmod 4 + 4).tmod 4).natAbs < 4 := by
    rw [h1]
    exact Nat.mod_lt _ (by decide)
  omega
/-- Sign by such a key. -/
theorem keySign {w : World} {v1 v2 v3 vb : Value} {R E D b : List UInt8} {n : Nat} (h : KeyIs w v1 v2 v3 R E D n) (hb : IsBytes w vb ⟨b.toArray⟩) (hK : KTab w) (lb : b.length ≤ 900000) :
    Calls Tryz.prog 9 #[.agg #[v1, v2, v3], vb] w fun e w' => (∃ x, e = .returned (.tuple #[x, .int .i64 0]) ∧ IsBytes w' x ⟨(dB (powL R D b) n).toArray⟩) ∧ Below w.heap.size w w' := by
  have h1 := h.size
  have h2 := h.len
  have h3 := h.lenE
  have h4 := h.lenD
  refine (qSign_any v1 v2 v3 vb R E D b w h.at1 h.at2 h.at3 hb hK (by omega) (by omega) (by omega) lb).mono ?_
  rintro e w' ⟨hs, hw⟩
  have hbk := h.back b
  rcases hs with ⟨_, _, _, x, he, hx⟩ | ⟨_, _, ho, _⟩ | ⟨ho, _⟩
  · rw [h.bare, h.len] at hx
    exact ⟨⟨x, he, hx⟩, hw⟩
  · rw [h.bare, h.len] at ho
    exact absurd hbk ho
  · exact absurd ⟨h.right, h.priv⟩ ho
/-- The signature is verified. -/
theorem key_ver {w : World} {v1 v2 v3 : Value} {R E D : List UInt8} {n : Nat} (h : KeyIs w v1 v2 v3 R E D n) (D' b : List UInt8) (hD : rightP R E D') : verL R E D' b (dB (powL R D b) n) = 0 := by
  have hN : numB R ≠ 0 := by
    have h9 := (right_len h.right).2.2
    rwa [numB_bare] at h9
  have hp : powL R D b < numB R := by
    unfold powL
    exact Nat.mod_lt _ (by omega)
  have hv : numB (dB (powL R D b) n) = powL R D b := by
    rw [numB_dB]
    refine Nat.mod_eq_of_lt (Nat.lt_trans hp ?_)
    have := numB_lt R
    rwa [h.len] at this
  unfold verL
  rw [if_pos hD, h.bare, h.len, if_pos (dB_length _ _), hv, if_pos ⟨hp, h.back b⟩]
/-- A right key without its private half is right. -/
theorem right_nil {R E D : List UInt8} (h : rightP R E D) : rightP R E [] := by
  obtain ⟨h1, h2, h3, h4, h5, _⟩ := h
  have h0 : numB ([] : List UInt8) = 0 := rfl
  exact ⟨h1, h2, h3, h4, h5, by rw [h0]; omega⟩
end Go.Proofs.YtpcmpeeflnlkpaaGreatDoor

/-
  Layer 7's laws: awake.
-/
namespace Go.Proofs.YtpcmpeeflnlkpaaGreatDoor
open Go.RowKit Ch
set_option maxRecDepth 100000

set_option maxHeartbeats 8000000 in
theorem lqAwake_any (w : World) (hK : KTab w) : Calls Tryz.prog 7 #[] w fun e w' => e = .returned (.bool true) ∧ Below w.heap.size w w' := by
  have kc := fun (w : World) (C : Array Value) (n c : Nat) => Lib.run_convert_bytes_const (P := Tryz.prog) w 22 5 C n c Tryz.underlying22 Tryz.underlying5
  have hKy := lqKey_any 0 w
  rw [show keyAt 0 = 0 from rfl] at hKy
  have HKT := show Hid (∀ u, Below w.heap.size w u → KTab u) from fun u hu => hK.later hu
  clear hK
  go_enter Tryz.func7, Tryz.ntmps7
  go_wp2_with fail
  refine hKy.mono ?_
  rintro e w1 ⟨⟨v1, v2, v3, rfl, hok⟩, b1⟩
  obtain ⟨R, D, hk⟩ := key_is 0 (by decide) hok
  rw [show keyN 0 = 64 from rfl] at hk
  obtain ⟨y1, k1, c1, rfl⟩ := isb_open hk.at1
  obtain ⟨y2, k2, c2, rfl⟩ := isb_open hk.at2
  obtain ⟨y3, k3, c3, rfl⟩ := isb_open hk.at3
  obtain rfl : k1 = 64 := (isb_size hk.at1).symm.trans ((size_of_list R).trans hk.len)
  clear hKy hok
  have kb := keyBox w1 (.slice y1 64 c1) (.slice y2 k2 c2) (.slice y3 k3 c3)
  obtain ⟨q, hq⟩ : ∃ q, w1.heap.size = q := ⟨_, rfl⟩
  obtain ⟨W2, hW2⟩ : ∃ W, w1.alloc (.cells #[.slice y1 64 c1, .slice y2 k2 c2, .slice y3 k3 c3] 25) = W := ⟨_, rfl⟩
  rw [hW2, hq] at kb
  obtain ⟨W3, hW3⟩ : ∃ W, W2.alloc (.cells #[.int .u8 97, .int .u8 98, .int .u8 99] 5 (3, 4)) = W := ⟨_, rfl⟩
  have b3 : Below W2.heap.size W2 W3 := by rw [← hW3]; exact alB _ _
  have i3 : IsBytes W3 (.slice (some ⟨W2.heap.size, 0, none⟩) 3 3) ⟨([97, 98, 99] : List UInt8).toArray⟩ := by rw [← hW3]; exact litM W2 ⟨#[97, 98, 99]⟩ _ _ rfl (show (3 : Nat) ≤ maxLen by unfold maxLen; decide)
  have hw3 := bl2 b1 (bl2 kb.below b3)
  have hSg := keySign (hk.later (bl2 kb.below b3)) i3 (HKT.out W3 hw3) (by decide)
  have HU := show Hid (∀ u, Below W2.heap.size W2 u → u.cell? ⟨q, 0, none⟩ = some (.slice y1 64 c1) ∧ u.cell? ⟨q, 1, none⟩ = some (.slice y2 k2 c2) ∧ u.cell? ⟨q, 2, none⟩ = some (.slice y3 k3 c3) ∧ KeyIs u (.slice y1 64 c1) (.slice y2 k2 c2) (.slice y3 k3 c3) R [1, 0, 1] D 64 ∧ KTab u ∧ Below w.heap.size w u) from fun u hu => by
    obtain ⟨x, y, z⟩ := kb.cells hu
    have hb := bl2 b1 (bl2 kb.below hu)
    exact ⟨x, y, z, hk.later (bl2 kb.below hu), HKT.out u hb, hb⟩
  have HB3 := show Hid (Below W2.heap.size W2 W3) from b3
  obtain ⟨g0, g1, g2⟩ := kb.cells (Below.refl _ W2)
  clear kb hk b1 b3 i3 hw3
  go_wp2_with fail
  refine hSg.mono ?_
  rintro e w4 ⟨⟨x4, rfl, i4⟩, b4⟩
  obtain ⟨y4, c4, rfl⟩ : ∃ y c, x4 = .slice y 64 c := by
    obtain ⟨y, c, h⟩ := isb_shape i4
    rw [dB_length] at h
    exact ⟨y, c, h⟩
  clear hSg g0 g1 g2
  obtain ⟨g0, g1, g2, hk, _⟩ := HU.out w4 (bl2 HB3.out b4)
  have l1 := hk.len
  have l2 := hk.lenD
  have hPb := qPublic_any (.slice y1 64 c1) (.slice y2 k2 c2) (.slice y3 k3 c3) R [1, 0, 1] D w4 hk.at1 hk.at2 hk.at3 (by omega) (by decide) (by omega)
  have H4 := show Hid (IsBytes w4 (.slice y4 64 c4) ⟨(dB (powL R D [97, 98, 99]) 64).toArray⟩ ∧ Below W2.heap.size W2 w4 ∧ rightP R [1, 0, 1] D ∧ R.length = 64) from ⟨i4, bl2 HB3.out b4, hk.right, l1⟩
  have HV := show Hid (verL R [1, 0, 1] [] [97, 98, 99] (dB (powL R D [97, 98, 99]) 64) = 0) from key_ver hk [] _ (right_nil hk.right)
  clear i4 b4 hk l1 l2
  go_wp2_with fail
  refine hPb.mono ?_
  rintro e w5 ⟨⟨v5, rfl, ya, ka, ca, yb, kb, cb, rfl, ia, ib⟩, b5⟩
  clear hPb
  obtain ⟨W6, hW6⟩ : ∃ W, w5.alloc (.cells #[.int .u8 97, .int .u8 98, .int .u8 99] 5 (3, 4)) = W := ⟨_, rfl⟩
  have b6 : Below w5.heap.size w5 W6 := by rw [← hW6]; exact alB _ _
  have i6 : IsBytes W6 (.slice (some ⟨w5.heap.size, 0, none⟩) 3 3) ⟨([97, 98, 99] : List UInt8).toArray⟩ := by rw [← hW6]; exact litM w5 ⟨#[97, 98, 99]⟩ _ _ rfl (show (3 : Nat) ≤ maxLen by unfold maxLen; decide)
  have hb6 := bl2 H4.out.2.1 (bl2 b5 b6)
  have hVf := qVerify_any (.slice ya ka ca) (.slice yb kb cb) (.slice none 0 0) (.slice (some ⟨w5.heap.size, 0, none⟩) 3 3) (.slice y4 64 c4) R [1, 0, 1] [] [97, 98, 99] (dB (powL R D [97, 98, 99]) 64) W6 (ia.later b6) (ib.later b6) (isb_none W6) i6 (H4.out.1.later (bl2 b5 b6)) (HU.out W6 hb6).2.2.2.2.1 (by have := H4.out.2.2.2; omega) (by decide) (by decide) (by decide) (by rw [dB_length]; decide)
  rw [HV.out] at hVf
  have H6 := show Hid (Below W2.heap.size W2 W6) from hb6
  clear ia ib b5 b6 i6 hb6 g0 g1 g2
  go_wp2_with fail
  refine hVf.mono ?_
  rintro e w7 ⟨rfl, b7⟩
  clear hVf
  have HF := show Hid (Below w.heap.size w w7) from (HU.out w7 (bl2 H6.out b7)).2.2.2.2.2
  clear b7
  go_wp2_with fail
  go_ret
  exact ⟨rfl, HF.out⟩
end Go.Proofs.YtpcmpeeflnlkpaaGreatDoor

/-
  The document's parts and shift, rot and low.
-/
namespace Go.Proofs.YtpcmpeeflnlkpaaGreatDoor
open Go.RowKit Ch
set_option maxRecDepth 100000

def R64 : KR := ⟨.u64, 62, 73, 8, Tryz.underlying73, by kernel_rfl, by decide⟩
/-- Divided by 65536 so many times. -/
def dv (n : Nat) : Nat → Nat
  | 0 => n
  | i + 1 => dv n i / 65536
def partsN (n i : Nat) : List Nat := (List.range i).map fun j => dv n j % 65536
theorem partsN_succ (n i : Nat) : partsN n (i + 1) = partsN n i ++ [dv n i % 65536] := by simp [partsN, List.range_succ]
theorem dv_lt {n : Nat} (h : n < 18446744073709551616) : ∀ i, dv n i < 18446744073709551616
  | 0 => h
  | i + 1 => Nat.lt_of_le_of_lt (Nat.div_le_self _ _) (dv_lt h i)
set_option maxHeartbeats 2000000 in
theorem vParts_any (n : Nat) (w : World) (hn : n < 18446744073709551616) :
    Calls Tryz.prog 101 #[.int .u64 (n : Int)] w fun e w' => (∃ v, e = .returned v ∧ w'.ownsRow w.heap.size 62 1 v (partsN n 4).length (kc .u64 (partsN n 4))) ∧ Below w.heap.size w w' := by
  go_enter Tryz.func101, Tryz.ntmps101
  go_wp2_with fail
  go_loopw [0, 3, 4] (fun u v t wr => ∃ i : Nat, i ≤ 4 ∧ t = .int .i64 (i : Int) ∧ u = .int .u64 (dv n i : Int) ∧ wr.ownsRow w.heap.size 62 1 v (partsN n i).length (kc .u64 (partsN n i)) ∧ Below w.heap.size w wr) (fun _ _ t _ => 4 - (intOf t).toNat)
  case atStart => exact ⟨0, by omega, rfl, rfl, own_nil _ _ _, Below.refl _ _⟩
  case round =>
    obtain ⟨i, hi, rfl, rfl, hown, hb⟩ := hrel
    by_cases hlt : i < 4
    · have hlt2 : (i : Int) < 4 := by omega
      have hN := dv_lt hn i
      have hpl : (partsN n i).length ≤ 1000000 := by simp [partsN]; omega
      have hs := partsN_succ n i
      have hq : dv n (i + 1) = dv n i / 65536 := rfl
      obtain ⟨N, hNe⟩ : ∃ N, dv n i = N := ⟨_, rfl⟩
      rw [hNe] at hN hs hq ⊢
      obtain ⟨m, hm⟩ : ∃ m, N % 65536 = m := ⟨_, rfl⟩
      obtain ⟨q, hqe⟩ : ∃ q, N / 65536 = q := ⟨_, rfl⟩
      have e1 : (N : Int).tmod 65536 = (m : Int) := by rw [← hm, Int.tmod_eq_emod_of_nonneg (by omega)]; omega
      have e2 : (N : Int).tdiv 65536 = (q : Int) := by rw [← hqe, Int.tdiv_eq_ediv_of_nonneg (by omega)]; omega
      have hq64 : q < 18446744073709551616 := by omega
      have hm64 : m < 65536 := by omega
      rw [hm] at hs
      have HA : Hid (partsN n i ++ [m] = partsN n (i + 1)) := hs.symm
      have HQ : Hid (q = dv n (i + 1)) := by unfold Hid; rw [hq, hqe]
      have hbz := hb.size
      clear hs hq hNe hm hqe
      go_wp2_with (at_builtin; go_must (refine wpList_append_n R64 rfl _ _ rfl w.heap.size _ _ rfl hown _ rfl m rfl _ HA hpl hbz hb ?_; intro v2 w2 ho2 hb2))
      go_roundw
      case rel => exact ⟨i + 1, by omega, by go_num, by rw [HQ.out], ho2, hb2⟩
      case measure => simp [intOf]; omega
    · have hlt2 : ¬ (i : Int) < 4 := by omega
      obtain rfl : i = 4 := by omega
      go_wp2_with fail
      go_ret
      exact ⟨⟨_, rfl, hown⟩, hb⟩
end Go.Proofs.YtpcmpeeflnlkpaaGreatDoor

/-
  The document's times: two rows of parts.
-/
namespace Go.Proofs.YtpcmpeeflnlkpaaGreatDoor
open Go.RowKit Ch
set_option maxRecDepth 100000

def M64 : Nat := 18446744073709551616
def mulC (c o a b : Nat) : Nat := ((c + o) % M64 + a * b % M64) % M64
def innS (x : Nat) (b : List Nat) (i : Nat) (o0 : List Nat) : Nat → List Nat × Nat
  | 0 => (o0, 0)
  | k + 1 => ((innS x b i o0 k).1.set (i + k) (mulC (innS x b i o0 k).2 (atN (innS x b i o0 k).1 (i + k)) x (atN b k) % 65536), mulC (innS x b i o0 k).2 (atN (innS x b i o0 k).1 (i + k)) x (atN b k) / 65536)
def outS (a b : List Nat) : Nat → List Nat
  | 0 => List.replicate (a.length + b.length) 0
  | i + 1 => (innS (atN a i) b i (outS a b i) b.length).1.set (i + b.length) ((atN (innS (atN a i) b i (outS a b i) b.length).1 (i + b.length) + (innS (atN a i) b i (outS a b i) b.length).2) % M64)
def timesN (a b : List Nat) : List Nat := outS a b a.length
theorem innS_length (x : Nat) (b : List Nat) (i : Nat) (o0 : List Nat) (k : Nat) : (innS x b i o0 k).1.length = o0.length := by
  induction k with
  | zero => rfl
  | succ k ih => rw [innS, List.length_set, ih]
theorem outS_length (a b : List Nat) (i : Nat) : (outS a b i).length = a.length + b.length := by
  induction i with
  | zero => simp [outS]
  | succ i ih => rw [outS, List.length_set, innS_length, ih]
def All64 (L : List Nat) : Prop := ∀ i, atN L i < M64
theorem all_set {L : List Nat} (h : All64 L) (i n : Nat) (hn : n < M64) : All64 (L.set i n) := by
  intro j
  unfold atN
  rw [List.getElem?_set]
  split
  · split
    · exact hn
    · show 0 < M64; unfold M64; omega
  · exact h j
theorem innS_64 (x : Nat) (b : List Nat) (i : Nat) (o0 : List Nat) (h : All64 o0) (k : Nat) : All64 (innS x b i o0 k).1 ∧ (innS x b i o0 k).2 < M64 := by
  induction k with
  | zero => exact ⟨h, by show 0 < M64; unfold M64; omega⟩
  | succ k ih =>
    rw [innS]
    have hm : mulC (innS x b i o0 k).2 (atN (innS x b i o0 k).1 (i + k)) x (atN b k) < M64 := Nat.mod_lt _ (by unfold M64; omega)
    exact ⟨all_set ih.1 _ _ (Nat.lt_of_le_of_lt (Nat.mod_le _ _) hm), Nat.lt_of_le_of_lt (Nat.div_le_self _ _) hm⟩
theorem outS_64 (a b : List Nat) (i : Nat) : All64 (outS a b i) := by
  induction i with
  | zero =>
    intro j
    unfold atN outS
    rw [List.getElem?_replicate]
    split <;> (show 0 < M64; unfold M64; omega)
  | succ i ih =>
    rw [outS]
    exact all_set (innS_64 _ _ _ _ ih _).1 _ _ (Nat.mod_lt _ (by unfold M64; omega))
theorem wrap_sum (a b : Nat) : IntKind.u64.wrap ((a : Int) + (b : Int)) = (((a + b) % M64 : Nat) : Int) := by rw [wrap_u64]; unfold M64; omega
theorem wrap_mulV (a b : Nat) : IntKind.u64.wrap ((a : Int) * (b : Int)) = ((a * b % M64 : Nat) : Int) := by
  rw [wrap_u64, ← Int.natCast_mul]; unfold M64; omega
set_option maxHeartbeats 4000000 in
theorem vTimes_any (xa xb : Option Addr) (ca cb : Nat) (a b : List Nat) (w : World) (hA : IsN .u64 w (.slice xa a.length ca) a) (hB : IsN .u64 w (.slice xb b.length cb) b) (ha : a.length ≤ 1000) (hb : b.length ≤ 1000) (ha64 : All64 a) (hb64 : All64 b) :
    Calls Tryz.prog 100 #[.slice xa a.length ca, .slice xb b.length cb] w fun e w' => (∃ v, e = .returned v ∧ w'.ownsRow w.heap.size 62 1 v (timesN a b).length (kc .u64 (timesN a b))) ∧ Below w.heap.size w w' := by
  obtain ⟨la, hla⟩ : ∃ la, a.length = la := ⟨_, rfl⟩
  obtain ⟨lb, hlb⟩ : ∃ lb, b.length = lb := ⟨_, rfl⟩
  obtain ⟨n, hn⟩ : ∃ n, la + lb = n := ⟨_, rfl⟩
  have en : (la : Int) + (lb : Int) = (n : Int) := by omega
  rw [hla] at hA ha ⊢
  rw [hlb] at hB hb ⊢
  have HL := show Hid (a.length = la ∧ b.length = lb ∧ la + lb = n) from ⟨hla, hlb, hn⟩
  have hn2 : n ≤ 2000 := by omega
  have HT := show Hid (timesN a b = outS a b la) from by unfold Hid timesN; rw [hla]
  have HA := show Hid (IsN .u64 w (.slice xa la ca) a ∧ IsN .u64 w (.slice xb lb cb) b) from ⟨hA, hB⟩
  clear hla hlb hn hA hB
  go_enter Tryz.func100, Tryz.ntmps100
  go_wp2_with (at_make; go_must (refine wpList_make_n R64 w rfl _ _ rfl .i64 .i64 _ _ n rfl rfl rfl rfl (by omega) ?_; intro w1 ho1 hb1))
  have h0 : w1.ownsRow w.heap.size 62 1 (.slice (some ⟨w.heap.size, 0, none⟩) n n) (outS a b 0).length (kc .u64 (outS a b 0)) := by
    have e : outS a b 0 = List.replicate n 0 := by unfold outS; rw [HL.out.1, HL.out.2.1, HL.out.2.2]
    rw [e]; exact ho1
  clear ho1
  go_loopw [6] (fun t wr => ∃ i : Nat, i ≤ la ∧ t = .int .i64 (i : Int) ∧ Hid (wr.ownsRow w.heap.size 62 1 (.slice (some ⟨w.heap.size, 0, none⟩) n n) (outS a b i).length (kc .u64 (outS a b i))) ∧ Below w.heap.size w wr) (fun t _ => la - (intOf t).toNat)
  case atStart => exact ⟨0, by omega, rfl, h0, hb1⟩
  case round =>
    obtain ⟨i, hi, rfl, ho, hbw⟩ := hrel
    by_cases hlt : i < la
    · have hlt2 : (i : Int) < (la : Int) := by omega
      obtain ⟨X, hX⟩ : ∃ X, atN a i = X := ⟨_, rfl⟩
      have hX64 := ha64 i
      rw [hX] at hX64
      have HX := show Hid (a[i]? = some X) from by rw [← hX]; exact atN_some (by rw [HL.out.1]; exact hlt)
      have HO := show Hid (outS a b (i + 1) = (innS X b i (outS a b i) lb).1.set (i + lb) ((atN (innS X b i (outS a b i) lb).1 (i + lb) + (innS X b i (outS a b i) lb).2) % M64)) from by unfold Hid; rw [outS, hX, HL.out.2.1]
      have HO64 := show Hid (All64 (outS a b i) ∧ (outS a b i).length = n) from ⟨outS_64 a b i, by rw [outS_length, HL.out.1, HL.out.2.1, HL.out.2.2]⟩
      generalize outS a b i = O at *
      clear hX
      go_wp2_with fail
      go_loopw [7, 8] (fun u t wr => ∃ k : Nat, k ≤ lb ∧ t = .int .i64 (k : Int) ∧ u = .int .u64 ((innS X b i O k).2 : Int) ∧ Hid (wr.ownsRow w.heap.size 62 1 (.slice (some ⟨w.heap.size, 0, none⟩) n n) (innS X b i O k).1.length (kc .u64 (innS X b i O k).1)) ∧ Below w.heap.size w wr) (fun _ t _ => lb - (intOf t).toNat)
      case atStart => exact ⟨0, by omega, rfl, rfl, ho, hbw⟩
      case round =>
        obtain ⟨k, hk, rfl, rfl, hp, hbp⟩ := hrel
        have hp64 := innS_64 X b i O HO64.out.1 k
        have hpl := innS_length X b i O k
        rw [HO64.out.2] at hpl
        by_cases hltk : k < lb
        · have hltk2 : (k : Int) < (lb : Int) := by omega
          obtain ⟨ik, hik⟩ : ∃ ik, i + k = ik := ⟨_, rfl⟩
          have eik : (i : Int) + (k : Int) = (ik : Int) := by omega
          have hikn : ik < n := by have := HL.out.2.2; omega
          obtain ⟨Y, hY⟩ : ∃ Y, atN b k = Y := ⟨_, rfl⟩
          have hY64 := hb64 k
          rw [hY] at hY64
          have hYs : b[k]? = some Y := by rw [← hY]; exact atN_some (by rw [HL.out.2.1]; exact hltk)
          obtain ⟨Z, hZ⟩ : ∃ Z, atN (innS X b i O k).1 ik = Z := ⟨_, rfl⟩
          have hZ64 := hp64.1 ik
          rw [hZ] at hZ64
          have hZs : (innS X b i O k).1[ik]? = some Z := by rw [← hZ]; exact atN_some (by omega)
          have hC64 := hp64.2
          have HS := show Hid (innS X b i O (k + 1) = ((innS X b i O k).1.set ik (mulC (innS X b i O k).2 Z X Y % 65536), mulC (innS X b i O k).2 Z X Y / 65536)) from by unfold Hid; rw [innS, hik, hY, hZ]
          generalize (innS X b i O k).2 = C at *
          obtain ⟨x1, x2, x3, hgl, gc, gf, gs⟩ := own_setG hp.out hZs
          clear x1 x2 x3
          obtain ⟨x1, ba, oa, rfl, hal, gA⟩ := IsN.cellAt (HA.out.1.later hbp) HX.out
          obtain ⟨x2, bb, ob, rfl, hbl, gB⟩ := IsN.cellAt (HA.out.2.later hbp) hYs
          clear x1 x2
          obtain ⟨q1, hq1⟩ : ∃ q, (C + Z) % M64 = q := ⟨_, rfl⟩
          obtain ⟨q2, hq2⟩ : ∃ q, X * Y % M64 = q := ⟨_, rfl⟩
          obtain ⟨q3, hq3⟩ : ∃ q, (q1 + q2) % M64 = q := ⟨_, rfl⟩
          have e1 : IntKind.u64.wrap ((C : Int) + (Z : Int)) = (q1 : Int) := by rw [wrap_sum, hq1]
          have e2 : IntKind.u64.wrap ((X : Int) * (Y : Int)) = (q2 : Int) := by rw [wrap_mulV, hq2]
          have e3 : IntKind.u64.wrap ((q1 : Int) + (q2 : Int)) = (q3 : Int) := by rw [wrap_sum, hq3]
          obtain ⟨m, hm⟩ : ∃ m, q3 % 65536 = m := ⟨_, rfl⟩
          obtain ⟨d, hd⟩ : ∃ d, q3 / 65536 = d := ⟨_, rfl⟩
          have e4 : (q3 : Int).tmod 65536 = (m : Int) := by rw [← hm, Int.tmod_eq_emod_of_nonneg (by omega)]; omega
          have e5 : (q3 : Int).tdiv 65536 = (d : Int) := by rw [← hd, Int.tdiv_eq_ediv_of_nonneg (by omega)]; omega
          have hq364 : q3 < 18446744073709551616 := by rw [← hq3]; exact Nat.mod_lt _ (by unfold M64; omega)
          have hm2 : m < 65536 := by omega
          have hd2 : d < 18446744073709551616 := by omega
          have HR := show Hid (mulC C Z X Y = q3) from by unfold Hid mulC; rw [hq1, hq2, hq3]
          have HMD := show Hid (q3 % 65536 = m ∧ q3 / 65536 = d) from ⟨hm, hd⟩
          clear hpl hq1 hq2 hq3 hm hd hYs hY hZ hik gs gf
          have HZS := show Hid ((innS X b i O k).1[ik]? = some Z) from hZs
          clear hZs
          go_wp2_with fail
          go_quiet (fail)
          have hpq := ownsRow_later hp.out (below_drewN (Below.refl wr.heap.size wr) nq)
          have hbq := below_drewN hbp nq
          generalize wr.drewN nq = wq at *
          obtain ⟨x1, x2, x3, hgl2, gc2, gf2, gs2⟩ := own_setG hpq HZS.out
          have HG := show Hid ((wq.setCell ⟨w.heap.size, ik, none⟩ (.int .u64 (m : Int))).ownsRow w.heap.size 62 1 (.slice (some ⟨w.heap.size, 0, none⟩) n n) ((innS X b i O k).1.set ik m).length (kc .u64 ((innS X b i O k).1.set ik m))) from gs2 m
          have hbs := hbq.setCell (p := ⟨w.heap.size, ik, none⟩) (Nat.le_refl _) (.int .u64 (m : Int))
          clear x1 x2 x3 gs2 hpq hp
          go_wp2_with fail
          go_roundw
          case rel => exact ⟨k + 1, by omega, by go_num, by rw [HS.out, HR.out, HMD.out.2], by unfold Hid; rw [HS.out, HR.out, HMD.out.1]; exact HG.out, hbs⟩
          case measure => simp [intOf]; omega
        · have hltk2 : ¬ (k : Int) < (lb : Int) := by omega
          obtain rfl : k = lb := by omega
          obtain ⟨ik, hik⟩ : ∃ ik, i + k = ik := ⟨_, rfl⟩
          have eik : (i : Int) + (k : Int) = (ik : Int) := by omega
          have hikn : ik < n := by have := HL.out.2.2; omega
          obtain ⟨Z, hZ⟩ : ∃ Z, atN (innS X b i O k).1 ik = Z := ⟨_, rfl⟩
          have hZ64 := hp64.1 ik
          rw [hZ] at hZ64
          have hZs : (innS X b i O k).1[ik]? = some Z := by rw [← hZ]; exact atN_some (by omega)
          have hC64 := hp64.2
          have HS := show Hid (outS a b (i + 1) = (innS X b i O k).1.set ik ((Z + (innS X b i O k).2) % M64)) from by unfold Hid; rw [HO.out, hik, hZ]
          generalize (innS X b i O k).2 = C at *
          obtain ⟨q1, hq1⟩ : ∃ q, (Z + C) % M64 = q := ⟨_, rfl⟩
          have e1 : IntKind.u64.wrap ((Z : Int) + (C : Int)) = (q1 : Int) := by rw [wrap_sum, hq1]
          have hq64 : q1 < 18446744073709551616 := by rw [← hq1]; exact Nat.mod_lt _ (by unfold M64; omega)
          obtain ⟨x1, x2, x3, hgl2, gc2, gf2, gs2⟩ := own_setG hp.out hZs
          have HG := show Hid ((wr.setCell ⟨w.heap.size, ik, none⟩ (.int .u64 (q1 : Int))).ownsRow w.heap.size 62 1 (.slice (some ⟨w.heap.size, 0, none⟩) n n) ((innS X b i O k).1.set ik q1).length (kc .u64 ((innS X b i O k).1.set ik q1))) from gs2 q1
          have hbs := hbp.setCell (p := ⟨w.heap.size, ik, none⟩) (Nat.le_refl _) (.int .u64 (q1 : Int))
          have HQ1 := show Hid ((Z + C) % M64 = q1) from hq1
          clear x1 x2 x3 gs2 hp hpl hZs hZ hik hq1 HO
          go_wp2_with fail
          go_roundw
          case rel => exact ⟨i + 1, by omega, by go_num, by unfold Hid; rw [HS.out, HQ1.out]; exact HG.out, hbs⟩
          case measure => simp [intOf]; omega
    · have hlt2 : ¬ (i : Int) < (la : Int) := by omega
      obtain rfl : i = la := by omega
      go_wp2_with fail
      go_ret
      exact ⟨⟨_, rfl, by rw [HT.out]; exact ho.out⟩, hbw⟩
end Go.Proofs.YtpcmpeeflnlkpaaGreatDoor
