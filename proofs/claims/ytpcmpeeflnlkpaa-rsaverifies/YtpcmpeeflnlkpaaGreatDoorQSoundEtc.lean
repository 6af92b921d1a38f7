/-
  What a key of the laws signs comes back.
  A key of the laws: all that the laws want of it.
  Layer 7's laws: awake.
  The law RsaVerifies.
-/
import Derived.Test.YtpcmpeeflnlkpaaGreatDoorQSignEtc
import Derived.Test.YtpcmpeeflnlkpaaGreatDoorQPrime
import Derived.Lib.SlBytesConst
import Derived.Test.YtpcmpeeflnlkpaaGreatDoorNCmpIEtc
namespace Go.Proofs.YtpcmpeeflnlkpaaGreatDoor
open Go.RowKit Ch
set_option maxRecDepth 100000

def Fermat (p : Nat) : Prop := Pr p ∧ ∀ x, x % p ≠ 0 → x ^ (p - 1) % p = 1
theorem fermat_256_189 : Fermat c_256_189 := by
  have h : c_256_189 = 115792089237316195423570985008687907853269984665640564039457584007913129639747 := by decide +kernel
  rw [h]
  exact both_115792089237316195423570985008687907853269984665640564039457584007913129639747
theorem fermat_255_19 : Fermat c_255_19 := by
  have h : c_255_19 = 57896044618658097711785492504343953926634992332820282019728792003956564819949 := by decide +kernel
  rw [h]
  exact both_57896044618658097711785492504343953926634992332820282019728792003956564819949
theorem fermat_256_357 : Fermat c_256_357 := by
  have h : c_256_357 = 115792089237316195423570985008687907853269984665640564039457584007913129639579 := by decide +kernel
  rw [h]
  exact both_115792089237316195423570985008687907853269984665640564039457584007913129639579
theorem fermat_255_31 : Fermat c_255_31 := by
  have h : c_255_31 = 57896044618658097711785492504343953926634992332820282019728792003956564819937 := by decide +kernel
  rw [h]
  exact both_57896044618658097711785492504343953926634992332820282019728792003956564819937
theorem fermat_256_435 : Fermat c_256_435 := by
  have h : c_256_435 = 115792089237316195423570985008687907853269984665640564039457584007913129639501 := by decide +kernel
  rw [h]
  exact both_115792089237316195423570985008687907853269984665640564039457584007913129639501
theorem fermat_512_569 : Fermat c_512_569 := by
  have h : c_512_569 = 13407807929942597099574024998205846127479365820592393377723561443721764030073546976801874298166903427690031858186486050853753882811946569946433649006083527 := by decide +kernel
  rw [h]
  exact both_13407807929942597099574024998205846127479365820592393377723561443721764030073546976801874298166903427690031858186486050853753882811946569946433649006083527
theorem fermat_511_187 : Fermat c_511_187 := by
  have h : c_511_187 = 6703903964971298549787012499102923063739682910296196688861780721860882015036773488400937149083451713845015929093243025426876941405973284973216824503041861 := by decide +kernel
  rw [h]
  exact both_6703903964971298549787012499102923063739682910296196688861780721860882015036773488400937149083451713845015929093243025426876941405973284973216824503041861
def KeyFacts (p z : Nat) : Prop := Fermat p ∧ Fermat z ∧ p ≠ z ∧ p - 1 ∣ lcmN (p - 1) (z - 1) ∧ z - 1 ∣ lcmN (p - 1) (z - 1)
theorem facts_0 : KeyFacts c_256_189 c_255_19 := ⟨fermat_256_189, fermat_255_19, by decide +kernel, by decide +kernel, by decide +kernel⟩
theorem facts_1 : KeyFacts c_256_357 c_255_31 := ⟨fermat_256_357, fermat_255_31, by decide +kernel, by decide +kernel, by decide +kernel⟩
theorem facts_2 : KeyFacts c_256_435 c_255_19 := ⟨fermat_256_435, fermat_255_19, by decide +kernel, by decide +kernel, by decide +kernel⟩
theorem facts_3 : KeyFacts c_512_569 c_511_187 := ⟨fermat_512_569, fermat_511_187, by decide +kernel, by decide +kernel, by decide +kernel⟩
theorem facts_any : ∀ j, j < 4 → KeyFacts (keyP j) (keyQ j)
  | 0, _ => facts_0
  | 1, _ => facts_1
  | 2, _ => facts_2
  | 3, _ => facts_3
  | n + 4, h => absurd h (by omega)
theorem seal_small (b : List UInt8) {n : Nat} (h : 54 ≤ n) : numB (sealL b n) < 256 ^ (n - 1) := by
  have hl := sealL_length b h
  have e : sealL b n = 0 :: (1 :: (List.replicate (n - 54) 255 ++ (0 :: algL) ++ shaL b)) := by
    unfold sealL
    simp only [List.cons_append, List.nil_append, List.append_assoc]
  rw [e] at hl ⊢
  generalize 1 :: (List.replicate (n - 54) 255 ++ (0 :: algL) ++ shaL b) = t at *
  rw [List.length_cons] at hl
  have h2 := numB_lt t
  rw [show t.length = n - 1 by omega] at h2
  rw [numB_cons]
  simpa using h2
/-- What is raised to K and then to e is as it was, and the other way about. -/
theorem key_back {p z N K ee : Nat} (hF : KeyFacts p z) (hN : N = p * z) (hK : K * (ee % lcmN (p - 1) (z - 1)) % lcmN (p - 1) (z - 1) = 1) : (∀ x, x < N → (x ^ K % N) ^ ee % N = x) ∧ ∀ x y, x < N → y < N → x ^ ee % N = y ^ ee % N → x = y := by
  obtain ⟨f1, f2, hne, d1, d2⟩ := hF
  subst hN
  have h1 : K * ee % lcmN (p - 1) (z - 1) = 1 := by
    rw [Nat.mul_mod] at hK ⊢
    rw [Nat.mod_mod] at hK
    exact hK
  exact ⟨fun x hx => rsa_back f1 f2 hne d1 d2 h1 x hx, fun x y hx hy he => rsa_apart f1 f2 hne d1 d2 (by rw [Nat.mul_comm]; exact h1) hx hy he⟩
end Go.Proofs.YtpcmpeeflnlkpaaGreatDoor

namespace Go.Proofs.YtpcmpeeflnlkpaaGreatDoor
open Go.RowKit Ch
set_option maxRecDepth 100000

/-- A key whose signatures are verified. -/
structure KeyIs (w : World) (v1 v2 v3 : Value) (R E D : List UInt8) (n : Nat) : Prop where
  at1 : IsBytes w v1 ⟨R.toArray⟩
  at2 : IsBytes w v2 ⟨E.toArray⟩
  at3 : IsBytes w v3 ⟨D.toArray⟩
  right : rightP R E D
  priv : numB D ≠ 0
  bare : bareL R = R
  bareE : bareL E = E
  bareD : bareL D = D
  len : R.length = n
  lenE : E.length = 3
  lenD : D.length ≤ n
  size : 62 ≤ n ∧ n ≤ 128
  back : ∀ b, powL R D b ^ numB E % numB R = numB (sealL b n)
  apart : ∀ x y, x < numB R → y < numB R → x ^ numB E % numB R = y ^ numB E % numB R → x = y
theorem KeyIs.later {w w' : World} {v1 v2 v3 : Value} {R E D : List UInt8} {n : Nat} (h : KeyIs w v1 v2 v3 R E D n) (hb : Below w.heap.size w w') : KeyIs w' v1 v2 v3 R E D n :=
  { h with at1 := h.at1.later hb, at2 := h.at2.later hb, at3 := h.at3.later hb }
theorem keyIs_of {p z n : Nat} {E : List UInt8} {w : World} {v1 v2 v3 : Value} {ee : Nat} (hF : KeyFacts p z) (hn1 : 256 ^ (n - 1) ≤ p * z) (hn2 : p * z < 256 ^ n) (hn3 : 62 ≤ n) (hn4 : n ≤ 128) (hE : bareL E = E) (hee : numB E = ee) (hE3 : E.length = 3)
    (h : MakeOk p z ee E w v1 v2 v3) : ∃ R D, KeyIs w v1 v2 v3 R E D n := by
  obtain ⟨_, R, D, K, i1, i2, i3, bR, nR, _, bD, nD, _, hK, hr⟩ := h
  rw [hE] at i2 hr
  have hlen : R.length = n := len_of bR (by omega) (by rw [nR]; exact hn1) (by rw [nR]; exact hn2)
  obtain ⟨hb1, hb2⟩ := key_back hF nR hK
  have hl := right_len hr
  rw [bR, hlen, bD] at hl
  refine ⟨R, D, ?_⟩
  refine { at1 := i1, at2 := i2, at3 := i3, right := hr, priv := ?_, bare := bR, bareE := hE, bareD := bD, len := hlen, lenE := hE3, lenD := hl.2.1, size := ⟨hn3, hn4⟩, back := fun b => ?_, apart := ?_ }
  · intro h0
    rw [nD] at h0
    rw [h0, Nat.zero_mul, Nat.zero_mod] at hK
    cases hK
  · unfold powL
    rw [bR, hlen, hee, nD]
    refine hb1 _ ?_
    rw [nR]
    exact Nat.lt_of_lt_of_le (seal_small b (by omega)) hn1
  · rw [hee]
    exact hb2
theorem key_is (j : Nat) (hj : j < 4) {w : World} {v1 v2 v3 : Value} (h : MakeOk (keyP j) (keyQ j) 65537 [1, 0, 1] w v1 v2 v3) : ∃ R D, KeyIs w v1 v2 v3 R [1, 0, 1] D (keyN j) := by
  obtain ⟨_, n1, n2, n3, _⟩ := pair_any j hj
  exact keyIs_of (facts_any j hj) n1 n2 n3 (keyN_le j) rfl rfl rfl h
theorem keyAt_lt (i : Int) : keyAt i < 4 := by
  unfold keyAt
  have h1 := Int.natAbs_tmod (i.tmod 4 + 4) 4
  have h2 : ((i.tmod 4 + 4).tmod 4).natAbs < 4 := by
    rw [h1]
    exact Nat.mod_lt _ (by decide)
  omega
/-- Sign by such a key. -/
theorem keySign {w : World} {v1 v2 v3 vb : Value} {R E D b : List UInt8} {n : Nat} (h : KeyIs w v1 v2 v3 R E D n) (hb : IsBytes w vb ⟨b.toArray⟩) (hK : KTab w) (lb : b.length ≤ 900000) :
    Calls Tryz.prog 9 #[.agg #[v1, v2, v3], vb] w fun e w' => (∃ x, e = .returned (.tuple #[x, .int .i64 0]) ∧ IsBytes w' x ⟨(dB (powL R D b) n).toArray⟩) ∧ Below w.heap.size w w' := by
  have h1 := h.size
  have h2 := h.len
  have h3 := h.lenE
  have h4 := h.lenD
  refine (qSign_any v1 v2 v3 vb R E D b w h.at1 h.at2 h.at3 hb hK (by omega) (by omega) (by omega) lb).mono ?_
  rintro e w' ⟨hs, hw⟩
  have hbk := h.back b
  rcases hs with ⟨_, _, _, x, he, hx⟩ | ⟨_, _, ho, _⟩ | ⟨ho, _⟩
  · rw [h.bare, h.len] at hx
    exact ⟨⟨x, he, hx⟩, hw⟩
  · rw [h.bare, h.len] at ho
    exact absurd hbk ho
  · exact absurd ⟨h.right, h.priv⟩ ho
/-- The signature is verified. -/
theorem key_ver {w : World} {v1 v2 v3 : Value} {R E D : List UInt8} {n : Nat} (h : KeyIs w v1 v2 v3 R E D n) (D' b : List UInt8) (hD : rightP R E D') : verL R E D' b (dB (powL R D b) n) = 0 := by
  have hN : numB R ≠ 0 := by
    have h9 := (right_len h.right).2.2
    rwa [numB_bare] at h9
  have hp : powL R D b < numB R := by
    unfold powL
    exact Nat.mod_lt _ (by omega)
  have hv : numB (dB (powL R D b) n) = powL R D b := by
    rw [numB_dB]
    refine Nat.mod_eq_of_lt (Nat.lt_trans hp ?_)
    have := numB_lt R
    rwa [h.len] at this
  unfold verL
  rw [if_pos hD, h.bare, h.len, if_pos (dB_length _ _), hv, if_pos ⟨hp, h.back b⟩]
/-- A right key without its private half is right. -/
theorem right_nil {R E D : List UInt8} (h : rightP R E D) : rightP R E [] := by
  obtain ⟨h1, h2, h3, h4, h5, _⟩ := h
  have h0 : numB ([] : List UInt8) = 0 := rfl
  exact ⟨h1, h2, h3, h4, h5, by rw [h0]; omega⟩
end Go.Proofs.YtpcmpeeflnlkpaaGreatDoor

namespace Go.Proofs.YtpcmpeeflnlkpaaGreatDoor
open Go.RowKit Ch
set_option maxRecDepth 100000

set_option maxHeartbeats 8000000 in
theorem lqAwake_any (w : World) (hK : KTab w) : Calls Tryz.prog 7 #[] w fun e w' => e = .returned (.bool true) ∧ Below w.heap.size w w' := by
  have kc := fun (w : World) (C : Array Value) (n c : Nat) => Lib.run_convert_bytes_const (P := Tryz.prog) w 22 5 C n c Tryz.underlying22 Tryz.underlying5
  have hKy := lqKey_any 0 w
  rw [show keyAt 0 = 0 from rfl] at hKy
  have HKT := show Hid (∀ u, Below w.heap.size w u → KTab u) from fun u hu => hK.later hu
  clear hK
  go_enter Tryz.func7, Tryz.ntmps7
  go_wp2_with fail
  refine hKy.mono ?_
  rintro e w1 ⟨⟨v1, v2, v3, rfl, hok⟩, b1⟩
  obtain ⟨R, D, hk⟩ := key_is 0 (by decide) hok
  rw [show keyN 0 = 64 from rfl] at hk
  obtain ⟨y1, k1, c1, rfl⟩ := isb_open hk.at1
  obtain ⟨y2, k2, c2, rfl⟩ := isb_open hk.at2
  obtain ⟨y3, k3, c3, rfl⟩ := isb_open hk.at3
  obtain rfl : k1 = 64 := (isb_size hk.at1).symm.trans ((size_of_list R).trans hk.len)
  clear hKy hok
  have kb := keyBox w1 (.slice y1 64 c1) (.slice y2 k2 c2) (.slice y3 k3 c3)
  obtain ⟨q, hq⟩ : ∃ q, w1.heap.size = q := ⟨_, rfl⟩
  obtain ⟨W2, hW2⟩ : ∃ W, w1.alloc (.cells #[.slice y1 64 c1, .slice y2 k2 c2, .slice y3 k3 c3] 25) = W := ⟨_, rfl⟩
  rw [hW2, hq] at kb
  obtain ⟨W3, hW3⟩ : ∃ W, W2.alloc (.cells #[.int .u8 97, .int .u8 98, .int .u8 99] 5 (3, 4)) = W := ⟨_, rfl⟩
  have b3 : Below W2.heap.size W2 W3 := by rw [← hW3]; exact alB _ _
  have i3 : IsBytes W3 (.slice (some ⟨W2.heap.size, 0, none⟩) 3 3) ⟨([97, 98, 99] : List UInt8).toArray⟩ := by rw [← hW3]; exact litM W2 ⟨#[97, 98, 99]⟩ _ _ rfl (show (3 : Nat) ≤ maxLen by unfold maxLen; decide)
  have hw3 := bl2 b1 (bl2 kb.below b3)
  have hSg := keySign (hk.later (bl2 kb.below b3)) i3 (HKT.out W3 hw3) (by decide)
  have HU := show Hid (∀ u, Below W2.heap.size W2 u → u.cell? ⟨q, 0, none⟩ = some (.slice y1 64 c1) ∧ u.cell? ⟨q, 1, none⟩ = some (.slice y2 k2 c2) ∧ u.cell? ⟨q, 2, none⟩ = some (.slice y3 k3 c3) ∧ KeyIs u (.slice y1 64 c1) (.slice y2 k2 c2) (.slice y3 k3 c3) R [1, 0, 1] D 64 ∧ KTab u ∧ Below w.heap.size w u) from fun u hu => by
    obtain ⟨x, y, z⟩ := kb.cells hu
    have hb := bl2 b1 (bl2 kb.below hu)
    exact ⟨x, y, z, hk.later (bl2 kb.below hu), HKT.out u hb, hb⟩
  have HB3 := show Hid (Below W2.heap.size W2 W3) from b3
  obtain ⟨g0, g1, g2⟩ := kb.cells (Below.refl _ W2)
  clear kb hk b1 b3 i3 hw3
  go_wp2_with fail
  refine hSg.mono ?_
  rintro e w4 ⟨⟨x4, rfl, i4⟩, b4⟩
  obtain ⟨y4, c4, rfl⟩ : ∃ y c, x4 = .slice y 64 c := by
    obtain ⟨y, c, h⟩ := isb_shape i4
    rw [dB_length] at h
    exact ⟨y, c, h⟩
  clear hSg g0 g1 g2
  obtain ⟨g0, g1, g2, hk, _⟩ := HU.out w4 (bl2 HB3.out b4)
  have l1 := hk.len
  have l2 := hk.lenD
  have hPb := qPublic_any (.slice y1 64 c1) (.slice y2 k2 c2) (.slice y3 k3 c3) R [1, 0, 1] D w4 hk.at1 hk.at2 hk.at3 (by omega) (by decide) (by omega)
  have H4 := show Hid (IsBytes w4 (.slice y4 64 c4) ⟨(dB (powL R D [97, 98, 99]) 64).toArray⟩ ∧ Below W2.heap.size W2 w4 ∧ rightP R [1, 0, 1] D ∧ R.length = 64) from ⟨i4, bl2 HB3.out b4, hk.right, l1⟩
  have HV := show Hid (verL R [1, 0, 1] [] [97, 98, 99] (dB (powL R D [97, 98, 99]) 64) = 0) from key_ver hk [] _ (right_nil hk.right)
  clear i4 b4 hk l1 l2
  go_wp2_with fail
  refine hPb.mono ?_
  rintro e w5 ⟨⟨v5, rfl, ya, ka, ca, yb, kb, cb, rfl, ia, ib⟩, b5⟩
  clear hPb
  obtain ⟨W6, hW6⟩ : ∃ W, w5.alloc (.cells #[.int .u8 97, .int .u8 98, .int .u8 99] 5 (3, 4)) = W := ⟨_, rfl⟩
  have b6 : Below w5.heap.size w5 W6 := by rw [← hW6]; exact alB _ _
  have i6 : IsBytes W6 (.slice (some ⟨w5.heap.size, 0, none⟩) 3 3) ⟨([97, 98, 99] : List UInt8).toArray⟩ := by rw [← hW6]; exact litM w5 ⟨#[97, 98, 99]⟩ _ _ rfl (show (3 : Nat) ≤ maxLen by unfold maxLen; decide)
  have hb6 := bl2 H4.out.2.1 (bl2 b5 b6)
  have hVf := qVerify_any (.slice ya ka ca) (.slice yb kb cb) (.slice none 0 0) (.slice (some ⟨w5.heap.size, 0, none⟩) 3 3) (.slice y4 64 c4) R [1, 0, 1] [] [97, 98, 99] (dB (powL R D [97, 98, 99]) 64) W6 (ia.later b6) (ib.later b6) (isb_none W6) i6 (H4.out.1.later (bl2 b5 b6)) (HU.out W6 hb6).2.2.2.2.1 (by have := H4.out.2.2.2; omega) (by decide) (by decide) (by decide) (by rw [dB_length]; decide)
  rw [HV.out] at hVf
  have H6 := show Hid (Below W2.heap.size W2 W6) from hb6
  clear ia ib b5 b6 i6 hb6 g0 g1 g2
  go_wp2_with fail
  refine hVf.mono ?_
  rintro e w7 ⟨rfl, b7⟩
  clear hVf
  have HF := show Hid (Below w.heap.size w w7) from (HU.out w7 (bl2 H6.out b7)).2.2.2.2.2
  clear b7
  go_wp2_with fail
  go_ret
  exact ⟨rfl, HF.out⟩
end Go.Proofs.YtpcmpeeflnlkpaaGreatDoor

namespace Go.Proofs.YtpcmpeeflnlkpaaGreatDoor
open Go.RowKit Ch
set_option maxRecDepth 100000

def semLV (y1 y2 y3 yb ys : Option Addr) (k1 k2 k3 c1 c2 c3 kb cb ks cs : Nat) (R E : List UInt8) (Z : Int) : Nat → Value → World → Prop := fun ix v u => match ix with
  | 0 => v = .bool true
  | 1 => v = .bool true
  | 2 => v = .agg #[.slice y1 k1 c1, .slice y2 k2 c2, .slice y3 k3 c3]
  | 3 => qPbK u v R E
  | 4 => v = .slice yb kb cb
  | 5 => v = .slice ys ks cs
  | 6 => v = .int .i64 Z
  | 7 => v = .agg #[.slice y1 k1 c1, .slice y2 k2 c2, .slice y3 k3 c3]
  | 8 => qPbK u v R E
  | 9 => v = .slice yb kb cb
  | 10 => v = .slice ys ks cs
  | 11 => v = .int .i64 Z
  | 12 => v = .bool true
  | 13 => v = .bool true
  | 14 => v = .bool true
  | _ => True
set_option maxHeartbeats 8000000 in
theorem lqVerifies_any (i : Int) (vb vs : Value) (b S : List UInt8) (w : World) (h1 : IsBytes w vb ⟨b.toArray⟩) (h2 : IsBytes w vs ⟨S.toArray⟩) (hK : KTab w) :
    Calls Tryz.prog 4 #[.int .i64 i, vb, vs] w fun e w' => e = .returned (.bool true) ∧ Below w.heap.size w w' := by
  obtain ⟨yb, cb, rfl⟩ := isb_shape h1
  obtain ⟨ys, cs, rfl⟩ := isb_shape h2
  obtain ⟨kb, hkb⟩ : ∃ k, b.length = k := ⟨_, rfl⟩
  obtain ⟨ks, hks⟩ : ∃ k, S.length = k := ⟨_, rfl⟩
  rw [hkb] at h1 ⊢
  rw [hks] at h2 ⊢
  have hAw := lqAwake_any w hK
  have HI := show Hid (∀ u, Below w.heap.size w u → IsBytes u (.slice yb kb cb) ⟨b.toArray⟩ ∧ IsBytes u (.slice ys ks cs) ⟨S.toArray⟩ ∧ KTab u) from fun u hu => ⟨h1.later hu, h2.later hu, hK.later hu⟩
  have HL := show Hid (b.length = kb ∧ S.length = ks) from ⟨hkb, hks⟩
  clear h1 h2 hK hkb hks
  by_cases hg : 300 < kb ∨ 200 < ks
  · have hg2 : (300 : Int) < (kb : Int) ∨ ((kb : Int) ≤ 300 ∧ (200 : Int) < (ks : Int)) := by omega
    rcases hg2 with hg2 | ⟨hg2, hg3⟩
    · go_enter Tryz.func4, Tryz.ntmps4
      go_wp2_with fail
      refine hAw.mono ?_
      rintro e w1 ⟨rfl, b1⟩
      have hA2 := lqAwake_any w1 (HI.out w1 b1).2.2
      have HB := show Hid (Below w.heap.size w w1) from b1
      clear hAw b1
      go_wp2_with fail
      refine hA2.mono ?_
      rintro e w2 ⟨rfl, b2⟩
      have HF := show Hid (Below w.heap.size w w2) from bl2 HB.out b2
      clear hA2 b2
      go_wp2_with fail
      go_ret
      exact ⟨rfl, HF.out⟩
    · go_enter Tryz.func4, Tryz.ntmps4
      have hg4 : ¬ (300 : Int) < (kb : Int) := by omega
      go_wp2_with fail
      refine hAw.mono ?_
      rintro e w1 ⟨rfl, b1⟩
      have hA2 := lqAwake_any w1 (HI.out w1 b1).2.2
      have HB := show Hid (Below w.heap.size w w1) from b1
      clear hAw b1
      go_wp2_with fail
      refine hA2.mono ?_
      rintro e w2 ⟨rfl, b2⟩
      have HF := show Hid (Below w.heap.size w w2) from bl2 HB.out b2
      clear hA2 b2
      go_wp2_with fail
      go_ret
      exact ⟨rfl, HF.out⟩
  · have hg1 : ¬ (300 : Int) < (kb : Int) := by omega
    have hg2 : ¬ (200 : Int) < (ks : Int) := by omega
    have HG := show Hid (kb ≤ 300 ∧ ks ≤ 200) from ⟨by omega, by omega⟩
    clear hg
    go_enter Tryz.func4, Tryz.ntmps4
    go_wp2_with fail
    refine hAw.mono ?_
    rintro e w1 ⟨rfl, b1⟩
    have hKy := lqKey_any i w1
    have HB := show Hid (Below w.heap.size w w1) from b1
    clear hAw b1
    go_wp2_with fail
    refine hKy.mono ?_
    rintro e w2 ⟨⟨v1, v2, v3, rfl, hok⟩, b2⟩
    obtain ⟨R, D, hk⟩ := key_is _ (keyAt_lt i) hok
    obtain ⟨y1, k1, c1, rfl⟩ := isb_open hk.at1
    obtain ⟨y2, k2, c2, rfl⟩ := isb_open hk.at2
    obtain ⟨y3, k3, c3, rfl⟩ := isb_open hk.at3
    clear hKy hok
    have kbx := keyBox w2 (.slice y1 k1 c1) (.slice y2 k2 c2) (.slice y3 k3 c3)
    obtain ⟨q, hq⟩ : ∃ q, w2.heap.size = q := ⟨_, rfl⟩
    obtain ⟨W3, hW3⟩ : ∃ W, w2.alloc (.cells #[.slice y1 k1 c1, .slice y2 k2 c2, .slice y3 k3 c3] 25) = W := ⟨_, rfl⟩
    rw [hW3, hq] at kbx
    have hw2 := bl2 HB.out b2
    obtain ⟨E, hE⟩ : ∃ E : List UInt8, E = [1, 0, 1] := ⟨_, rfl⟩
    rw [← hE] at hk
    obtain ⟨Z, hZ⟩ : ∃ Z, verL R E [] b S = Z := ⟨_, rfl⟩
    have HU := show Hid (∀ u, Below W3.drew.heap.size W3.drew u → u.cell? ⟨q, 0, none⟩ = some (.slice y1 k1 c1) ∧ u.cell? ⟨q, 1, none⟩ = some (.slice y2 k2 c2) ∧ u.cell? ⟨q, 2, none⟩ = some (.slice y3 k3 c3) ∧
        (Calls Tryz.prog 11 #[.agg #[.slice y1 k1 c1, .slice y2 k2 c2, .slice y3 k3 c3]] u fun e w' => (∃ v, e = .returned v ∧ qPbK w' v R E) ∧ Below u.heap.size u w') ∧
        (∀ ya ka ca ye ke ce, IsBytes u (.slice ya ka ca) ⟨R.toArray⟩ → IsBytes u (.slice ye ke ce) ⟨E.toArray⟩ → Calls Tryz.prog 10 #[.agg #[.slice ya ka ca, .slice ye ke ce, .slice none 0 0], .slice yb kb cb, .slice ys ks cs] u fun e w' => e = .returned (.int .i64 Z) ∧ Below u.heap.size u w') ∧
        (∀ ya ka ca ye ke ce, IsBytes u (.slice ya ka ca) ⟨R.toArray⟩ → IsBytes u (.slice ye ke ce) ⟨E.toArray⟩ → Calls Tryz.prog 12 #[.agg #[.slice ya ka ca, .slice ye ke ce, .slice none 0 0], .slice yb kb cb, .slice ys ks cs] u fun e w' => e = .returned (.int .i64 Z) ∧ Below u.heap.size u w') ∧ Below w.heap.size w u) from fun u hu => by
      have hu2 : Below W3.heap.size W3 u := bl2 ((Below.refl _ W3).drew) hu
      obtain ⟨x, y, z⟩ := kbx.cells hu2
      have hku := hk.later (bl2 kbx.below hu2)
      have hbu := bl2 hw2 (bl2 kbx.below hu2)
      have l1 := hku.len
      have l2 := hku.lenE
      have l3 := hku.lenD
      have l4 := hku.size
      have l5 := HL.out
      have l6 := HG.out
      obtain ⟨i1, i2, i3⟩ := HI.out u hbu
      refine ⟨x, y, z, qPublic_any _ _ _ R E D u hku.at1 hku.at2 hku.at3 (by omega) (by omega) (by omega), fun ya ka ca ye ke ce p1 p2 => ?_, fun ya ka ca ye ke ce p1 p2 => ?_, hbu⟩
      · have h := qVerify_any _ _ (.slice none 0 0) _ _ R E [] b S u p1 p2 (isb_none u) i1 i2 i3 (by omega) (by omega) (by decide) (by omega) (by omega)
        rw [hZ] at h
        exact h
      · have h := qrVerify_any _ _ (.slice none 0 0) _ _ R E [] b S u p1 p2 (isb_none u) i1 i2 (by omega) (by omega) (by decide) (by omega) (by omega)
        rw [hZ] at h
        exact h
    obtain ⟨g0, g1, g2⟩ := kbx.cells (Below.refl _ W3)
    clear hk hw2 b2 hE hZ kbx
    go_wp2_with fail
    refine free_walk (Sem := semLV y1 y2 y3 yb ys k1 k2 k3 c1 c2 c3 kb cb ks cs R E Z) rfl (n := 41) (by kernel_rfl) rfl (by kernel_rfl) ?_ ?_ ?_
    · intro ix v u u' h hb
      match ix, h with
      | 0, h => exact h
      | 1, h => exact h
      | 2, h => exact h
      | 3, h => exact qPbK.later h hb
      | 4, h => exact h
      | 5, h => exact h
      | 6, h => exact h
      | 7, h => exact h
      | 8, h => exact qPbK.later h hb
      | 9, h => exact h
      | 10, h => exact h
      | 11, h => exact h
      | 12, h => exact h
      | 13, h => exact h
      | 14, h => exact h
      | _ + 15, _ => exact trivial
    · intro ix o a u ho hF hbu
      match ix, ho, hF with
      | 0, ho, hF =>
        obtain rfl := Option.some.inj ho
        have h8 : a.tmps[8]? = some (.bool true) := (hF.out 8 rfl).trans rfl
        refine free_step rfl (by rfl) (fun K' hK => ?_)
        go_simp
        exact hK.out _ _ rfl (Below.refl _ _)
      | 1, ho, hF =>
        obtain rfl := Option.some.inj ho
        obtain ⟨v27, h27, s27⟩ := hF.dep 0 27 rfl rfl
        obtain rfl : v27 = .bool true := s27
        refine free_step rfl (by rfl) (fun K' hK => ?_)
        go_simp
        exact hK.out _ _ rfl (Below.refl _ _)
      | 2, ho, hF =>
        obtain rfl := Option.some.inj ho
        have h7 : a.tmps[7]? = some (.pointer (some ⟨q, 0, none⟩)) := (hF.out 7 rfl).trans rfl
        obtain ⟨v28, h28, s28⟩ := hF.dep 1 28 rfl rfl
        obtain rfl : v28 = .bool true := s28
        have g0 := (HU.out u hbu).1
        have g1 := (HU.out u hbu).2.1
        have g2 := (HU.out u hbu).2.2.1
        refine free_step rfl (by show (yielded _ a.tmps 1 == some true) = true; unfold yielded; simp [h28]) (fun K' hK => ?_)
        go_simp
        exact hK.out _ _ rfl (Below.refl _ _)
      | 3, ho, hF =>
        obtain rfl := Option.some.inj ho
        obtain ⟨v29, h29, s29⟩ := hF.dep 2 29 rfl rfl
        obtain rfl : v29 = .agg #[.slice y1 k1 c1, .slice y2 k2 c2, .slice y3 k3 c3] := s29
        obtain ⟨v28, h28, s28⟩ := hF.dep 1 28 rfl rfl
        obtain rfl : v28 = .bool true := s28
        have hc := (HU.out u hbu).2.2.2.1
        refine free_step rfl (by show (yielded _ a.tmps 1 == some true) = true; unfold yielded; simp [h28]) (fun K' hK => ?_)
        go_wp2_with fail
        refine hc.mono ?_
        rintro e u' ⟨⟨x, rfl, hI⟩, hb⟩
        go_simp
        exact hK.out _ _ hI hb
      | 4, ho, hF =>
        obtain rfl := Option.some.inj ho
        have h1 : a.tmps[1]? = some (.slice yb kb cb) := (hF.out 1 rfl).trans rfl
        obtain ⟨v28, h28, s28⟩ := hF.dep 1 28 rfl rfl
        obtain rfl : v28 = .bool true := s28
        refine free_step rfl (by show (yielded _ a.tmps 1 == some true) = true; unfold yielded; simp [h28]) (fun K' hK => ?_)
        go_simp
        exact hK.out _ _ rfl (Below.refl _ _)
      | 5, ho, hF =>
        obtain rfl := Option.some.inj ho
        have h2 : a.tmps[2]? = some (.slice ys ks cs) := (hF.out 2 rfl).trans rfl
        obtain ⟨v28, h28, s28⟩ := hF.dep 1 28 rfl rfl
        obtain rfl : v28 = .bool true := s28
        refine free_step rfl (by show (yielded _ a.tmps 1 == some true) = true; unfold yielded; simp [h28]) (fun K' hK => ?_)
        go_simp
        exact hK.out _ _ rfl (Below.refl _ _)
      | 6, ho, hF =>
        obtain rfl := Option.some.inj ho
        obtain ⟨v30, h30, s30⟩ := hF.dep 3 30 rfl rfl
        replace s30 : qPbK u v30 R E := s30
        obtain ⟨v31, h31, s31⟩ := hF.dep 4 31 rfl rfl
        obtain rfl : v31 = .slice yb kb cb := s31
        obtain ⟨v32, h32, s32⟩ := hF.dep 5 32 rfl rfl
        obtain rfl : v32 = .slice ys ks cs := s32
        obtain ⟨v28, h28, s28⟩ := hF.dep 1 28 rfl rfl
        obtain rfl : v28 = .bool true := s28
        obtain ⟨ya, ka, ca, ye, ke, ce, rfl, ia, ie⟩ := s30
        have hc := (HU.out u hbu).2.2.2.2.1 ya ka ca ye ke ce ia ie
        refine free_step rfl (by show (yielded _ a.tmps 1 == some true) = true; unfold yielded; simp [h28]) (fun K' hK => ?_)
        go_wp2_with fail
        refine hc.mono ?_
        rintro e u' ⟨rfl, hb⟩
        go_simp
        exact hK.out _ _ rfl hb
      | 7, ho, hF =>
        obtain rfl := Option.some.inj ho
        have h7 : a.tmps[7]? = some (.pointer (some ⟨q, 0, none⟩)) := (hF.out 7 rfl).trans rfl
        obtain ⟨v28, h28, s28⟩ := hF.dep 1 28 rfl rfl
        obtain rfl : v28 = .bool true := s28
        have g0 := (HU.out u hbu).1
        have g1 := (HU.out u hbu).2.1
        have g2 := (HU.out u hbu).2.2.1
        refine free_step rfl (by show (yielded _ a.tmps 1 == some true) = true; unfold yielded; simp [h28]) (fun K' hK => ?_)
        go_simp
        exact hK.out _ _ rfl (Below.refl _ _)
      | 8, ho, hF =>
        obtain rfl := Option.some.inj ho
        obtain ⟨v34, h34, s34⟩ := hF.dep 7 34 rfl rfl
        obtain rfl : v34 = .agg #[.slice y1 k1 c1, .slice y2 k2 c2, .slice y3 k3 c3] := s34
        obtain ⟨v28, h28, s28⟩ := hF.dep 1 28 rfl rfl
        obtain rfl : v28 = .bool true := s28
        have hc := (HU.out u hbu).2.2.2.1
        refine free_step rfl (by show (yielded _ a.tmps 1 == some true) = true; unfold yielded; simp [h28]) (fun K' hK => ?_)
        go_wp2_with fail
        refine hc.mono ?_
        rintro e u' ⟨⟨x, rfl, hI⟩, hb⟩
        go_simp
        exact hK.out _ _ hI hb
      | 9, ho, hF =>
        obtain rfl := Option.some.inj ho
        have h1 : a.tmps[1]? = some (.slice yb kb cb) := (hF.out 1 rfl).trans rfl
        obtain ⟨v28, h28, s28⟩ := hF.dep 1 28 rfl rfl
        obtain rfl : v28 = .bool true := s28
        refine free_step rfl (by show (yielded _ a.tmps 1 == some true) = true; unfold yielded; simp [h28]) (fun K' hK => ?_)
        go_simp
        exact hK.out _ _ rfl (Below.refl _ _)
      | 10, ho, hF =>
        obtain rfl := Option.some.inj ho
        have h2 : a.tmps[2]? = some (.slice ys ks cs) := (hF.out 2 rfl).trans rfl
        obtain ⟨v28, h28, s28⟩ := hF.dep 1 28 rfl rfl
        obtain rfl : v28 = .bool true := s28
        refine free_step rfl (by show (yielded _ a.tmps 1 == some true) = true; unfold yielded; simp [h28]) (fun K' hK => ?_)
        go_simp
        exact hK.out _ _ rfl (Below.refl _ _)
      | 11, ho, hF =>
        obtain rfl := Option.some.inj ho
        obtain ⟨v35, h35, s35⟩ := hF.dep 8 35 rfl rfl
        replace s35 : qPbK u v35 R E := s35
        obtain ⟨v36, h36, s36⟩ := hF.dep 9 36 rfl rfl
        obtain rfl : v36 = .slice yb kb cb := s36
        obtain ⟨v37, h37, s37⟩ := hF.dep 10 37 rfl rfl
        obtain rfl : v37 = .slice ys ks cs := s37
        obtain ⟨v28, h28, s28⟩ := hF.dep 1 28 rfl rfl
        obtain rfl : v28 = .bool true := s28
        obtain ⟨ya, ka, ca, ye, ke, ce, rfl, ia, ie⟩ := s35
        have hc := (HU.out u hbu).2.2.2.2.2.1 ya ka ca ye ke ce ia ie
        refine free_step rfl (by show (yielded _ a.tmps 1 == some true) = true; unfold yielded; simp [h28]) (fun K' hK => ?_)
        go_wp2_with fail
        refine hc.mono ?_
        rintro e u' ⟨rfl, hb⟩
        go_simp
        exact hK.out _ _ rfl hb
      | 12, ho, hF =>
        obtain rfl := Option.some.inj ho
        obtain ⟨v33, h33, s33⟩ := hF.dep 6 33 rfl rfl
        obtain rfl : v33 = .int .i64 Z := s33
        obtain ⟨v38, h38, s38⟩ := hF.dep 11 38 rfl rfl
        obtain rfl : v38 = .int .i64 Z := s38
        obtain ⟨v28, h28, s28⟩ := hF.dep 1 28 rfl rfl
        obtain rfl : v28 = .bool true := s28
        refine free_step rfl (by show (yielded _ a.tmps 1 == some true) = true; unfold yielded; simp [h28]) (fun K' hK => ?_)
        go_simp
        exact hK.out _ _ rfl (Below.refl _ _)
      | 13, ho, hF =>
        obtain rfl := Option.some.inj ho
        obtain ⟨v28, h28, s28⟩ := hF.dep 1 28 rfl rfl
        obtain rfl : v28 = .bool true := s28
        obtain ⟨v39, h39, s39⟩ := hF.dep 12 39 rfl rfl
        obtain rfl : v39 = .bool true := s39
        refine free_step rfl (by rfl) (fun K' hK => ?_)
        go_simp
        exact hK.out _ _ rfl (Below.refl _ _)
      | 14, ho, hF =>
        obtain rfl := Option.some.inj ho
        obtain ⟨v40, h40, s40⟩ := hF.dep 13 40 rfl rfl
        obtain rfl : v40 = .bool true := s40
        refine free_step rfl (by rfl) (fun K' hK => ?_)
        go_simp
        exact hK.out _ _ rfl (Below.refl _ _)
      | n + 15, ho, _ => exact absurd (Array.getElem?_eq_some_iff.1 ho).1 (by show ¬ n + 15 < 15; omega)
    · intro vs u hS hbu
      have e14 : vs 14 = (.bool true) := hS 14 6 rfl
      simp only [putFrom, Act.put, List.setIfInBounds_toArray, List.set_cons_succ, List.set_cons_zero, Nat.reduceAdd]
      rw [e14]
      clear hS e14
      generalize vs 0 = z0
      generalize vs 1 = z1
      generalize vs 2 = z2
      generalize vs 3 = z3
      generalize vs 4 = z4
      generalize vs 5 = z5
      generalize vs 6 = z6
      generalize vs 7 = z7
      generalize vs 8 = z8
      generalize vs 9 = z9
      generalize vs 10 = z10
      generalize vs 11 = z11
      generalize vs 12 = z12
      generalize vs 13 = z13
      have HF := show Hid (Below w.heap.size w u) from (HU.out u hbu).2.2.2.2.2.2
      clear hbu HU
      go_wp2_with fail
      go_ret
      exact ⟨rfl, HF.out⟩
theorem isb_self {w : World} {v : Value} {s : ByteArray} (h : IsBytes w v s) : IsBytes w v ⟨s.data.toList.toArray⟩ := by
  have e : (⟨s.data.toList.toArray⟩ : ByteArray) = s := by cases s; simp
  rw [e]
  exact h
theorem lqVerifiesB (i : Int) (vb vs : Value) (s t : ByteArray) (w : World) (h1 : IsBytes w vb s) (h2 : IsBytes w vs t) (hK : KTab w) :
    Calls Tryz.prog 4 #[.int .i64 i, vb, vs] w fun e w' => e = .returned (.bool true) ∧ Below w.heap.size w w' :=
  lqVerifies_any i vb vs _ _ w (isb_self h1) (isb_self h2) hK
end Go.Proofs.YtpcmpeeflnlkpaaGreatDoor
