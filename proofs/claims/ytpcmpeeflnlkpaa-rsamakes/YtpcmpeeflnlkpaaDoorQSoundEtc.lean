/-
  What a key of the laws signs comes back.
  A key of the laws: all that the laws want of it.
  Layer 7's laws: awake.
  The document's Mul.
-/
import Derived.Test.YtpcmpeeflnlkpaaDoorQSignEtc
import Derived.Test.YtpcmpeeflnlkpaaDoorQPrime
import Derived.Lib.SlBytesConst
import Derived.Test.YtpcmpeeflnlkpaaDoorNRSub
import Derived.Deep.QuietTactic
import Derived.BigQuiet
import Derived.WalkSmall
namespace Go.Proofs.YtpcmpeeflnlkpaaDoor
open Go.RowKit Ch
set_option maxRecDepth 100000

def Fermat (p : Nat) : Prop := Pr p ∧ ∀ x, x % p ≠ 0 → x ^ (p - 1) % p = 1
theorem fermat_256_189 : Fermat c_256_189 := fermat_of _ (by decide +kernel)
theorem fermat_255_19 : Fermat c_255_19 := fermat_of _ (by decide +kernel)
theorem fermat_256_357 : Fermat c_256_357 := fermat_of _ (by decide +kernel)
theorem fermat_255_31 : Fermat c_255_31 := fermat_of _ (by decide +kernel)
theorem fermat_256_435 : Fermat c_256_435 := fermat_of _ (by decide +kernel)
theorem fermat_512_569 : Fermat c_512_569 := fermat_of _ (by decide +kernel)
theorem fermat_511_187 : Fermat c_511_187 := fermat_of _ (by decide +kernel)
def KeyFacts (p z : Nat) : Prop := Fermat p ∧ Fermat z ∧ p ≠ z ∧ p - 1 ∣ lcmN (p - 1) (z - 1) ∧ z - 1 ∣ lcmN (p - 1) (z - 1)
theorem facts_0 : KeyFacts c_256_189 c_255_19 := ⟨fermat_256_189, fermat_255_19, by decide +kernel, by decide +kernel, by decide +kernel⟩
theorem facts_1 : KeyFacts c_256_357 c_255_31 := ⟨fermat_256_357, fermat_255_31, by decide +kernel, by decide +kernel, by decide +kernel⟩
theorem facts_2 : KeyFacts c_256_435 c_255_19 := ⟨fermat_256_435, fermat_255_19, by decide +kernel, by decide +kernel, by decide +kernel⟩
theorem facts_3 : KeyFacts c_512_569 c_511_187 := ⟨fermat_512_569, fermat_511_187, by decide +kernel, by decide +kernel, by decide +kernel⟩
theorem facts_any : ∀ j, j < 4 → KeyFacts (keyP j) (keyQ j)
  | 0, _ => facts_0
  | 1, _ => facts_1
  | 2, _ => facts_2
  | 3, _ => facts_3
  | n + 4, h => absurd h (by omega)
theorem seal_small (b : List UInt8) {n : Nat} (h : 54 ≤ n) : numB (sealL b n) < 256 ^ (n - 1) := by
  have hl := sealL_length b h
  have e : sealL b n = 0 :: (1 :: (List.replicate (n - 54) 255 ++ (0 :: algL) ++ shaL b)) := by
    unfold sealL
    simp only [List.cons_append, List.nil_append, List.append_assoc]
  rw [e] at hl ⊢
  generalize 1 :: (List.replicate (n - 54) 255 ++ (0 :: algL) ++ shaL b) = t at *
  rw [List.length_cons] at hl
  have h2 := numB_lt t
  rw [show t.length = n - 1 by omega] at h2
  rw [numB_cons]
  simpa using h2
/-- What is raised to K and then to e is as it was, and the other way about. -/
theorem key_back {p z N K ee : Nat} (hF : KeyFacts p z) (hN : N = p * z) (hK : K * (ee % lcmN (p - 1) (z - 1)) % lcmN (p - 1) (z - 1) = 1) : (∀ x, x < N → (x ^ K % N) ^ ee % N = x) ∧ ∀ x y, x < N → y < N → x ^ ee % N = y ^ ee % N → x = y := by
  obtain ⟨f1, f2, hne, d1, d2⟩ := hF
  subst hN
  have h1 : K * ee % lcmN (p - 1) (z - 1) = 1 := by
    rw [Nat.mul_mod] at hK ⊢
    rw [Nat.mod_mod] at hK
    exact hK
  exact ⟨fun x hx => rsa_back f1 f2 hne d1 d2 h1 x hx, fun x y hx hy he => rsa_apart f1 f2 hne d1 d2 (by rw [Nat.mul_comm]; exact h1) hx hy he⟩
end Go.Proofs.YtpcmpeeflnlkpaaDoor

namespace Go.Proofs.YtpcmpeeflnlkpaaDoor
open Go.RowKit Ch
set_option maxRecDepth 100000

/-- A key whose signatures are verified. -/
structure KeyIs (w : World) (v1 v2 v3 : Value) (R E D : List UInt8) (n : Nat) : Prop where
  at1 : IsBytes w v1 ⟨R.toArray⟩
  at2 : IsBytes w v2 ⟨E.toArray⟩
  at3 : IsBytes w v3 ⟨D.toArray⟩
  right : rightP R E D
  priv : numB D ≠ 0
  bare : bareL R = R
  bareE : bareL E = E
  bareD : bareL D = D
  len : R.length = n
  lenE : E.length = 3
  lenD : D.length ≤ n
  size : 62 ≤ n ∧ n ≤ 128
  back : ∀ b, powL R D b ^ numB E % numB R = numB (sealL b n)
  apart : ∀ x y, x < numB R → y < numB R → x ^ numB E % numB R = y ^ numB E % numB R → x = y
theorem KeyIs.later {w w' : World} {v1 v2 v3 : Value} {R E D : List UInt8} {n : Nat} (h : KeyIs w v1 v2 v3 R E D n) (hb : Below w.heap.size w w') : KeyIs w' v1 v2 v3 R E D n :=
  { h with at1 := h.at1.later hb, at2 := h.at2.later hb, at3 := h.at3.later hb }
theorem keyIs_of {p z n : Nat} {E : List UInt8} {w : World} {v1 v2 v3 : Value} {ee : Nat} (hF : KeyFacts p z) (hn1 : 256 ^ (n - 1) ≤ p * z) (hn2 : p * z < 256 ^ n) (hn3 : 62 ≤ n) (hn4 : n ≤ 128) (hE : bareL E = E) (hee : numB E = ee) (hE3 : E.length = 3)
    (h : MakeOk p z ee E w v1 v2 v3) : ∃ R D, KeyIs w v1 v2 v3 R E D n := by
  obtain ⟨_, R, D, K, i1, i2, i3, bR, nR, _, bD, nD, _, hK, hr⟩ := h
  rw [hE] at i2 hr
  have hlen : R.length = n := len_of bR (by omega) (by rw [nR]; exact hn1) (by rw [nR]; exact hn2)
  obtain ⟨hb1, hb2⟩ := key_back hF nR hK
  have hl := right_len hr
  rw [bR, hlen, bD] at hl
  refine ⟨R, D, ?_⟩
  refine { at1 := i1, at2 := i2, at3 := i3, right := hr, priv := ?_, bare := bR, bareE := hE, bareD := bD, len := hlen, lenE := hE3, lenD := hl.2.1, size := ⟨hn3, hn4⟩, back := fun b => ?_, apart := ?_ }
  · intro h0
    rw [nD] at h0
    rw [h0, Nat.zero_mul, Nat.zero_mod] at hK
    cases hK
  · unfold powL
    rw [bR, hlen, hee, nD]
    refine hb1 _ ?_
    rw [nR]
    exact Nat.lt_of_lt_of_le (seal_small b (by omega)) hn1
  · rw [hee]
    exact hb2
theorem key_is (j : Nat) (hj : j < 4) {w : World} {v1 v2 v3 : Value} (h : MakeOk (keyP j) (keyQ j) 65537 [1, 0, 1] w v1 v2 v3) : ∃ R D, KeyIs w v1 v2 v3 R [1, 0, 1] D (keyN j) := by
  obtain ⟨_, n1, n2, n3, _⟩ := pair_any j hj
  exact keyIs_of (facts_any j hj) n1 n2 n3 (keyN_le j) rfl rfl rfl h
theorem keyAt_lt (i : Int) : keyAt i < 4 := by
  unfold keyAt
  have h1 := Int.natAbs_tmod (i.tmod 4 + 4) 4
  have h2 : ((i.tmod 4 + 4).tmod 4).natAbs < 4 := by
    rw [h1]
    exact Nat.mod_lt _ (by decide)
  omega
/-- Sign by such a key. -/
theorem keySign {w : World} {v1 v2 v3 vb : Value} {R E D b : List UInt8} {n : Nat} (h : KeyIs w v1 v2 v3 R E D n) (hb : IsBytes w vb ⟨b.toArray⟩) (hK : KTab w) (lb : b.length ≤ 900000) :
    Calls Tryd.prog 16 #[.agg #[v1, v2, v3], vb] w fun e w' => (∃ x, e = .returned (.tuple #[x, .int .i64 0]) ∧ IsBytes w' x ⟨(dB (powL R D b) n).toArray⟩) ∧ Below w.heap.size w w' := by
  have h1 := h.size
  have h2 := h.len
  have h3 := h.lenE
  have h4 := h.lenD
  refine (qSign_any v1 v2 v3 vb R E D b w h.at1 h.at2 h.at3 hb hK (by omega) (by omega) (by omega) lb).mono ?_
  rintro e w' ⟨hs, hw⟩
  have hbk := h.back b
  rcases hs with ⟨_, _, _, x, he, hx⟩ | ⟨_, _, ho, _⟩ | ⟨ho, _⟩
  · rw [h.bare, h.len] at hx
    exact ⟨⟨x, he, hx⟩, hw⟩
  · rw [h.bare, h.len] at ho
    exact absurd hbk ho
  · exact absurd ⟨h.right, h.priv⟩ ho
/-- The signature is verified. -/
theorem key_ver {w : World} {v1 v2 v3 : Value} {R E D : List UInt8} {n : Nat} (h : KeyIs w v1 v2 v3 R E D n) (D' b : List UInt8) (hD : rightP R E D') : verL R E D' b (dB (powL R D b) n) = 0 := by
  have hN : numB R ≠ 0 := by
    have h9 := (right_len h.right).2.2
    rwa [numB_bare] at h9
  have hp : powL R D b < numB R := by
    unfold powL
    exact Nat.mod_lt _ (by omega)
  have hv : numB (dB (powL R D b) n) = powL R D b := by
    rw [numB_dB]
    refine Nat.mod_eq_of_lt (Nat.lt_trans hp ?_)
    have := numB_lt R
    rwa [h.len] at this
  unfold verL
  rw [if_pos hD, h.bare, h.len, if_pos (dB_length _ _), hv, if_pos ⟨hp, h.back b⟩]
/-- A right key without its private half is right. -/
theorem right_nil {R E D : List UInt8} (h : rightP R E D) : rightP R E [] := by
  obtain ⟨h1, h2, h3, h4, h5, _⟩ := h
  have h0 : numB ([] : List UInt8) = 0 := rfl
  exact ⟨h1, h2, h3, h4, h5, by rw [h0]; omega⟩
end Go.Proofs.YtpcmpeeflnlkpaaDoor

namespace Go.Proofs.YtpcmpeeflnlkpaaDoor
open Go.RowKit Ch
set_option maxRecDepth 100000

set_option maxHeartbeats 8000000 in
theorem lqAwake_any (w : World) (hK : KTab w) : Calls Tryd.prog 4 #[] w fun e w' => e = .returned (.bool true) ∧ Below w.heap.size w w' := by
  have kc := fun (w : World) (C : Array Value) (n c : Nat) => Lib.run_convert_bytes_const (P := Tryd.prog) w 22 5 C n c Tryd.underlying22 Tryd.underlying5
  have hKy := lqKey_any 0 w
  rw [show keyAt 0 = 0 from rfl] at hKy
  have HKT := show Hid (∀ u, Below w.heap.size w u → KTab u) from fun u hu => hK.later hu
  clear hK
  go_enter Tryd.func4, Tryd.ntmps4
  go_wp2_with fail
  refine hKy.mono ?_
  rintro e w1 ⟨⟨v1, v2, v3, rfl, hok⟩, b1⟩
  obtain ⟨R, D, hk⟩ := key_is 0 (by decide) hok
  rw [show keyN 0 = 64 from rfl] at hk
  obtain ⟨y1, k1, c1, rfl⟩ := isb_open hk.at1
  obtain ⟨y2, k2, c2, rfl⟩ := isb_open hk.at2
  obtain ⟨y3, k3, c3, rfl⟩ := isb_open hk.at3
  obtain rfl : k1 = 64 := (isb_size hk.at1).symm.trans ((size_of_list R).trans hk.len)
  clear hKy hok
  have kb := keyBox w1 (.slice y1 64 c1) (.slice y2 k2 c2) (.slice y3 k3 c3)
  obtain ⟨q, hq⟩ : ∃ q, w1.heap.size = q := ⟨_, rfl⟩
  obtain ⟨W2, hW2⟩ : ∃ W, w1.alloc (.cells #[.slice y1 64 c1, .slice y2 k2 c2, .slice y3 k3 c3] 25) = W := ⟨_, rfl⟩
  rw [hW2, hq] at kb
  obtain ⟨W3, hW3⟩ : ∃ W, W2.alloc (.cells #[.int .u8 97, .int .u8 98, .int .u8 99] 5 (3, 4)) = W := ⟨_, rfl⟩
  have b3 : Below W2.heap.size W2 W3 := by rw [← hW3]; exact alB _ _
  have i3 : IsBytes W3 (.slice (some ⟨W2.heap.size, 0, none⟩) 3 3) ⟨([97, 98, 99] : List UInt8).toArray⟩ := by rw [← hW3]; exact litM W2 ⟨#[97, 98, 99]⟩ _ _ rfl (show (3 : Nat) ≤ maxLen by unfold maxLen; decide)
  have hw3 := bl2 b1 (bl2 kb.below b3)
  have hSg := keySign (hk.later (bl2 kb.below b3)) i3 (HKT.out W3 hw3) (by decide)
  have HU := show Hid (∀ u, Below W2.heap.size W2 u → u.cell? ⟨q, 0, none⟩ = some (.slice y1 64 c1) ∧ u.cell? ⟨q, 1, none⟩ = some (.slice y2 k2 c2) ∧ u.cell? ⟨q, 2, none⟩ = some (.slice y3 k3 c3) ∧ KeyIs u (.slice y1 64 c1) (.slice y2 k2 c2) (.slice y3 k3 c3) R [1, 0, 1] D 64 ∧ KTab u ∧ Below w.heap.size w u) from fun u hu => by
    obtain ⟨x, y, z⟩ := kb.cells hu
    have hb := bl2 b1 (bl2 kb.below hu)
    exact ⟨x, y, z, hk.later (bl2 kb.below hu), HKT.out u hb, hb⟩
  have HB3 := show Hid (Below W2.heap.size W2 W3) from b3
  obtain ⟨g0, g1, g2⟩ := kb.cells (Below.refl _ W2)
  clear kb hk b1 b3 i3 hw3
  go_wp2_with fail
  refine hSg.mono ?_
  rintro e w4 ⟨⟨x4, rfl, i4⟩, b4⟩
  obtain ⟨y4, c4, rfl⟩ : ∃ y c, x4 = .slice y 64 c := by
    obtain ⟨y, c, h⟩ := isb_shape i4
    rw [dB_length] at h
    exact ⟨y, c, h⟩
  clear hSg g0 g1 g2
  obtain ⟨g0, g1, g2, hk, _⟩ := HU.out w4 (bl2 HB3.out b4)
  have l1 := hk.len
  have l2 := hk.lenD
  have hPb := qPublic_any (.slice y1 64 c1) (.slice y2 k2 c2) (.slice y3 k3 c3) R [1, 0, 1] D w4 hk.at1 hk.at2 hk.at3 (by omega) (by decide) (by omega)
  have H4 := show Hid (IsBytes w4 (.slice y4 64 c4) ⟨(dB (powL R D [97, 98, 99]) 64).toArray⟩ ∧ Below W2.heap.size W2 w4 ∧ rightP R [1, 0, 1] D ∧ R.length = 64) from ⟨i4, bl2 HB3.out b4, hk.right, l1⟩
  have HV := show Hid (verL R [1, 0, 1] [] [97, 98, 99] (dB (powL R D [97, 98, 99]) 64) = 0) from key_ver hk [] _ (right_nil hk.right)
  clear i4 b4 hk l1 l2
  go_wp2_with fail
  refine hPb.mono ?_
  rintro e w5 ⟨⟨v5, rfl, ya, ka, ca, yb, kb, cb, rfl, ia, ib⟩, b5⟩
  clear hPb
  obtain ⟨W6, hW6⟩ : ∃ W, w5.alloc (.cells #[.int .u8 97, .int .u8 98, .int .u8 99] 5 (3, 4)) = W := ⟨_, rfl⟩
  have b6 : Below w5.heap.size w5 W6 := by rw [← hW6]; exact alB _ _
  have i6 : IsBytes W6 (.slice (some ⟨w5.heap.size, 0, none⟩) 3 3) ⟨([97, 98, 99] : List UInt8).toArray⟩ := by rw [← hW6]; exact litM w5 ⟨#[97, 98, 99]⟩ _ _ rfl (show (3 : Nat) ≤ maxLen by unfold maxLen; decide)
  have hb6 := bl2 H4.out.2.1 (bl2 b5 b6)
  have hVf := qVerify_any (.slice ya ka ca) (.slice yb kb cb) (.slice none 0 0) (.slice (some ⟨w5.heap.size, 0, none⟩) 3 3) (.slice y4 64 c4) R [1, 0, 1] [] [97, 98, 99] (dB (powL R D [97, 98, 99]) 64) W6 (ia.later b6) (ib.later b6) (isb_none W6) i6 (H4.out.1.later (bl2 b5 b6)) (HU.out W6 hb6).2.2.2.2.1 (by have := H4.out.2.2.2; omega) (by decide) (by decide) (by decide) (by rw [dB_length]; decide)
  rw [HV.out] at hVf
  have H6 := show Hid (Below W2.heap.size W2 W6) from hb6
  clear ia ib b5 b6 i6 hb6 g0 g1 g2
  go_wp2_with fail
  refine hVf.mono ?_
  rintro e w7 ⟨rfl, b7⟩
  clear hVf
  have HF := show Hid (Below w.heap.size w w7) from (HU.out w7 (bl2 H6.out b7)).2.2.2.2.2
  clear b7
  go_wp2_with fail
  go_ret
  exact ⟨rfl, HF.out⟩
end Go.Proofs.YtpcmpeeflnlkpaaDoor

namespace Go.Proofs.YtpcmpeeflnlkpaaDoor
open Go.RowKit Ch
set_option maxRecDepth 100000


theorem below_drewQ (w : World) : ∀ n, Below w.heap.size w (w.drewN n)
  | 0 => Below.refl _ _
  | n + 1 => (below_drewQ w n).drew
theorem mul_stepD {P P0 c c' i k p p' x z V : Nat} (h : P + c * 256 ^ (i + k) = P0 + 256 ^ i * x * V) (hs : p' + c' * 256 = c + p + x * z) : P + 256 ^ (i + k) * p' + c' * 256 ^ (i + k + 1) = P0 + 256 ^ (i + k) * p + 256 ^ i * x * (V + 256 ^ k * z) := by
  have e1 : 256 ^ i * x * (V + 256 ^ k * z) = 256 ^ i * x * V + 256 ^ (i + k) * (x * z) := by
    rw [Nat.mul_add, Nat.pow_add, Nat.mul_assoc (256 ^ i) x (256 ^ k * z), Nat.mul_left_comm x, Nat.mul_assoc (256 ^ i) (256 ^ k)]
  rw [e1, Nat.pow_succ]
  generalize 256 ^ (i + k) = T at *
  have h1 : T * (p' + c' * 256) = T * (c + p + x * z) := by rw [hs]
  rw [Nat.mul_add, Nat.mul_add, Nat.mul_add, Nat.mul_comm T c, Nat.mul_left_comm] at h1
  generalize c' * (T * 256) = z1 at *
  generalize T * p' = z2 at *
  generalize T * p = z3 at *
  generalize T * (x * z) = z4 at *
  generalize c * T = z5 at *
  generalize 256 ^ i * x * V = z6 at *
  omega
theorem mul_rowD {P c i m x V R : Nat} (h : P + c * 256 ^ (i + m) = R * V + 256 ^ i * x * V) : P + 256 ^ (i + m) * c = (R + 256 ^ i * x) * V := by
  rw [Nat.add_mul, Nat.mul_comm (256 ^ (i + m)) c]
  exact h
theorem below_set {w wr : World} {g i : Nat} {v : Value} (hb : Below w.heap.size w wr) (hg : w.heap.size ≤ g) : Below w.heap.size w (wr.setCell ⟨g, i, none⟩ v) :=
  hb.grown (grown_cell wr ⟨g, i, none⟩ v) hb.size (fun b h => by obtain rfl : g = b := Option.some.inj h; exact hg)
set_option maxHeartbeats 4000000 in
theorem digMul (n m : Nat) (u v : Value) (A B : Nat) (w : World) (hu : IsD n w u A) (hv : IsD m w v B) (hn : n ≤ 100000) (hm : m ≤ 100000) :
    Calls Tryd.prog 7 #[u, v] w fun e w' => (∃ x, e = .returned x ∧ IsD (n + m) w' x (A * B)) ∧ Below w.heap.size w w' := by
  obtain ⟨ya, ca, L, rfl, h2, h3, h4, rfl, h6⟩ := hu
  obtain ⟨yb, cb, M, rfl, k2, k3, k4, rfl, k6⟩ := hv
  suffices hg : Calls Tryd.prog 7 #[.slice ya L.length ca, .slice yb M.length cb] w fun e w' => (∃ x, e = .returned x ∧ IsD (L.length + M.length) w' x (numD L * numD M)) ∧ Below w.heap.size w w' by
    refine hg.mono ?_
    rintro e w' ⟨⟨x, rfl, h⟩, hb⟩
    exact ⟨⟨x, rfl, h.more (by omega)⟩, hb⟩
  have hln : L.length ≤ 100000 := by omega
  have hlm : M.length ≤ 100000 := by omega
  clear h4 k4 h6 k6 hn hm n m
  obtain ⟨n, hn⟩ : ∃ n, L.length = n := ⟨_, rfl⟩
  obtain ⟨m, hm⟩ : ∃ n, M.length = n := ⟨_, rfl⟩
  have HL := show Hid (IsN .i64 w (.slice ya n ca) L ∧ AllD L ∧ L.length = n) from ⟨by rw [← hn]; exact h2, h3, hn⟩
  have HM := show Hid (IsN .i64 w (.slice yb m cb) M ∧ AllD M ∧ M.length = m) from ⟨by rw [← hm]; exact k2, k3, hm⟩
  rw [hn] at hln ⊢
  rw [hm] at hlm ⊢
  clear h2 h3 k2 k3 hn hm
  obtain ⟨nm, hnm⟩ : ∃ a, n + m = a := ⟨_, rfl⟩
  have hnmI : (n : Int) + (m : Int) = (nm : Int) := by omega
  have hnmw : IntKind.i64.wrap (nm : Int) = (nm : Int) := by rw [IntKind.wrap_i64]; omega
  have hnml : nm ≤ 200000 := by omega
  have HNM := show Hid (n + m = nm) from hnm
  rw [hnm]
  clear hnm
  go_enter Tryd.func7, Tryd.ntmps7
  go_wp2_with (at_make; go_must (refine wpList_make_n RI w rfl _ _ rfl .i64 .i64 _ _ nm rfl rfl rfl rfl (by omega) ?_; intro w1 ho1 hb1))
  obtain ⟨hR1, _⟩ := RowN.own ho1
  obtain ⟨g, hg⟩ : ∃ g, w.heap.size = g := ⟨_, rfl⟩
  have HG := show Hid (w.heap.size = g) from hg
  have HR1 := show Hid (RowN .i64 w1 g (List.replicate nm 0) ∧ Below w.heap.size w w1) from ⟨by rw [← hg]; exact hR1, hb1⟩
  rw [hg]
  clear ho1 hb1 hR1 hg
  go_loopw [6] (fun a wr => ∃ (i : Nat) (O : List Nat), a = .int .i64 (i : Int) ∧ i ≤ n ∧ Hid (RowN .i64 wr g O ∧ O.length = nm ∧ AllD O ∧ pd O 0 (i + m) = numD (L.take i) * numD M) ∧ Hid (Below w.heap.size w wr)) (fun a _ => n - (intOf a).toNat)
  case atStart => exact ⟨0, _, rfl, by omega, ⟨HR1.out.1, by simp, allD_zero _, by unfold pd; simp [List.take_replicate, numD_zero, numD]⟩, HR1.out.2⟩
  case round =>
    obtain ⟨i, O0, rfl, hi, hR, hb⟩ := hrel
    by_cases hin2 : i < n
    · have hin : (i : Int) < (n : Int) := by omega
      have hdL : L[i]? = some (atN L i) := atN_some (by have := HL.out.2.2; omega)
      obtain ⟨x, hx⟩ : ∃ x, atN L i = x := ⟨_, rfl⟩
      rw [hx] at hdL
      have hx8 : x < 256 := HL.out.2.1.at hdL
      have HTL := show Hid (numD (L.take (i + 1)) = numD (L.take i) + 256 ^ i * x) from numD_take hdL
      obtain ⟨x1, b, o, rfl, hbl, gc⟩ := IsN.cellAt HL.out.1 hdL
      have HGC := show Hid (b < w.heap.size ∧ w.cell? ⟨b, o + i, none⟩ = some (.int .i64 (x : Int))) from ⟨hbl, gc⟩
      clear x1 hx hdL hbl gc
      obtain ⟨wq, hwq⟩ : ∃ a, a = wr := ⟨_, rfl⟩
      subst hwq
      go_wp2_with fail
      go_loopw [7, 8] (fun a t wr => ∃ (k c : Nat) (O : List Nat), a = .int .i64 (c : Int) ∧ t = .int .i64 (k : Int) ∧ k ≤ m ∧ c < 256 ∧ Hid (RowN .i64 wr g O ∧ O.length = nm ∧ AllD O ∧ pd O 0 (i + k) + c * 256 ^ (i + k) = pd O0 0 (i + k) + 256 ^ i * x * numD (M.take k) ∧ ∀ j, i + k ≤ j → O[j]? = O0[j]?) ∧ Hid (Below w.heap.size w wr)) (fun _ t _ => m - (intOf t).toNat)
      case atStart => exact ⟨0, 0, O0, rfl, rfl, by omega, by omega, ⟨hR.out.1, hR.out.2.1, hR.out.2.2.1, by simp [numD], fun _ _ => rfl⟩, hb.out⟩
      case round =>
        obtain ⟨k, c, O, rfl, rfl, hk, hc, hI, hb⟩ := hrel
        by_cases hkm2 : k < m
        · have hkm : (k : Int) < (m : Int) := by omega
          have hdM : M[k]? = some (atN M k) := atN_some (by have := HM.out.2.2; omega)
          obtain ⟨z, hz⟩ : ∃ x, atN M k = x := ⟨_, rfl⟩
          rw [hz] at hdM
          have hz8 : z < 256 := HM.out.2.1.at hdM
          have HTM := show Hid (numD (M.take (k + 1)) = numD (M.take k) + 256 ^ k * z) from numD_take hdM
          obtain ⟨x1, b2, o2, rfl, hbl2, gc2⟩ := IsN.cellAt HM.out.1 hdM
          obtain ⟨ik, hik⟩ : ∃ a, i + k = a := ⟨_, rfl⟩
          have hikI : (i : Int) + (k : Int) = (ik : Int) := by omega
          have hikn : (ik : Int) < (nm : Int) := by have := HNM.out; omega
          have wik : IntKind.i64.wrap (ik : Int) = (ik : Int) := by rw [IntKind.wrap_i64]; omega
          have hdO : O[ik]? = some (atN O ik) := atN_some (by have := hI.out.2.1; omega)
          obtain ⟨p, hp⟩ : ∃ x, atN O ik = x := ⟨_, rfl⟩
          rw [hp] at hdO
          have hp8 : p < 256 := hI.out.2.2.1.at hdO
          obtain ⟨s1, hs1⟩ : ∃ a, c + p = a := ⟨_, rfl⟩
          obtain ⟨xz, hxz⟩ : ∃ a, x * z = a := ⟨_, rfl⟩
          have hxzl : xz ≤ 65025 := by
            rw [← hxz]
            exact Nat.mul_le_mul (show x ≤ 255 by omega) (show z ≤ 255 by omega)
          obtain ⟨s2, hs2⟩ : ∃ a, s1 + xz = a := ⟨_, rfl⟩
          have hs1I : (c : Int) + (p : Int) = (s1 : Int) := by omega
          have hxzI : (x : Int) * (z : Int) = (xz : Int) := by rw [← hxz]; simp
          have hs2I : (s1 : Int) + (xz : Int) = (s2 : Int) := by omega
          have ws1 : IntKind.i64.wrap (s1 : Int) = (s1 : Int) := by rw [IntKind.wrap_i64]; omega
          have wxz : IntKind.i64.wrap (xz : Int) = (xz : Int) := by rw [IntKind.wrap_i64]; omega
          have ws2 : IntKind.i64.wrap (s2 : Int) = (s2 : Int) := by rw [IntKind.wrap_i64]; omega
          obtain ⟨d, hd⟩ : ∃ d, s2 % 256 = d := ⟨_, rfl⟩
          obtain ⟨c', hc'⟩ : ∃ d, s2 / 256 = d := ⟨_, rfl⟩
          have hdI : (s2 : Int).tmod 256 = (d : Int) := by rw [Int.tmod_eq_emod_of_nonneg (by omega)]; omega
          have hcI : (s2 : Int).tdiv 256 = (c' : Int) := by rw [Int.tdiv_eq_ediv_of_nonneg (by omega)]; omega
          have wd : IntKind.i64.wrap (d : Int) = (d : Int) := by rw [IntKind.wrap_i64]; omega
          have wc' : IntKind.i64.wrap (c' : Int) = (c' : Int) := by rw [IntKind.wrap_i64]; omega
          have wk1 : IntKind.i64.wrap ((k : Int) + 1) = (k : Int) + 1 := by rw [IntKind.wrap_i64]; omega
          have hc'8 : c' < 256 := by omega
          have HI2 := show Hid ((O.set ik d).length = nm ∧ AllD (O.set ik d) ∧ pd (O.set ik d) 0 (i + (k + 1)) + c' * 256 ^ (i + (k + 1)) = pd O0 0 (i + (k + 1)) + 256 ^ i * x * numD (M.take (k + 1)) ∧ ∀ j, i + (k + 1) ≤ j → (O.set ik d)[j]? = O0[j]?) from by
            obtain ⟨q1, q2, q3, q4, q5⟩ := hI.out
            have e0 : O0[i + k]? = some p := by rw [← q5 _ (Nat.le_refl _), hik]; exact hdO
            refine ⟨by simp [q2], q3.set _ (by omega), ?_, fun j hj => ?_⟩
            · have e1 := pd_put (L := O) (o := 0) (i := i + k) (p := p) (p' := d) (by rw [Nat.zero_add, hik]; exact hdO)
              rw [Nat.zero_add] at e1
              rw [HTM.out, ← hik, ← Nat.add_assoc, e1, pd_succ (L := O0) (o := 0) (n := i + k) (x := p) (by rw [Nat.zero_add]; exact e0)]
              exact mul_stepD q4 (by omega)
            · rw [List.getElem?_set_ne (by omega)]
              exact q5 j (by omega)
          have hRs := hI.out.1
          have HDO := show Hid (O[ik]? = some p) from hdO
          have HRW := show Hid (RowN .i64 wr g O ∧ Below w.heap.size w wr) from ⟨hRs, hb.out⟩
          have gO := hRs.cell hdO
          have gX := (hb.out.cell (p := ⟨b, o + i, none⟩) HGC.out.1).trans HGC.out.2
          have gZ := (hb.out.cell (p := ⟨b2, o2 + k, none⟩) hbl2).trans gc2
          clear x1 hz hp hdM hdO hik hs1 hxz hs2 hd hc' hRs hI hb gc2 hbl2
          go_wp2_with fail
          go_quiet (fail)
          have hbq := below_drewQ wr nq
          generalize wr.drewN nq = u at *
          have hRu := HRW.out.1.later hbq
          have hbu2 := HRW.out.2.trans (hbq.mono HRW.out.2.size)
          clear gO gX gZ hbq
          have g7 := hRu.cell HDO.out
          have r7 := hRu.free ik
          have HS := show Hid (RowN .i64 (u.setCell ⟨g, ik, none⟩ (.int .i64 (d : Int))) g (O.set ik d) ∧ Below w.heap.size w (u.setCell ⟨g, ik, none⟩ (.int .i64 (d : Int)))) from ⟨hRu.set HDO.out d, below_set hbu2 (by rw [HG.out]; exact Nat.le_refl _)⟩
          clear hRu hbu2
          go_wp2_with fail
          go_roundw
          case rel => exact ⟨k + 1, c', O.set ik d, rfl, by go_num, by omega, hc'8, ⟨HS.out.1, HI2.out⟩, HS.out.2⟩
          case measure => simp [intOf]; omega
        · have hkm : ¬ (k : Int) < (m : Int) := by omega
          obtain rfl : k = m := by omega
          obtain ⟨im, him⟩ : ∃ a, i + k = a := ⟨_, rfl⟩
          have himI : (i : Int) + (k : Int) = (im : Int) := by omega
          have wim : IntKind.i64.wrap (im : Int) = (im : Int) := by rw [IntKind.wrap_i64]; omega
          have himn : (im : Int) < (nm : Int) := by have := HNM.out; omega
          have wi1 : IntKind.i64.wrap ((i : Int) + 1) = (i : Int) + 1 := by rw [IntKind.wrap_i64]; omega
          have hdO : O[im]? = some (atN O im) := atN_some (by have := hI.out.2.1; omega)
          have g7 := hI.out.1.cell hdO
          have r7 := hI.out.1.free im
          have HS := show Hid (RowN .i64 (wr.setCell ⟨g, im, none⟩ (.int .i64 (c : Int))) g (O.set im c) ∧ Below w.heap.size w (wr.setCell ⟨g, im, none⟩ (.int .i64 (c : Int)))) from ⟨hI.out.1.set hdO c, below_set hb.out (by rw [HG.out]; exact Nat.le_refl _)⟩
          have HI2 := show Hid ((O.set im c).length = nm ∧ AllD (O.set im c) ∧ pd (O.set im c) 0 (i + 1 + k) = numD (L.take (i + 1)) * numD M) from by
            obtain ⟨q1, q2, q3, q4, q5⟩ := hI.out
            refine ⟨by simp [q2], q3.set _ hc, ?_⟩
            have e1 := pd_put (L := O) (o := 0) (i := i + k) (p := atN O im) (p' := c) (by rw [Nat.zero_add, him]; exact hdO)
            rw [Nat.zero_add] at e1
            rw [HTL.out, show i + 1 + k = i + k + 1 by omega, ← him, e1]
            rw [hR.out.2.2.2, List.take_of_length_le (l := M) (by rw [HM.out.2.2]; exact Nat.le_refl _)] at q4
            exact mul_rowD q4
          clear him hdO hI hb
          go_wp2_with fail
          go_roundw
          case rel => exact ⟨i + 1, O.set im c, by go_num, by omega, ⟨HS.out.1, HI2.out⟩, HS.out.2⟩
          case measure => simp [intOf]; omega
    · have hin : ¬ (i : Int) < (n : Int) := by omega
      obtain rfl : i = n := by omega
      have hIN := hR.out.1.isN (o := 0) (n := nm) (c := nm) (by rw [hR.out.2.1]; omega) (Nat.le_refl _) (by omega)
      have e0 : (O0.drop 0).take nm = O0 := by rw [List.drop_zero, List.take_of_length_le (by rw [hR.out.2.1]; exact Nat.le_refl _)]
      rw [e0] at hIN
      have hzz := hR.out.2.1
      have hT := dTrim_any (some ⟨g, 0, none⟩) nm O0 wr (by rw [hzz]; exact hIN) (by omega)
      rw [hzz] at hT
      have HF := show Hid (O0.length ≤ nm ∧ AllD O0 ∧ numD O0 = numD L * numD M ∧ Below w.heap.size w wr) from by
        obtain ⟨q1, q2, q3, q4⟩ := hR.out
        rw [pd_full (by rw [q2, HNM.out]), List.take_of_length_le (l := L) (by rw [HL.out.2.2]; exact Nat.le_refl _)] at q4
        exact ⟨by omega, q3, q4, hb.out⟩
      clear hb hR hIN e0 hzz
      go_wp2_with fail
      refine hT.mono ?_
      rintro e w2 ⟨rfl, hN, rfl⟩
      go_wp2_with fail
      go_ret
      exact ⟨⟨_, rfl, isD_trim hN HF.out.2.1 HF.out.2.2.1 HF.out.1⟩, HF.out.2.2.2⟩
end Go.Proofs.YtpcmpeeflnlkpaaDoor
