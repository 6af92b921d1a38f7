/-
  PLAIN: SHA-256 over plain numbers. No program is named here.
-/
import Derived.Test.YthdoginhbhdmbaaGPlain
namespace Go.Proofs.Ythdoginhbhdmbaa.Ch

/-- To the right, around. -/
def rotr (n x : Nat) : Nat := x * 2 ^ (32 - n) % 4294967296 ||| x / 2 ^ n
def sgA (x : Nat) : Nat := rotr 7 x ^^^ rotr 18 x ^^^ x / 8
def sgB (x : Nat) : Nat := rotr 17 x ^^^ rotr 19 x ^^^ x / 1024
def bgA (x : Nat) : Nat := rotr 2 x ^^^ rotr 13 x ^^^ rotr 22 x
def bgB (x : Nat) : Nat := rotr 6 x ^^^ rotr 11 x ^^^ rotr 25 x
def chooN (x y z : Nat) : Nat := (x &&& y) ^^^ ((4294967295 - x) &&& z)
def majN (x y z : Nat) : Nat := (x &&& y) ^^^ (x &&& z) ^^^ (y &&& z)
theorem rotr_lt (n x : Nat) (h : x < 4294967296) : rotr n x < 4294967296 :=
  Nat.or_lt_two_pow (n := 32) (Nat.mod_lt _ (by decide)) (Nat.lt_of_le_of_lt (Nat.div_le_self _ _) h)
theorem xor_lt32 {a b : Nat} (ha : a < 4294967296) (hb : b < 4294967296) : a ^^^ b < 4294967296 := Nat.xor_lt_two_pow (n := 32) ha hb
theorem and_lt32 {a b : Nat} (hb : b < 4294967296) : a &&& b < 4294967296 := Nat.and_lt_two_pow (n := 32) a hb
theorem sgA_lt {x : Nat} (h : x < 4294967296) : sgA x < 4294967296 := xor_lt32 (xor_lt32 (rotr_lt _ _ h) (rotr_lt _ _ h)) (by omega)
theorem sgB_lt {x : Nat} (h : x < 4294967296) : sgB x < 4294967296 := xor_lt32 (xor_lt32 (rotr_lt _ _ h) (rotr_lt _ _ h)) (by omega)
theorem bgA_lt {x : Nat} (h : x < 4294967296) : bgA x < 4294967296 := xor_lt32 (xor_lt32 (rotr_lt _ _ h) (rotr_lt _ _ h)) (rotr_lt _ _ h)
theorem bgB_lt {x : Nat} (h : x < 4294967296) : bgB x < 4294967296 := xor_lt32 (xor_lt32 (rotr_lt _ _ h) (rotr_lt _ _ h)) (rotr_lt _ _ h)
theorem choo_lt {x y z : Nat} (hy : y < 4294967296) (hz : z < 4294967296) : chooN x y z < 4294967296 := xor_lt32 (and_lt32 hy) (and_lt32 hz)
theorem maj_lt {x y z : Nat} (hy : y < 4294967296) (hz : z < 4294967296) : majN x y z < 4294967296 := xor_lt32 (xor_lt32 (and_lt32 hy) (and_lt32 hz)) (and_lt32 hz)
/-- The byte of a list at a place, as a number. -/
def byL (b : List UInt8) (i : Nat) : Nat := ((b[i]?).getD 0).toNat
theorem byL_lt (b : List UInt8) (i : Nat) : byL b i < 256 := UInt8.toNat_lt _
def wordAt (b : List UInt8) (t : Nat) : Nat := ((byL b (4 * t) * 256 + byL b (4 * t + 1)) * 256 + byL b (4 * t + 2)) * 256 + byL b (4 * t + 3)
theorem wordAt_lt (b : List UInt8) (t : Nat) : wordAt b t < 4294967296 := by
  have h0 := byL_lt b (4 * t)
  have h1 := byL_lt b (4 * t + 1)
  have h2 := byL_lt b (4 * t + 2)
  have h3 := byL_lt b (4 * t + 3)
  unfold wordAt
  omega
def atN (l : List Nat) (i : Nat) : Nat := (l[i]?).getD 0
/-- The word behind those of a schedule. -/
def nextW (b : List UInt8) (W : List Nat) : Nat := if W.length < 16 then wordAt b W.length else (sgB (atN W (W.length - 2)) + atN W (W.length - 7) + sgA (atN W (W.length - 15)) + atN W (W.length - 16)) % 4294967296
def schedN (b : List UInt8) : Nat → List Nat
  | 0 => []
  | n + 1 => schedN b n ++ [nextW b (schedN b n)]
theorem schedN_length (b : List UInt8) (n : Nat) : (schedN b n).length = n := by
  induction n with
  | zero => rfl
  | succ n ih => rw [schedN, List.length_append, ih]; rfl
theorem schedN_prefix (b : List UInt8) (n m i : Nat) (h : i < n) (hm : n ≤ m) : atN (schedN b m) i = atN (schedN b n) i := by
  induction m with
  | zero => omega
  | succ m ih =>
    by_cases e : n = m + 1
    · rw [e]
    · rw [← ih (by omega), schedN]
      unfold atN
      rw [List.getElem?_append_left (by rw [schedN_length]; omega)]
theorem schedN_last (b : List UInt8) (n : Nat) : atN (schedN b (n + 1)) n = nextW b (schedN b n) := by
  rw [schedN]
  unfold atN
  rw [List.getElem?_append_right (by rw [schedN_length]; exact Nat.le_refl _), schedN_length, Nat.sub_self]
  rfl
theorem nextW_lt (b : List UInt8) (W : List Nat) : nextW b W < 4294967296 := by
  unfold nextW
  split
  · exact wordAt_lt _ _
  · exact Nat.mod_lt _ (by decide)
theorem schedN_lt (b : List UInt8) (n i : Nat) : atN (schedN b n) i < 4294967296 := by
  by_cases h : i < n
  · rw [schedN_prefix b (i + 1) n i (by omega) (by omega), schedN_last]
    exact nextW_lt _ _
  · unfold atN
    rw [List.getElem?_eq_none (by rw [schedN_length]; omega)]
    decide
/-- The state: eight words. -/
structure S8 where
  a : Nat
  b : Nat
  c : Nat
  d : Nat
  e : Nat
  f : Nat
  g : Nat
  h : Nat
def S8.ok (s : S8) : Prop := s.a < 4294967296 ∧ s.b < 4294967296 ∧ s.c < 4294967296 ∧ s.d < 4294967296 ∧ s.e < 4294967296 ∧ s.f < 4294967296 ∧ s.g < 4294967296 ∧ s.h < 4294967296
def roundK : List Nat := [0x428a2f98, 0x71374491, 0xb5c0fbcf, 0xe9b5dba5, 0x3956c25b, 0x59f111f1, 0x923f82a4, 0xab1c5ed5,
  0xd807aa98, 0x12835b01, 0x243185be, 0x550c7dc3, 0x72be5d74, 0x80deb1fe, 0x9bdc06a7, 0xc19bf174,
  0xe49b69c1, 0xefbe4786, 0x0fc19dc6, 0x240ca1cc, 0x2de92c6f, 0x4a7484aa, 0x5cb0a9dc, 0x76f988da,
  0x983e5152, 0xa831c66d, 0xb00327c8, 0xbf597fc7, 0xc6e00bf3, 0xd5a79147, 0x06ca6351, 0x14292967,
  0x27b70a85, 0x2e1b2138, 0x4d2c6dfc, 0x53380d13, 0x650a7354, 0x766a0abb, 0x81c2c92e, 0x92722c85,
  0xa2bfe8a1, 0xa81a664b, 0xc24b8b70, 0xc76c51a3, 0xd192e819, 0xd6990624, 0xf40e3585, 0x106aa070,
  0x19a4c116, 0x1e376c08, 0x2748774c, 0x34b0bcb5, 0x391c0cb3, 0x4ed8aa4a, 0x5b9cca4f, 0x682e6ff3,
  0x748f82ee, 0x78a5636f, 0x84c87814, 0x8cc70208, 0x90befffa, 0xa4506ceb, 0xbef9a3f7, 0xc67178f2]
def rnd (k w : Nat) (s : S8) : S8 :=
  let t1 := (s.h + bgB s.e + chooN s.e s.f s.g + k + w) % 4294967296
  let t2 := (bgA s.a + majN s.a s.b s.c) % 4294967296
  ⟨(t1 + t2) % 4294967296, s.a, s.b, s.c, (s.d + t1) % 4294967296, s.e, s.f, s.g⟩
def rounds (W : List Nat) (s : S8) : Nat → S8
  | 0 => s
  | n + 1 => rnd (atN roundK n) (atN W n) (rounds W s n)
theorem rnd_ok {k w : Nat} {s : S8} (h : s.ok) : (rnd k w s).ok := by
  obtain ⟨ha, hb, hc, hd, he, hf, hg, hh⟩ := h
  exact ⟨Nat.mod_lt _ (by decide), ha, hb, hc, Nat.mod_lt _ (by decide), he, hf, hg⟩
theorem rounds_ok {W : List Nat} {s : S8} (h : s.ok) (n : Nat) : (rounds W s n).ok := by
  induction n with
  | zero => exact h
  | succ n ih => exact rnd_ok ih
def addS (s t : S8) : S8 := ⟨(s.a + t.a) % 4294967296, (s.b + t.b) % 4294967296, (s.c + t.c) % 4294967296, (s.d + t.d) % 4294967296, (s.e + t.e) % 4294967296, (s.f + t.f) % 4294967296, (s.g + t.g) % 4294967296, (s.h + t.h) % 4294967296⟩
theorem addS_ok (s t : S8) : (addS s t).ok := ⟨Nat.mod_lt _ (by decide), Nat.mod_lt _ (by decide), Nat.mod_lt _ (by decide), Nat.mod_lt _ (by decide), Nat.mod_lt _ (by decide), Nat.mod_lt _ (by decide), Nat.mod_lt _ (by decide), Nat.mod_lt _ (by decide)⟩
/-- The state behind one block more. -/
def mixS (s : S8) (b : List UInt8) : S8 := addS s (rounds (schedN b 64) s 64)
def S8.l (s : S8) : List Nat := [s.a, s.b, s.c, s.d, s.e, s.f, s.g, s.h]
def beginS : S8 := ⟨0x6a09e667, 0xbb67ae85, 0x3c6ef372, 0xa54ff53a, 0x510e527f, 0x9b05688c, 0x1f83d9ab, 0x5be0cd19⟩
theorem beginS_ok : beginS.ok := by unfold S8.ok; decide
/-- The state behind the first n blocks. -/
def blocksS (m : List UInt8) : Nat → S8
  | 0 => beginS
  | n + 1 => mixS (blocksS m n) ((m.drop (64 * n)).take 64)
theorem blocksS_ok (m : List UInt8) (n : Nat) : (blocksS m n).ok := by
  cases n with
  | zero => exact beginS_ok
  | succ n => exact addS_ok _ _
theorem blocksS_append (m t : List UInt8) (n : Nat) (h : 64 * n ≤ m.length) : blocksS (m ++ t) n = blocksS m n := by
  induction n with
  | zero => rfl
  | succ n ih =>
    rw [blocksS, blocksS, ih (by omega)]
    congr 1
    rw [List.drop_append_of_le_length (by omega), List.take_append_of_le_length (by rw [List.length_drop]; omega)]
def wordB (x : Nat) : List UInt8 := [UInt8.ofNat (x / 16777216 % 256), UInt8.ofNat (x / 65536 % 256), UInt8.ofNat (x / 256 % 256), UInt8.ofNat (x % 256)]
def stateB (s : S8) : List UInt8 := s.l.flatMap wordB
/-- The count of bits, in eight bytes. -/
def countB (n : Nat) : List UInt8 := (List.range 8).map fun i => UInt8.ofNat (n * 8 / 2 ^ (8 * (7 - i)) % 256)
def fillB (n : Nat) : List UInt8 := 128 :: List.replicate ((119 - n % 64) % 64) 0
def padL (m : List UInt8) : List UInt8 := m ++ fillB m.length ++ countB m.length
def shaL (m : List UInt8) : List UInt8 := stateB (blocksS (padL m) ((padL m).length / 64))
theorem countB_length (n : Nat) : (countB n).length = 8 := by simp [countB]
theorem fillB_length (n : Nat) : (fillB n).length = 1 + (119 - n % 64) % 64 := by simp [fillB]; omega
theorem padL_length (m : List UInt8) : (padL m).length % 64 = 0 := by
  unfold padL
  rw [List.length_append, List.length_append, fillB_length, countB_length]
  omega
theorem stateB_length (s : S8) : (stateB s).length = 32 := rfl
theorem shaL_length (m : List UInt8) : (shaL m).length = 32 := rfl
set_option maxRecDepth 100000 in
theorem sha_abc : shaL [97, 98, 99] = [0xba, 0x78, 0x16, 0xbf, 0x8f, 0x01, 0xcf, 0xea, 0x41, 0x41, 0x40, 0xde, 0x5d, 0xae, 0x22, 0x23, 0xb0, 0x03, 0x61, 0xa3, 0x96, 0x17, 0x7a, 0x9c, 0xb4, 0x10, 0xff, 0x61, 0xf2, 0x00, 0x15, 0xad] := by decide +kernel
end Go.Proofs.Ythdoginhbhdmbaa.Ch
