/-
  PLAIN FACTS ON BASE64, DIGITS AND FOLDED LINES: the signs of six bits, the groups of a text's bits, what is written and what is read. No program is named here.
-/
import Derived.Test.YtgehgcnaoapbbaaDoorGPlain
namespace Go.Proofs.YtgehgcnaoapbbaaDoor.Ch

/-- The sign of six bits. -/
def signN (n : Nat) : Nat := if n < 26 then 65 + n else if n < 52 then 97 + n - 26 else if n < 62 then 48 + n - 52 else if n = 62 then 43 else 47
theorem signN_lt (n : Nat) : signN n < 256 := by unfold signN; repeat' split
                                                 all_goals omega
/-- The six bits of a sign, if it is one. -/
def sixO (c : Nat) : Option Nat := if 65 ≤ c ∧ c ≤ 90 then some (c - 65) else if 97 ≤ c ∧ c ≤ 122 then some (c - 71) else if 48 ≤ c ∧ c ≤ 57 then some (c + 4) else if c = 43 then some 62 else if c = 47 then some 63 else none
theorem six_sign {n c : Nat} (h : n < 64) : signN n = c ↔ sixO c = some n := by
  unfold signN sixO
  repeat' split
  all_goals simp
  all_goals omega
theorem six_lt {n c : Nat} (h : sixO c = some n) : n < 64 := by
  unfold sixO at h
  repeat' split at h
  all_goals simp at h
  all_goals omega
/-- As the document has it: -1, if it is none. -/
def sixZ (c : Nat) : Int := match sixO c with | some n => n | none => -1

/-- The value of a digit; -1: it is none. -/
def digitZ (c : Nat) : Int := if 48 ≤ c ∧ c ≤ 57 then (c : Int) - 48 else if 97 ≤ c ∧ c ≤ 102 then (c : Int) - 87 else if 65 ≤ c ∧ c ≤ 70 then (c : Int) - 55 else -1

/-- Bit i of bytes; those behind are nought. -/
def bitN (s : ByteArray) (i : Nat) : Nat := byte s (i / 8) / 2 ^ (7 - i % 8) % 2
theorem bitN_none {s : ByteArray} {i : Nat} (h : s.size ≤ i / 8) : bitN s i = 0 := by
  unfold bitN
  rw [byte_default s _ h]
  simp
theorem bitN_lt (s : ByteArray) (i : Nat) : bitN s i < 2 := Nat.mod_lt _ (by omega)
/-- The first k bits of those from i on, as a number. -/
def bitsN (s : ByteArray) (i : Nat) : Nat → Nat
  | 0 => 0
  | k + 1 => bitsN s i k * 2 + bitN s (i + k)
theorem bitsN_lt (s : ByteArray) (i k : Nat) : bitsN s i k < 2 ^ k := by
  induction k with
  | zero => simp [bitsN]
  | succ k ih =>
    have := bitN_lt s (i + k)
    rw [bitsN, Nat.pow_succ]
    omega

/-- Group k of six bits. -/
def grp (s : ByteArray) (k : Nat) : Nat := bitsN s (6 * k) 6
theorem grp_lt (s : ByteArray) (k : Nat) : grp s k < 64 := bitsN_lt s _ 6
theorem grp_0 (s : ByteArray) (q : Nat) : grp s (4 * q) = byte s (3 * q) / 4 := by
  have h := byte_lt s (3 * q)
  unfold grp
  simp only [bitsN, bitN]
  rw [show (6 * (4 * q) + 0) / 8 = 3 * q by omega, show (6 * (4 * q) + 1) / 8 = 3 * q by omega, show (6 * (4 * q) + 2) / 8 = 3 * q by omega, show (6 * (4 * q) + 3) / 8 = 3 * q by omega, show (6 * (4 * q) + 4) / 8 = 3 * q by omega, show (6 * (4 * q) + 5) / 8 = 3 * q by omega,
    show (6 * (4 * q) + 0) % 8 = 0 by omega, show (6 * (4 * q) + 1) % 8 = 1 by omega, show (6 * (4 * q) + 2) % 8 = 2 by omega, show (6 * (4 * q) + 3) % 8 = 3 by omega, show (6 * (4 * q) + 4) % 8 = 4 by omega, show (6 * (4 * q) + 5) % 8 = 5 by omega]
  simp only [Nat.reduceSub, Nat.reducePow]
  omega
theorem grp_1 (s : ByteArray) (q : Nat) : grp s (4 * q + 1) = byte s (3 * q) % 4 * 16 + byte s (3 * q + 1) / 16 := by
  have h := byte_lt s (3 * q)
  have h' := byte_lt s (3 * q + 1)
  unfold grp
  simp only [bitsN, bitN]
  rw [show (6 * (4 * q + 1) + 0) / 8 = 3 * q by omega, show (6 * (4 * q + 1) + 1) / 8 = 3 * q by omega, show (6 * (4 * q + 1) + 2) / 8 = 3 * q + 1 by omega, show (6 * (4 * q + 1) + 3) / 8 = 3 * q + 1 by omega, show (6 * (4 * q + 1) + 4) / 8 = 3 * q + 1 by omega, show (6 * (4 * q + 1) + 5) / 8 = 3 * q + 1 by omega,
    show (6 * (4 * q + 1) + 0) % 8 = 6 by omega, show (6 * (4 * q + 1) + 1) % 8 = 7 by omega, show (6 * (4 * q + 1) + 2) % 8 = 0 by omega, show (6 * (4 * q + 1) + 3) % 8 = 1 by omega, show (6 * (4 * q + 1) + 4) % 8 = 2 by omega, show (6 * (4 * q + 1) + 5) % 8 = 3 by omega]
  simp only [Nat.reduceSub, Nat.reducePow]
  omega
theorem grp_2 (s : ByteArray) (q : Nat) : grp s (4 * q + 2) = byte s (3 * q + 1) % 16 * 4 + byte s (3 * q + 2) / 64 := by
  have h := byte_lt s (3 * q + 1)
  have h' := byte_lt s (3 * q + 2)
  unfold grp
  simp only [bitsN, bitN]
  rw [show (6 * (4 * q + 2) + 0) / 8 = 3 * q + 1 by omega, show (6 * (4 * q + 2) + 1) / 8 = 3 * q + 1 by omega, show (6 * (4 * q + 2) + 2) / 8 = 3 * q + 1 by omega, show (6 * (4 * q + 2) + 3) / 8 = 3 * q + 1 by omega, show (6 * (4 * q + 2) + 4) / 8 = 3 * q + 2 by omega, show (6 * (4 * q + 2) + 5) / 8 = 3 * q + 2 by omega,
    show (6 * (4 * q + 2) + 0) % 8 = 4 by omega, show (6 * (4 * q + 2) + 1) % 8 = 5 by omega, show (6 * (4 * q + 2) + 2) % 8 = 6 by omega, show (6 * (4 * q + 2) + 3) % 8 = 7 by omega, show (6 * (4 * q + 2) + 4) % 8 = 0 by omega, show (6 * (4 * q + 2) + 5) % 8 = 1 by omega]
  simp only [Nat.reduceSub, Nat.reducePow]
  omega
theorem grp_3 (s : ByteArray) (q : Nat) : grp s (4 * q + 3) = byte s (3 * q + 2) % 64 := by
  have h := byte_lt s (3 * q + 2)
  unfold grp
  simp only [bitsN, bitN]
  rw [show (6 * (4 * q + 3) + 0) / 8 = 3 * q + 2 by omega, show (6 * (4 * q + 3) + 1) / 8 = 3 * q + 2 by omega, show (6 * (4 * q + 3) + 2) / 8 = 3 * q + 2 by omega, show (6 * (4 * q + 3) + 3) / 8 = 3 * q + 2 by omega, show (6 * (4 * q + 3) + 4) / 8 = 3 * q + 2 by omega, show (6 * (4 * q + 3) + 5) / 8 = 3 * q + 2 by omega,
    show (6 * (4 * q + 3) + 0) % 8 = 2 by omega, show (6 * (4 * q + 3) + 1) % 8 = 3 by omega, show (6 * (4 * q + 3) + 2) % 8 = 4 by omega, show (6 * (4 * q + 3) + 3) % 8 = 5 by omega, show (6 * (4 * q + 3) + 4) % 8 = 6 by omega, show (6 * (4 * q + 3) + 5) % 8 = 7 by omega]
  simp only [Nat.reduceSub, Nat.reducePow]
  omega

/-- The first k signs of bytes. -/
def signsL (s : ByteArray) (k : Nat) : List UInt8 := (List.range k).map fun j => UInt8.ofNat (signN (grp s j))
theorem signsL_succ (s : ByteArray) (k : Nat) : signsL s (k + 1) = signsL s k ++ [UInt8.ofNat (signN (grp s k))] := by simp [signsL, List.range_succ]
theorem signsL_length (s : ByteArray) (k : Nat) : (signsL s k).length = k := by simp [signsL]
/-- How many signs. -/
def signCount (n : Nat) : Nat := (4 * n + 2) / 3
/-- The base64 of bytes. -/
def encL (s : ByteArray) : List UInt8 := signsL s (signCount s.size) ++ List.replicate ((4 - signCount s.size % 4) % 4) 61

/-- A folded text, from place i on. -/
def foldFrom (n : Int) (i : Nat) : List UInt8 → List UInt8
  | [] => []
  | c :: r => if 0 < n ∧ 0 < i ∧ (i : Int) % n = 0 then 10 :: c :: foldFrom n (i + 1) r else c :: foldFrom n (i + 1) r
def foldL (n : Int) (l : List UInt8) : List UInt8 := foldFrom n 0 l

/-- A half as a small digit. -/
def hexN (n : Nat) : Nat := if n < 10 then 48 + n else 87 + n
def hexL (l : List UInt8) : List UInt8 := l.flatMap fun c => [UInt8.ofNat (hexN (c.toNat / 16)), UInt8.ofNat (hexN (c.toNat % 16))]
end Go.Proofs.YtgehgcnaoapbbaaDoor.Ch
