/-
  PLAIN: what inflating is: rows of bits are read, codes, copies, blocks. No program is named here.
-/
import Derived.Test.YtbhnlomppobbkaaHStep
namespace Go.Proofs.Ytbhnlomppobbkaa.Ch

/-- A number of k bits from a place on. -/
def numAt (l : List UInt8) (p k : Nat) : Nat := numOf ((List.range k).map fun i => bitL l (p + i))
def rdNum (l : List UInt8) (k p : Nat) : Except Nat (Nat × Nat) := if p + k ≤ 8 * l.length then .ok (numAt l p k, p + k) else .error 11
theorem numAt_zero (l : List UInt8) (p : Nat) : numAt l p 0 = 0 := rfl
theorem numAt_succ (l : List UInt8) (p k : Nat) : numAt l p (k + 1) = numAt l p k + (bitL l (p + k)).toNat * 2 ^ k := by
  unfold numAt
  rw [List.range_succ, List.map_append, numOf_append]
  simp [numOf, Nat.mul_comm]
theorem numAt_lt (l : List UInt8) (p k : Nat) : numAt l p k < 2 ^ k := by
  have := numOf_lt ((List.range k).map fun i => bitL l (p + i))
  rw [List.length_map, List.length_range] at this
  exact this
theorem numAt_one (l : List UInt8) (p : Nat) : numAt l p 1 = (bitL l p).toNat := by rw [numAt_succ, numAt_zero]; simp
/-- How many codes of a length there are; the first of a length; how many are shorter. -/
def cz (L : List Nat) (n : Nat) : Nat := if n = 0 then 0 else L.count n
def first (L : List Nat) : Nat → Nat
  | 0 => 0
  | n + 1 => 2 * (first L n + cz L n)
def sh (L : List Nat) : Nat → Nat
  | 0 => 0
  | n + 1 => sh L n + cz L n
def total (L : List Nat) : Nat := sh L 16
/-- The signs of a length, in order. -/
def idxs (L : List Nat) (n : Nat) : List Nat := (List.range L.length).filter fun i => L[i]? == some n
def theSign (L : List Nat) (n r : Nat) : Nat := ((idxs L n)[r]?).getD 0
/-- A sign by its code: n bits are read, c is their number. -/
def sgnF (L : List Nat) (l : List UInt8) : Nat → Nat → Nat → Nat → Except Nat (Nat × Nat)
  | 0, _, _, _ => .error 10
  | f + 1, n, c, p =>
    if sh L (n + 1) < total L then
      if p + 1 ≤ 8 * l.length then
        if 2 * c + (bitL l p).toNat < first L (n + 1) + cz L (n + 1) then .ok (theSign L (n + 1) (2 * c + (bitL l p).toNat - first L (n + 1)), p + 1)
        else sgnF L l f (n + 1) (2 * c + (bitL l p).toNat) (p + 1)
      else .error 11
    else .error 10
def sgn (L : List Nat) (l : List UInt8) (p : Nat) : Except Nat (Nat × Nat) := sgnF L l 16 0 0 p
/-- Bytes that stand so far back, one by one. -/
def copyL (text : List UInt8) (far : Nat) : Nat → List UInt8
  | 0 => text
  | k + 1 => copyL (text ++ [(text[text.length - far]?).getD 0]) far k
/-- A step's number. -/
def stepAt (l : List UInt8) (i g p : Nat) : Except Nat (Nat × Nat) := match rdNum l (moreN i g).2 p with
  | .ok (x, q) => .ok ((moreN i g).1 + x, q)
  | .error e => .error e
/-- The length of a copy. -/
def lenAt (l : List UInt8) (s p : Nat) : Except Nat (Nat × Nat) := if s < 285 then (match stepAt l (s - 257) 4 p with
  | .ok (x, q) => .ok (3 + x, q)
  | .error e => .error e) else .ok (258, p)
/-- A copy that began with a sign. -/
def copyOf (B : List Nat) (l : List UInt8) (most : Nat) (s p : Nat) (text : List UInt8) : Except Nat (Nat × List UInt8) :=
  if s ≤ 285 then match lenAt l s p with
    | .error e => .error e
    | .ok (size, p2) => match sgn B l p2 with
      | .error e => .error e
      | .ok (d, p3) => if d < 30 then match stepAt l d 2 p3 with
          | .error e => .error e
          | .ok (x, p4) => if 1 + x ≤ text.length then (if text.length + size ≤ most then .ok (p4, copyL text (1 + x) size) else .error 12) else .error 10
        else .error 10
  else .error 10
/-- The signs of a block. -/
def signsF (L B : List Nat) (l : List UInt8) (most : Nat) : Nat → Nat → List UInt8 → Except Nat (Nat × List UInt8)
  | 0, _, _ => .error 11
  | f + 1, p, text => match sgn L l p with
    | .error e => .error e
    | .ok (s, p1) =>
      if s < 256 then (if text.length + 1 ≤ most then signsF L B l most f p1 (text ++ [UInt8.ofNat s]) else .error 12)
      else if s = 256 then .ok (p1, text)
      else match copyOf B l most s p1 text with
        | .error e => .error e
        | .ok (p2, text2) => signsF L B l most f p2 text2
def signsL (L B : List Nat) (l : List UInt8) (most p : Nat) (text : List UInt8) : Except Nat (Nat × List UInt8) := signsF L B l most (8 * l.length + 1 - p) p text
/-- A block as it is. -/
def rawL (l : List UInt8) (most p : Nat) (text : List UInt8) : Except Nat (Nat × List UInt8) :=
  match rdNum l 16 ((p + 7) / 8 * 8) with
  | .error e => .error e
  | .ok (n, p1) => match rdNum l 16 p1 with
    | .error e => .error e
    | .ok (m, _) =>
      if m = 65535 - n then
        if text.length + n ≤ most then
          if (p + 7) / 8 + 4 + n ≤ l.length then .ok (((p + 7) / 8 + 4 + n) * 8, text ++ (l.drop ((p + 7) / 8 + 4)).take n)
          else .error 11
        else .error 12
      else .error 10
/-- The fixed codes' lengths. -/
def fixedL : List Nat := (List.range 288).map fun s => (fixC s).2
def fixedD : List Nat := List.replicate 32 5
/-- A block: is it the last one?; O: a block by codes of its own. -/
def blockL (O : Nat → List UInt8 → Except Nat (Nat × List UInt8)) (l : List UInt8) (most p : Nat) (text : List UInt8) : Except Nat (Bool × Nat × List UInt8) :=
  match rdNum l 1 p with
  | .error e => .error e
  | .ok (b, p1) => match rdNum l 2 p1 with
    | .error e => .error e
    | .ok (k, p2) => match (if k = 0 then rawL l most p2 text else if k = 1 then signsL fixedL fixedD l most p2 text else if k = 2 then O p2 text else .error 10) with
      | .error e => .error e
      | .ok (p3, t3) => .ok (b == 1, p3, t3)
def blocksF (O : Nat → List UInt8 → Except Nat (Nat × List UInt8)) (l : List UInt8) (most : Nat) : Nat → Nat → List UInt8 → Except Nat (Nat × List UInt8)
  | 0, _, _ => .error 11
  | f + 1, p, text => match blockL O l most p text with
    | .error e => .error e
    | .ok (last, p2, t2) => if last then .ok (p2, t2) else blocksF O l most f p2 t2
def inflL (O : Nat → List UInt8 → Except Nat (Nat × List UInt8)) (l : List UInt8) (most : Nat) : Except Nat (Nat × List UInt8) := blocksF O l most (8 * l.length + 1) 0 []
end Go.Proofs.Ytbhnlomppobbkaa.Ch
