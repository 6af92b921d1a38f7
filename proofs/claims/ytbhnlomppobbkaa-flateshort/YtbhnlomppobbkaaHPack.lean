/-
  PLAIN: rows of bits as bytes, the lowest bit first. No program is named here.
-/
import Derived.Test.YtbhnlomppobbkaaGPlain
namespace Go.Proofs.Ytbhnlomppobbkaa.Ch

/-- A number of its bits, the lowest first. -/
def numOf : List Bool → Nat
  | [] => 0
  | b :: l => b.toNat + 2 * numOf l
theorem numOf_append (l t : List Bool) : numOf (l ++ t) = numOf l + 2 ^ l.length * numOf t := by
  induction l with
  | nil => simp [numOf]
  | cons b l ih => rw [List.cons_append, numOf, numOf, ih, List.length_cons, Nat.pow_succ, Nat.mul_add, ← Nat.mul_assoc, Nat.mul_comm 2 (2 ^ l.length)]; omega
theorem numOf_lt (l : List Bool) : numOf l < 2 ^ l.length := by
  induction l with
  | nil => simp [numOf]
  | cons b l ih => rw [numOf, List.length_cons, Nat.pow_succ]; have := Bool.toNat_le b; omega
theorem numOf_testBit (l : List Bool) (i : Nat) : (numOf l).testBit i = (l[i]?).getD false := by
  induction l generalizing i with
  | nil => simp [numOf]
  | cons b l ih =>
    cases i with
    | zero => rw [numOf, Nat.testBit_zero]; cases b <;> simp
    | succ i =>
      rw [numOf, Nat.testBit_succ, show (b.toNat + 2 * numOf l) / 2 = numOf l by have := Bool.toNat_le b; omega, ih]
      simp
/-- Bits as bytes. -/
def pack (l : List Bool) : List UInt8 := (List.range ((l.length + 7) / 8)).map fun j => UInt8.ofNat (numOf ((l.drop (8 * j)).take 8))
theorem pack_nil : pack [] = [] := rfl
theorem pack_length (l : List Bool) : (pack l).length = (l.length + 7) / 8 := by simp [pack]
theorem pack_append (l t : List Bool) (h : l.length % 8 = 0) : pack (l ++ t) = pack l ++ pack t := by
  unfold pack
  have e : ((l ++ t).length + 7) / 8 = (l.length + 7) / 8 + (t.length + 7) / 8 := by rw [List.length_append]; omega
  rw [e, List.range_add, List.map_append, List.map_map]
  congr 1
  · apply List.map_congr_left
    intro j hj
    have hj := List.mem_range.1 hj
    rw [List.drop_append, List.take_append_of_le_length (by rw [List.length_drop]; omega)]
  · apply List.map_congr_left
    intro j _
    show UInt8.ofNat (numOf (((l ++ t).drop (8 * ((l.length + 7) / 8 + j))).take 8)) = _
    rw [show 8 * ((l.length + 7) / 8 + j) = l.length + 8 * j by omega, ← List.drop_drop, List.drop_left]
theorem pack_small (t : List Bool) (h0 : 0 < t.length) (h8 : t.length ≤ 8) : pack t = [UInt8.ofNat (numOf t)] := by
  unfold pack
  rw [show (t.length + 7) / 8 = 1 by omega]
  simp [List.take_of_length_le h8]
theorem pack_split (l : List Bool) : ∃ p t, l = p ++ t ∧ p.length % 8 = 0 ∧ t.length = l.length % 8 :=
  ⟨l.take (l.length / 8 * 8), l.drop (l.length / 8 * 8), (List.take_append_drop _ _).symm, by rw [List.length_take]; omega, by rw [List.length_drop]; omega⟩
/-- One bit more, at a byte's beginning. -/
theorem pack_snoc0 (l : List Bool) (x : Bool) (h : l.length % 8 = 0) : pack (l ++ [x]) = pack l ++ [UInt8.ofNat x.toNat] := by
  rw [pack_append l [x] h, pack_small [x] (by simp) (by simp)]
  simp [numOf]
/-- One bit more, within a byte. -/
theorem pack_snoc (l : List Bool) (x : Bool) (h : l.length % 8 ≠ 0) : ∃ p c, pack l = p ++ [c] ∧ c.toNat < 2 ^ (l.length % 8) ∧ pack (l ++ [x]) = p ++ [UInt8.ofNat (c.toNat + x.toNat * 2 ^ (l.length % 8))] ∧ p.length = l.length / 8 := by
  obtain ⟨p, t, rfl, hp, ht⟩ := pack_split l
  have ht8 : t.length < 8 := by omega
  have hlt := numOf_lt t
  have hp2 : 2 ^ t.length ≤ 2 ^ 7 := Nat.pow_le_pow_right (by omega) (by omega)
  have hc : (UInt8.ofNat (numOf t)).toNat = numOf t := by rw [UInt8.toNat_ofNat']; omega
  refine ⟨pack p, UInt8.ofNat (numOf t), ?_, ?_, ?_, ?_⟩
  · rw [pack_append p t hp, pack_small t (by omega) (by omega)]
  · rw [hc, ← ht]; exact hlt
  · rw [List.append_assoc, pack_append p _ hp, pack_small (t ++ [x]) (by simp) (by simp; omega), hc, numOf_append, ← ht]
    simp [numOf, Nat.mul_comm]
  · rw [pack_length, List.length_append]; omega
/-- The bit of bytes at a place. -/
def bitL (b : List UInt8) (i : Nat) : Bool := ((b[i / 8]?).getD 0).toNat.testBit (i % 8)
theorem bitL_pack (l : List Bool) (i : Nat) (h : i < l.length) : bitL (pack l) i = (l[i]?).getD false := by
  unfold bitL pack
  rw [List.getElem?_map, List.getElem?_range (by omega)]
  have hlt := numOf_lt ((l.drop (8 * (i / 8))).take 8)
  have h2 : 2 ^ ((l.drop (8 * (i / 8))).take 8).length ≤ 2 ^ 8 := Nat.pow_le_pow_right (by omega) (by rw [List.length_take]; omega)
  have e : (UInt8.ofNat (numOf ((l.drop (8 * (i / 8))).take 8))).toNat = numOf ((l.drop (8 * (i / 8))).take 8) := by rw [UInt8.toNat_ofNat']; omega
  show (UInt8.ofNat (numOf ((l.drop (8 * (i / 8))).take 8))).toNat.testBit (i % 8) = _
  rw [e, numOf_testBit, List.getElem?_take_of_lt (by omega), List.getElem?_drop]
  congr 2
  omega
theorem bitL_append (b t : List UInt8) (i : Nat) (h : i < 8 * b.length) : bitL (b ++ t) i = bitL b i := by
  unfold bitL
  rw [List.getElem?_append_left (by omega)]
theorem bitL_right (b t : List UInt8) (i : Nat) : bitL (b ++ t) (8 * b.length + i) = bitL t i := by
  unfold bitL
  rw [show (8 * b.length + i) / 8 = b.length + i / 8 by omega, show (8 * b.length + i) % 8 = i % 8 by omega, List.getElem?_append_right (by omega), Nat.add_sub_cancel_left]
/-- The bits of a number, the lowest first. -/
def numBits (x k : Nat) : List Bool := (List.range k).map fun i => x.testBit i
/-- The bits of a code, the first first. -/
def codeBits (x k : Nat) : List Bool := (List.range k).map fun i => x.testBit (k - 1 - i)
theorem numBits_length (x k : Nat) : (numBits x k).length = k := by simp [numBits]
theorem codeBits_length (x k : Nat) : (codeBits x k).length = k := by simp [codeBits]
theorem bit_toNat (x i : Nat) : ((x.testBit i).toNat : Nat) = x / 2 ^ i % 2 := by rw [Nat.toNat_testBit]
theorem numBits_succ (x k : Nat) : numBits x (k + 1) = numBits x k ++ [x.testBit k] := by simp [numBits, List.range_succ]
end Go.Proofs.Ytbhnlomppobbkaa.Ch
