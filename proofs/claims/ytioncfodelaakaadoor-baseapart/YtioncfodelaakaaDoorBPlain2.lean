/-
  PLAIN FACTS ON READING BASE64: the bits of the signs are the bits of the bytes; what is read of what was written.
-/
import Derived.Test.YtioncfodelaakaaDoorBPlain
namespace Go.Proofs.YtioncfodelaakaaDoor.Ch

def six8 (c : UInt8) : Nat := (sixO c.toNat).getD 0
def bits6 (n : Nat) : List Nat := [n / 32 % 2, n / 16 % 2, n / 8 % 2, n / 4 % 2, n / 2 % 2, n % 2]
/-- The signs ahead of the first '='. -/
def bodyL (t : List UInt8) : List UInt8 := t.takeWhile (fun c => c != 61)
def bitsL (t : List UInt8) : List Nat := (bodyL t).flatMap fun c => bits6 (six8 c)
/-- The first k bits from i on, as a number. -/
def numL (l : List Nat) (i : Nat) : Nat → Nat
  | 0 => 0
  | k + 1 => numL l i k * 2 + l.getD (i + k) 0
def bytesL (l : List Nat) (k : Nat) : List UInt8 := (List.range k).map fun j => UInt8.ofNat (numL l (8 * j) 8)
theorem bytesL_succ (l : List Nat) (k : Nat) : bytesL l (k + 1) = bytesL l k ++ [UInt8.ofNat (numL l (8 * k) 8)] := by simp [bytesL, List.range_succ]
theorem bytesL_length (l : List Nat) (k : Nat) : (bytesL l k).length = k := by simp [bytesL]
/-- What the document reads out of signs. -/
def readL (t : List UInt8) : List UInt8 := bytesL (bitsL t) ((bitsL t).length / 8)

theorem bits6_lt (n : Nat) : ∀ x ∈ bits6 n, x < 2 := by
  intro x hx
  simp only [bits6, List.mem_cons, List.not_mem_nil, or_false] at hx
  omega
theorem bitsL_lt (t : List UInt8) : ∀ x ∈ bitsL t, x < 2 := by
  intro x hx
  obtain ⟨c, _, h⟩ := List.mem_flatMap.1 hx
  exact bits6_lt _ x h
theorem numL_lt {l : List Nat} (h : ∀ x ∈ l, x < 2) (i k : Nat) : numL l i k < 2 ^ k := by
  induction k with
  | zero => simp [numL]
  | succ k ih =>
    have : l.getD (i + k) 0 < 2 := by
      rw [List.getD_eq_getElem?_getD]
      cases e : l[i + k]? with
      | none => simp
      | some x => exact h x (List.mem_of_getElem? e)
    rw [numL, Nat.pow_succ]
    omega

theorem sign_ne (n : Nat) : signN n ≠ 61 := by
  unfold signN
  repeat' split
  all_goals omega
theorem sign8_toNat (n : Nat) : (UInt8.ofNat (signN n)).toNat = signN n := by
  rw [UInt8.toNat_ofNat']
  have := signN_lt n
  omega
theorem six8_sign {n : Nat} (h : n < 64) : six8 (UInt8.ofNat (signN n)) = n := by
  unfold six8
  rw [sign8_toNat, (six_sign h).1 rfl]
  rfl

theorem takeWhile_all {l r : List UInt8} {p : UInt8 → Bool} (h : ∀ x ∈ l, p x = true) (hr : r.takeWhile p = []) : (l ++ r).takeWhile p = l := by
  induction l with
  | nil => exact hr
  | cons a l ih =>
    rw [List.cons_append, List.takeWhile_cons, h a (by simp)]
    simp only [if_true]
    rw [ih (fun x hx => h x (by simp [hx]))]

theorem bodyL_enc (s : ByteArray) : bodyL (encL s) = signsL s (signCount s.size) := by
  unfold bodyL encL
  apply takeWhile_all
  · intro x hx
    obtain ⟨j, _, rfl⟩ := List.mem_map.1 hx
    have : UInt8.ofNat (signN (grp s j)) ≠ 61 := by
      intro e
      have := congrArg UInt8.toNat e
      rw [sign8_toNat] at this
      exact sign_ne _ this
    simpa using this
  · cases h : (4 - signCount s.size % 4) % 4 with
    | zero => rfl
    | succ p => rw [List.replicate_succ]; rfl

theorem bits6_grp (s : ByteArray) (k : Nat) : bits6 (grp s k) = [bitN s (6 * k), bitN s (6 * k + 1), bitN s (6 * k + 2), bitN s (6 * k + 3), bitN s (6 * k + 4), bitN s (6 * k + 5)] := by
  have h0 := bitN_lt s (6 * k)
  have h1 := bitN_lt s (6 * k + 1)
  have h2 := bitN_lt s (6 * k + 2)
  have h3 := bitN_lt s (6 * k + 3)
  have h4 := bitN_lt s (6 * k + 4)
  have h5 := bitN_lt s (6 * k + 5)
  unfold bits6 grp
  simp only [bitsN, Nat.add_zero, List.cons.injEq, and_true]
  refine ⟨?_, ?_, ?_, ?_, ?_, ?_⟩ <;> omega

theorem range_six (n : Nat) : List.range (6 * (n + 1)) = List.range (6 * n) ++ [6 * n, 6 * n + 1, 6 * n + 2, 6 * n + 3, 6 * n + 4, 6 * n + 5] := by
  rw [show 6 * (n + 1) = 6 * n + 1 + 1 + 1 + 1 + 1 + 1 by omega]
  simp only [List.range_succ, List.append_assoc]
  rfl
theorem bits_signs (s : ByteArray) (m : Nat) : ((signsL s m).flatMap fun c => bits6 (six8 c)) = (List.range (6 * m)).map (bitN s) := by
  induction m with
  | zero => rfl
  | succ m ih =>
    rw [signsL_succ, List.flatMap_append, ih, range_six, List.map_append]
    congr 1
    simp only [List.flatMap_cons, List.flatMap_nil, List.append_nil, six8_sign (grp_lt s m), bits6_grp]
    rfl
theorem bitsL_enc (s : ByteArray) : bitsL (encL s) = (List.range (6 * signCount s.size)).map (bitN s) := by
  unfold bitsL
  rw [bodyL_enc, bits_signs]

theorem eight_bits (s : ByteArray) (j : Nat) : bitsN s (8 * j) 8 = byte s j := by
  have h := byte_lt s j
  simp only [bitsN, bitN]
  rw [show (8 * j + 0) / 8 = j by omega, show (8 * j + 1) / 8 = j by omega, show (8 * j + 2) / 8 = j by omega, show (8 * j + 3) / 8 = j by omega, show (8 * j + 4) / 8 = j by omega, show (8 * j + 5) / 8 = j by omega, show (8 * j + 6) / 8 = j by omega, show (8 * j + 7) / 8 = j by omega,
    show (8 * j + 0) % 8 = 0 by omega, show (8 * j + 1) % 8 = 1 by omega, show (8 * j + 2) % 8 = 2 by omega, show (8 * j + 3) % 8 = 3 by omega, show (8 * j + 4) % 8 = 4 by omega, show (8 * j + 5) % 8 = 5 by omega, show (8 * j + 6) % 8 = 6 by omega, show (8 * j + 7) % 8 = 7 by omega]
  simp only [Nat.reduceSub, Nat.reducePow]
  omega
theorem numL_bits (s : ByteArray) (m i k : Nat) (h : i + k ≤ m) : numL ((List.range m).map (bitN s)) i k = bitsN s i k := by
  induction k with
  | zero => rfl
  | succ k ih =>
    rw [numL, bitsN, ih (by omega)]
    congr 1
    rw [List.getD_eq_getElem?_getD, List.getElem?_map, List.getElem?_range (by omega)]
    rfl

/-- What was written is read as itself. -/
theorem read_enc (s : ByteArray) : readL (encL s) = s.data.toList := by
  unfold readL
  rw [bitsL_enc]
  have hn : ((List.range (6 * signCount s.size)).map (bitN s)).length / 8 = s.size := by
    rw [List.length_map, List.length_range]
    unfold signCount
    omega
  rw [hn]
  apply List.ext_getElem?
  intro j
  unfold bytesL
  by_cases hj : j < s.size
  · rw [List.getElem?_map, List.getElem?_range hj, list_at s j hj]
    have h8 : 8 * j + 8 ≤ 6 * signCount s.size := by unfold signCount; omega
    simp only [Option.map_some, numL_bits s _ _ _ h8, eight_bits, byte_eq s j hj]
    rw [UInt8.ofNat_toNat]
  · rw [List.getElem?_map, list_none s j (by omega), List.getElem?_eq_none (by simp; omega)]
    rfl
/-- Unlike bytes are written unlike. -/
theorem enc_inj {s t : ByteArray} (h : encL s = encL t) : s = t := by
  apply ByteArray.ext
  apply Array.toList_inj.1
  rw [← read_enc s, h, read_enc]
end Go.Proofs.YtioncfodelaakaaDoor.Ch
