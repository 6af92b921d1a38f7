/-
  PLAIN FACTS ON BYTES, NUMBERS AND LISTS for the statements of layer 1 (chars): what UTF-8's decoding by the model is against the document's code points. No program is named here.
-/
import GoSem.Core.Utf8
namespace Go.Proofs.YtmhbdckgejcdhaaDoor.Ch

/-- The byte at a place. -/
def byte (s : ByteArray) (i : Nat) : Nat := (s.get! i).toNat
theorem byte_lt (s : ByteArray) (i : Nat) : byte s i < 256 := UInt8.toNat_lt _

/-- Is it a character of XML's? -/
def charB (c : Int) : Bool := decide (c = 9 ∨ c = 10 ∨ c = 13 ∨ (32 ≤ c ∧ c ≤ 55295) ∨ (57344 ≤ c ∧ c ≤ 65533) ∨ (65536 ≤ c ∧ c ≤ 1114111))
def blankB (c : Int) : Bool := decide (c = 32 ∨ c = 9 ∨ c = 10 ∨ c = 13)
def within (c : Int) (p : Int × Int) : Bool := decide (p.1 ≤ c ∧ c ≤ p.2)
def lettersL : List (Int × Int) := [(65, 90), (95, 95), (97, 122), (192, 214), (216, 246), (248, 767), (880, 893), (895, 8191), (8204, 8205), (8304, 8591), (11264, 12271), (12289, 55295), (63744, 64975), (65008, 65533), (65536, 983039)]
def moreL : List (Int × Int) := [(45, 46), (48, 57), (183, 183), (768, 879), (8255, 8256)]
/-- May a name begin with it? -/
def letterB (c : Int) : Bool := lettersL.any (within c)
/-- May it stand in a name behind the first, beside letters? -/
def moreB (c : Int) : Bool := moreL.any (within c)

def inChar (p : Int × Int) : Bool := decide ((32 ≤ p.1 ∧ p.2 ≤ 55295) ∨ (57344 ≤ p.1 ∧ p.2 ≤ 65533) ∨ (65536 ≤ p.1 ∧ p.2 ≤ 1114111))
theorem any_char {l : List (Int × Int)} (hl : l.all inChar = true) {c : Int} (h : l.any (within c) = true) : charB c = true := by
  obtain ⟨p, hp, hc⟩ := List.any_eq_true.1 h
  have h1 := of_decide_eq_true (List.all_eq_true.1 hl p hp)
  have h2 := of_decide_eq_true hc
  exact decide_eq_true (by omega)
theorem letter_char {c : Int} (h : letterB c = true) : charB c = true := any_char (by decide) h
theorem more_char {c : Int} (h : moreB c = true) : charB c = true := any_char (by decide) h
theorem more_iff (c : Int) : moreB c = decide ((48 ≤ c ∧ c ≤ 57) ∨ c = 45 ∨ c = 46 ∨ c = 183 ∨ (768 ≤ c ∧ c ≤ 879) ∨ c = 8255 ∨ c = 8256) := by
  rw [Bool.eq_iff_iff]
  simp [moreB, moreL, within]
  omega

/-- A number of bytes, if the code point is one that these bytes may give. -/
def fit (least c n : Nat) : Nat × Nat := if c < least ∨ (55296 ≤ c ∧ c ≤ 57343) ∨ 1114111 < c then (0, 0) else (c, n)
/-- The code point at a place, and how many bytes it has; (0, 0): there is none. -/
def oneN (b0 b1 b2 b3 : Nat) (h1 h2 h3 : Bool) : Nat × Nat :=
  if b0 < 128 then (b0, 1)
  else if 192 ≤ b0 ∧ b0 < 224 then (if h1 = true ∧ (128 ≤ b1 ∧ b1 ≤ 191) then fit 128 ((b0 - 192) * 64 + b1 - 128) 2 else (0, 0))
  else if 224 ≤ b0 ∧ b0 < 240 then (if h2 = true ∧ (128 ≤ b1 ∧ b1 ≤ 191) ∧ (128 ≤ b2 ∧ b2 ≤ 191) then fit 2048 (((b0 - 224) * 64 + b1 - 128) * 64 + b2 - 128) 3 else (0, 0))
  else if 240 ≤ b0 ∧ b0 < 248 then (if h3 = true ∧ (128 ≤ b1 ∧ b1 ≤ 191) ∧ (128 ≤ b2 ∧ b2 ≤ 191) ∧ (128 ≤ b3 ∧ b3 ≤ 191) then fit 65536 ((((b0 - 240) * 64 + b1 - 128) * 64 + b2 - 128) * 64 + b3 - 128) 4 else (0, 0))
  else (0, 0)
def one (s : ByteArray) (p : Nat) : Nat × Nat := oneN (byte s p) (byte s (p + 1)) (byte s (p + 2)) (byte s (p + 3)) (decide (p + 1 < s.size)) (decide (p + 2 < s.size)) (decide (p + 3 < s.size))

def decN (b0 b1 b2 b3 : Nat) (h1 h2 h3 : Bool) : Nat × Nat :=
  if b0 < 0x80 then (b0, 1)
  else if b0 / 32 == 6 && (h1 && b1 / 64 == 2) then
    (if (b0 % 32) * 64 + b1 % 64 ≥ 0x80 then ((b0 % 32) * 64 + b1 % 64, 2) else (Utf8.runeError, 1))
  else if b0 / 16 == 14 && (h1 && b1 / 64 == 2) && (h2 && b2 / 64 == 2) then
    (if (b0 % 16) * 4096 + (b1 % 64) * 64 + b2 % 64 ≥ 0x800 && Utf8.valid ((b0 % 16) * 4096 + (b1 % 64) * 64 + b2 % 64 : Nat) then ((b0 % 16) * 4096 + (b1 % 64) * 64 + b2 % 64, 3) else (Utf8.runeError, 1))
  else if b0 / 8 == 30 && (h1 && b1 / 64 == 2) && (h2 && b2 / 64 == 2) && (h3 && b3 / 64 == 2) then
    (if (b0 % 8) * 262144 + (b1 % 64) * 4096 + (b2 % 64) * 64 + b3 % 64 ≥ 0x10000 && Utf8.valid ((b0 % 8) * 262144 + (b1 % 64) * 4096 + (b2 % 64) * 64 + b3 % 64 : Nat) then ((b0 % 8) * 262144 + (b1 % 64) * 4096 + (b2 % 64) * 64 + b3 % 64, 4) else (Utf8.runeError, 1))
  else (Utf8.runeError, 1)

theorem decode_decN (s : ByteArray) (p : Nat) : Utf8.decode s p = decN (byte s p) (byte s (p + 1)) (byte s (p + 2)) (byte s (p + 3)) (decide (p + 1 < s.size)) (decide (p + 2 < s.size)) (decide (p + 3 < s.size)) := rfl

theorem fit_zero {least c n : Nat} (hn : n ≠ 0) : (fit least c n).2 = 0 ↔ (c < least ∨ (55296 ≤ c ∧ c ≤ 57343) ∨ 1114111 < c) := by
  unfold fit; split <;> simp_all
theorem fit_some {least c n : Nat} (h : ¬ (c < least ∨ (55296 ≤ c ∧ c ≤ 57343) ∨ 1114111 < c)) : fit least c n = (c, n) := by
  unfold fit; rw [if_neg h]
theorem fit_none {least c n : Nat} (h : c < least ∨ (55296 ≤ c ∧ c ≤ 57343) ∨ 1114111 < c) : fit least c n = (0, 0) := by
  unfold fit; rw [if_pos h]

theorem valid_iff (c : Nat) : Utf8.valid (c : Int) = true ↔ ¬ ((55296 ≤ c ∧ c ≤ 57343) ∨ 1114111 < c) := by
  unfold Utf8.valid; simp; omega

theorem tail_eq (x m k : Nat) (hk : k ≠ 0) :
    (if (decide (x ≥ m) && Utf8.valid (x : Int)) = true then (x, k) else (65533, 1)) = if (fit m x k).2 = 0 then (65533, 1) else fit m x k := by
  by_cases d : x < m ∨ (55296 ≤ x ∧ x ≤ 57343) ∨ 1114111 < x
  · have h : ¬ ((decide (x ≥ m) && Utf8.valid (x : Int)) = true) := by
      rw [Bool.and_eq_true, decide_eq_true_iff, valid_iff]; omega
    rw [fit_none d, if_neg h, if_pos rfl]
  · have h : (decide (x ≥ m) && Utf8.valid (x : Int)) = true := by
      rw [Bool.and_eq_true, decide_eq_true_iff, valid_iff]; omega
    rw [fit_some d, if_pos h, if_neg hk]

theorem decN_oneN (b0 b1 b2 b3 : Nat) (h1 h2 h3 : Bool) (l0 : b0 < 256) (l1 : b1 < 256) (l2 : b2 < 256) (l3 : b3 < 256) (h21 : h2 = true → h1 = true) (h32 : h3 = true → h2 = true) :
    decN b0 b1 b2 b3 h1 h2 h3 = if (oneN b0 b1 b2 b3 h1 h2 h3).2 = 0 then (65533, 1) else oneN b0 b1 b2 b3 h1 h2 h3 := by
  unfold decN oneN Utf8.runeError
  by_cases a : b0 < 128
  · simp [a]
  rw [if_neg a, if_neg a]
  by_cases a2 : 192 ≤ b0 ∧ b0 < 224
  · rw [if_pos a2]
    have e1 : (b0 / 32 == 6) = true := by simp; omega
    have e2 : (b0 / 16 == 14) = false := by simp; omega
    have e3 : (b0 / 8 == 30) = false := by simp; omega
    rw [e1, e2, e3]
    by_cases c : h1 = true ∧ (128 ≤ b1 ∧ b1 ≤ 191)
    · rw [if_pos c]
      have e4 : (b1 / 64 == 2) = true := by simp; omega
      rw [e4, c.1]
      have e5 : (b0 - 192) * 64 + b1 - 128 = b0 % 32 * 64 + b1 % 64 := by omega
      rw [e5]
      by_cases d : b0 % 32 * 64 + b1 % 64 ≥ 128
      · rw [fit_some (by omega)]; simp; omega
      · rw [fit_none (by omega)]; simp; omega
    · rw [if_neg c]
      have e4 : (h1 && b1 / 64 == 2) = false := by
        cases h1 <;> simp_all; omega
      rw [e4]; simp
  rw [if_neg a2]
  have e1 : (b0 / 32 == 6) = false := by simp; omega
  rw [e1]
  by_cases a3 : 224 ≤ b0 ∧ b0 < 240
  · rw [if_pos a3]
    have e2 : (b0 / 16 == 14) = true := by simp; omega
    have e3 : (b0 / 8 == 30) = false := by simp; omega
    rw [e2, e3]
    by_cases c : h2 = true ∧ (128 ≤ b1 ∧ b1 ≤ 191) ∧ (128 ≤ b2 ∧ b2 ≤ 191)
    · rw [if_pos c]
      have e4 : (b1 / 64 == 2) = true := by simp; omega
      have e6 : (b2 / 64 == 2) = true := by simp; omega
      rw [e4, e6, c.1, h21 c.1]
      have e5 : ((b0 - 224) * 64 + b1 - 128) * 64 + b2 - 128 = b0 % 16 * 4096 + b1 % 64 * 64 + b2 % 64 := by omega
      rw [e5]
      exact tail_eq _ 2048 3 (by decide)
    · rw [if_neg c]
      have e4 : ((h1 && b1 / 64 == 2) && (h2 && b2 / 64 == 2)) = false := by
        cases h1 <;> cases h2 <;> simp_all; omega
      simp only [Bool.true_and, e4]; simp
  rw [if_neg a3]
  have e2 : (b0 / 16 == 14) = false := by simp; omega
  rw [e2]
  by_cases a4 : 240 ≤ b0 ∧ b0 < 248
  · rw [if_pos a4]
    have e3 : (b0 / 8 == 30) = true := by simp; omega
    rw [e3]
    by_cases c : h3 = true ∧ (128 ≤ b1 ∧ b1 ≤ 191) ∧ (128 ≤ b2 ∧ b2 ≤ 191) ∧ (128 ≤ b3 ∧ b3 ≤ 191)
    · rw [if_pos c]
      have e4 : (b1 / 64 == 2) = true := by simp; omega
      have e6 : (b2 / 64 == 2) = true := by simp; omega
      have e7 : (b3 / 64 == 2) = true := by simp; omega
      rw [e4, e6, e7, c.1, h32 c.1, h21 (h32 c.1)]
      have e5 : (((b0 - 240) * 64 + b1 - 128) * 64 + b2 - 128) * 64 + b3 - 128 = b0 % 8 * 262144 + b1 % 64 * 4096 + b2 % 64 * 64 + b3 % 64 := by omega
      rw [e5]
      exact tail_eq _ 65536 4 (by decide)
    · rw [if_neg c]
      have e4 : ((h1 && b1 / 64 == 2) && (h2 && b2 / 64 == 2) && (h3 && b3 / 64 == 2)) = false := by
        cases h1 <;> cases h2 <;> cases h3 <;> simp_all; omega
      simp only [Bool.true_and, e4]; simp
  · rw [if_neg a4]
    have e3 : (b0 / 8 == 30) = false := by simp; omega
    rw [e3]; simp

/-- UTF-8's decoding by the model is the document's code point, or the stand-in of one byte where there is none. -/
theorem decode_one (s : ByteArray) (p : Nat) : Utf8.decode s p = if (one s p).2 = 0 then (65533, 1) else one s p := by
  rw [decode_decN]
  exact decN_oneN _ _ _ _ _ _ _ (byte_lt s _) (byte_lt s _) (byte_lt s _) (byte_lt s _) (by simp; omega) (by simp; omega)

end Go.Proofs.YtmhbdckgejcdhaaDoor.Ch
