/-
  PLAIN FACTS ON TEXTS AS CODE POINTS, WORDS, LINE ENDS AND BLANKS (layer 1's, over the bytes of GPlain).
-/
import Derived.Test.YtbepjlhknmhmeaaDoorGPlain
import GoSem.Core.Utf8
import GoSem.Core.Value
namespace Go.Proofs.YtbepjlhknmhmeaaDoor.Ch

/-- Is it a character of XML's? -/
def charB (c : Int) : Bool := decide (c = 9 ∨ c = 10 ∨ c = 13 ∨ (32 ≤ c ∧ c ≤ 55295) ∨ (57344 ≤ c ∧ c ≤ 65533) ∨ (65536 ≤ c ∧ c ≤ 1114111))
def blankB (c : Int) : Bool := decide (c = 32 ∨ c = 9 ∨ c = 10 ∨ c = 13)
def within (c : Int) (p : Int × Int) : Bool := decide (p.1 ≤ c ∧ c ≤ p.2)
def lettersL : List (Int × Int) := [(65, 90), (95, 95), (97, 122), (192, 214), (216, 246), (248, 767), (880, 893), (895, 8191), (8204, 8205), (8304, 8591), (11264, 12271), (12289, 55295), (63744, 64975), (65008, 65533), (65536, 983039)]
def moreL : List (Int × Int) := [(45, 46), (48, 57), (183, 183), (768, 879), (8255, 8256)]
/-- May a name begin with it? -/
def letterB (c : Int) : Bool := lettersL.any (within c)
/-- May it stand in a name behind the first, beside letters? -/
def moreB (c : Int) : Bool := moreL.any (within c)

def inChar (p : Int × Int) : Bool := decide ((32 ≤ p.1 ∧ p.2 ≤ 55295) ∨ (57344 ≤ p.1 ∧ p.2 ≤ 65533) ∨ (65536 ≤ p.1 ∧ p.2 ≤ 1114111))
theorem any_char {l : List (Int × Int)} (hl : l.all inChar = true) {c : Int} (h : l.any (within c) = true) : charB c = true := by
  obtain ⟨p, hp, hc⟩ := List.any_eq_true.1 h
  have h1 := of_decide_eq_true (List.all_eq_true.1 hl p hp)
  have h2 := of_decide_eq_true hc
  exact decide_eq_true (by omega)
theorem letter_char {c : Int} (h : letterB c = true) : charB c = true := any_char (by decide) h
theorem more_char {c : Int} (h : moreB c = true) : charB c = true := any_char (by decide) h
theorem more_iff (c : Int) : moreB c = decide ((48 ≤ c ∧ c ≤ 57) ∨ c = 45 ∨ c = 46 ∨ c = 183 ∨ (768 ≤ c ∧ c ≤ 879) ∨ c = 8255 ∨ c = 8256) := by
  rw [Bool.eq_iff_iff]
  simp [moreB, moreL, within]
  omega

/-- A number of bytes, if the code point is one that these bytes may give. -/
def fit (least c n : Nat) : Nat × Nat := if c < least ∨ (55296 ≤ c ∧ c ≤ 57343) ∨ 1114111 < c then (0, 0) else (c, n)
/-- The code point at a place, and how many bytes it has; (0, 0): there is none. -/
def oneN (b0 b1 b2 b3 : Nat) (h1 h2 h3 : Bool) : Nat × Nat :=
  if b0 < 128 then (b0, 1)
  else if 192 ≤ b0 ∧ b0 < 224 then (if h1 = true ∧ (128 ≤ b1 ∧ b1 ≤ 191) then fit 128 ((b0 - 192) * 64 + b1 - 128) 2 else (0, 0))
  else if 224 ≤ b0 ∧ b0 < 240 then (if h2 = true ∧ (128 ≤ b1 ∧ b1 ≤ 191) ∧ (128 ≤ b2 ∧ b2 ≤ 191) then fit 2048 (((b0 - 224) * 64 + b1 - 128) * 64 + b2 - 128) 3 else (0, 0))
  else if 240 ≤ b0 ∧ b0 < 248 then (if h3 = true ∧ (128 ≤ b1 ∧ b1 ≤ 191) ∧ (128 ≤ b2 ∧ b2 ≤ 191) ∧ (128 ≤ b3 ∧ b3 ≤ 191) then fit 65536 ((((b0 - 240) * 64 + b1 - 128) * 64 + b2 - 128) * 64 + b3 - 128) 4 else (0, 0))
  else (0, 0)
def one (s : ByteArray) (p : Nat) : Nat × Nat := oneN (byte s p) (byte s (p + 1)) (byte s (p + 2)) (byte s (p + 3)) (decide (p + 1 < s.size)) (decide (p + 2 < s.size)) (decide (p + 3 < s.size))

def decN (b0 b1 b2 b3 : Nat) (h1 h2 h3 : Bool) : Nat × Nat :=
  if b0 < 0x80 then (b0, 1)
  else if b0 / 32 == 6 && (h1 && b1 / 64 == 2) then
    (if (b0 % 32) * 64 + b1 % 64 ≥ 0x80 then ((b0 % 32) * 64 + b1 % 64, 2) else (Utf8.runeError, 1))
  else if b0 / 16 == 14 && (h1 && b1 / 64 == 2) && (h2 && b2 / 64 == 2) then
    (if (b0 % 16) * 4096 + (b1 % 64) * 64 + b2 % 64 ≥ 0x800 && Utf8.valid ((b0 % 16) * 4096 + (b1 % 64) * 64 + b2 % 64 : Nat) then ((b0 % 16) * 4096 + (b1 % 64) * 64 + b2 % 64, 3) else (Utf8.runeError, 1))
  else if b0 / 8 == 30 && (h1 && b1 / 64 == 2) && (h2 && b2 / 64 == 2) && (h3 && b3 / 64 == 2) then
    (if (b0 % 8) * 262144 + (b1 % 64) * 4096 + (b2 % 64) * 64 + b3 % 64 ≥ 0x10000 && Utf8.valid ((b0 % 8) * 262144 + (b1 % 64) * 4096 + (b2 % 64) * 64 + b3 % 64 : Nat) then ((b0 % 8) * 262144 + (b1 % 64) * 4096 + (b2 % 64) * 64 + b3 % 64, 4) else (Utf8.runeError, 1))
  else (Utf8.runeError, 1)

theorem decode_decN (s : ByteArray) (p : Nat) : Utf8.decode s p = decN (byte s p) (byte s (p + 1)) (byte s (p + 2)) (byte s (p + 3)) (decide (p + 1 < s.size)) (decide (p + 2 < s.size)) (decide (p + 3 < s.size)) := rfl

theorem fit_zero {least c n : Nat} (hn : n ≠ 0) : (fit least c n).2 = 0 ↔ (c < least ∨ (55296 ≤ c ∧ c ≤ 57343) ∨ 1114111 < c) := by
  unfold fit; split <;> simp_all
theorem fit_some {least c n : Nat} (h : ¬ (c < least ∨ (55296 ≤ c ∧ c ≤ 57343) ∨ 1114111 < c)) : fit least c n = (c, n) := by
  unfold fit; rw [if_neg h]
theorem fit_none {least c n : Nat} (h : c < least ∨ (55296 ≤ c ∧ c ≤ 57343) ∨ 1114111 < c) : fit least c n = (0, 0) := by
  unfold fit; rw [if_pos h]

theorem valid_iff (c : Nat) : Utf8.valid (c : Int) = true ↔ ¬ ((55296 ≤ c ∧ c ≤ 57343) ∨ 1114111 < c) := by
  unfold Utf8.valid; simp; omega

theorem tail_eq (x m k : Nat) (hk : k ≠ 0) :
    (if (decide (x ≥ m) && Utf8.valid (x : Int)) = true then (x, k) else (65533, 1)) = if (fit m x k).2 = 0 then (65533, 1) else fit m x k := by
  by_cases d : x < m ∨ (55296 ≤ x ∧ x ≤ 57343) ∨ 1114111 < x
  · have h : ¬ ((decide (x ≥ m) && Utf8.valid (x : Int)) = true) := by
      rw [Bool.and_eq_true, decide_eq_true_iff, valid_iff]; omega
    rw [fit_none d, if_neg h, if_pos rfl]
  · have h : (decide (x ≥ m) && Utf8.valid (x : Int)) = true := by
      rw [Bool.and_eq_true, decide_eq_true_iff, valid_iff]; omega
    rw [fit_some d, if_pos h, if_neg hk]

theorem decN_oneN (b0 b1 b2 b3 : Nat) (h1 h2 h3 : Bool) (l0 : b0 < 256) (l1 : b1 < 256) (l2 : b2 < 256) (l3 : b3 < 256) (h21 : h2 = true → h1 = true) (h32 : h3 = true → h2 = true) :
    decN b0 b1 b2 b3 h1 h2 h3 = if (oneN b0 b1 b2 b3 h1 h2 h3).2 = 0 then (65533, 1) else oneN b0 b1 b2 b3 h1 h2 h3 := by
  unfold decN oneN Utf8.runeError
  by_cases a : b0 < 128
  · simp [a]
  rw [if_neg a, if_neg a]
  by_cases a2 : 192 ≤ b0 ∧ b0 < 224
  · rw [if_pos a2]
    have e1 : (b0 / 32 == 6) = true := by simp; omega
    have e2 : (b0 / 16 == 14) = false := by simp; omega
    have e3 : (b0 / 8 == 30) = false := by simp; omega
    rw [e1, e2, e3]
    by_cases c : h1 = true ∧ (128 ≤ b1 ∧ b1 ≤ 191)
    · rw [if_pos c]
      have e4 : (b1 / 64 == 2) = true := by simp; omega
      rw [e4, c.1]
      have e5 : (b0 - 192) * 64 + b1 - 128 = b0 % 32 * 64 + b1 % 64 := by omega
      rw [e5]
      by_cases d : b0 % 32 * 64 + b1 % 64 ≥ 128
      · rw [fit_some (by omega)]; simp; omega
      · rw [fit_none (by omega)]; simp; omega
    · rw [if_neg c]
      have e4 : (h1 && b1 / 64 == 2) = false := by
        cases h1 <;> simp_all; omega
      rw [e4]; simp
  rw [if_neg a2]
  have e1 : (b0 / 32 == 6) = false := by simp; omega
  rw [e1]
  by_cases a3 : 224 ≤ b0 ∧ b0 < 240
  · rw [if_pos a3]
    have e2 : (b0 / 16 == 14) = true := by simp; omega
    have e3 : (b0 / 8 == 30) = false := by simp; omega
    rw [e2, e3]
    by_cases c : h2 = true ∧ (128 ≤ b1 ∧ b1 ≤ 191) ∧ (128 ≤ b2 ∧ b2 ≤ 191)
    · rw [if_pos c]
      have e4 : (b1 / 64 == 2) = true := by simp; omega
      have e6 : (b2 / 64 == 2) = true := by simp; omega
      rw [e4, e6, c.1, h21 c.1]
      have e5 : ((b0 - 224) * 64 + b1 - 128) * 64 + b2 - 128 = b0 % 16 * 4096 + b1 % 64 * 64 + b2 % 64 := by omega
      rw [e5]
      exact tail_eq _ 2048 3 (by decide)
    · rw [if_neg c]
      have e4 : ((h1 && b1 / 64 == 2) && (h2 && b2 / 64 == 2)) = false := by
        cases h1 <;> cases h2 <;> simp_all; omega
      simp only [Bool.true_and, e4]; simp
  rw [if_neg a3]
  have e2 : (b0 / 16 == 14) = false := by simp; omega
  rw [e2]
  by_cases a4 : 240 ≤ b0 ∧ b0 < 248
  · rw [if_pos a4]
    have e3 : (b0 / 8 == 30) = true := by simp; omega
    rw [e3]
    by_cases c : h3 = true ∧ (128 ≤ b1 ∧ b1 ≤ 191) ∧ (128 ≤ b2 ∧ b2 ≤ 191) ∧ (128 ≤ b3 ∧ b3 ≤ 191)
    · rw [if_pos c]
      have e4 : (b1 / 64 == 2) = true := by simp; omega
      have e6 : (b2 / 64 == 2) = true := by simp; omega
      have e7 : (b3 / 64 == 2) = true := by simp; omega
      rw [e4, e6, e7, c.1, h32 c.1, h21 (h32 c.1)]
      have e5 : (((b0 - 240) * 64 + b1 - 128) * 64 + b2 - 128) * 64 + b3 - 128 = b0 % 8 * 262144 + b1 % 64 * 4096 + b2 % 64 * 64 + b3 % 64 := by omega
      rw [e5]
      exact tail_eq _ 65536 4 (by decide)
    · rw [if_neg c]
      have e4 : ((h1 && b1 / 64 == 2) && (h2 && b2 / 64 == 2) && (h3 && b3 / 64 == 2)) = false := by
        cases h1 <;> cases h2 <;> cases h3 <;> simp_all; omega
      simp only [Bool.true_and, e4]; simp
  · rw [if_neg a4]
    have e3 : (b0 / 8 == 30) = false := by simp; omega
    rw [e3]; simp

/-- UTF-8's decoding by the model is the document's code point, or the stand-in of one byte where there is none. -/
theorem decode_one (s : ByteArray) (p : Nat) : Utf8.decode s p = if (one s p).2 = 0 then (65533, 1) else one s p := by
  rw [decode_decN]
  exact decN_oneN _ _ _ _ _ _ _ (byte_lt s _) (byte_lt s _) (byte_lt s _) (byte_lt s _) (by simp; omega) (by simp; omega)

/-- Does the code point only stand for a byte that is no character's? -/
def brokenB (s : ByteArray) (i : Nat) (r : Int) : Bool := decide (r = 65533) && !(Lib.hasPrefix (s.data.toList.drop i) [239, 191, 189])

theorem prefix3 (l : List UInt8) : Lib.hasPrefix l [239, 191, 189] = true ↔ l[0]? = some 239 ∧ l[1]? = some 191 ∧ l[2]? = some 189 := by
  unfold Lib.hasPrefix
  match l with
  | [] => simp
  | [a] => simp
  | [a, b] => simp
  | a :: b :: c :: r =>
    simp only [List.isPrefixOf, Bool.and_true, Bool.and_eq_true, beq_iff_eq, List.getElem?_cons_zero, List.getElem?_cons_succ, Option.some.injEq]
    constructor
    · rintro ⟨rfl, rfl, rfl⟩; exact ⟨rfl, rfl, rfl⟩
    · rintro ⟨rfl, rfl, rfl⟩; exact ⟨rfl, rfl, rfl⟩

theorem prefix_bytes (s : ByteArray) (p : Nat) : Lib.hasPrefix (s.data.toList.drop p) [239, 191, 189] = true ↔ p + 2 < s.size ∧ byte s p = 239 ∧ byte s (p + 1) = 191 ∧ byte s (p + 2) = 189 := by
  rw [prefix3]
  simp only [List.getElem?_drop, Nat.add_zero]
  constructor
  · rintro ⟨h0, h1, h2⟩
    have l2 : p + 2 < s.size := by
      rcases Nat.lt_or_ge (p + 2) s.size with h | h
      · exact h
      · rw [list_none s _ h] at h2; cases h2
    rw [list_at s p (by omega)] at h0
    rw [list_at s (p + 1) (by omega)] at h1
    rw [list_at s (p + 2) l2] at h2
    rw [byte_eq s p (by omega), byte_eq s (p + 1) (by omega), byte_eq s (p + 2) l2, Option.some.inj h0, Option.some.inj h1, Option.some.inj h2]
    exact ⟨l2, rfl, rfl, rfl⟩
  · rintro ⟨l2, h0, h1, h2⟩
    rw [byte_eq s p (by omega)] at h0
    rw [byte_eq s (p + 1) (by omega)] at h1
    rw [byte_eq s (p + 2) l2] at h2
    rw [list_at s p (by omega), list_at s (p + 1) (by omega), list_at s (p + 2) l2]
    refine ⟨congrArg some (UInt8.toNat_inj.1 h0), congrArg some (UInt8.toNat_inj.1 h1), congrArg some (UInt8.toNat_inj.1 h2)⟩

theorem fit_stand {least c n : Nat} (h : (fit least c n).2 ≠ 0) : fit least c n = (c, n) := by
  unfold fit at h ⊢; split <;> simp_all

theorem oneN_stand {b0 b1 b2 b3 : Nat} {h1 h2 h3 : Bool} (l0 : b0 < 256) (hn : (oneN b0 b1 b2 b3 h1 h2 h3).2 ≠ 0) (hc : (oneN b0 b1 b2 b3 h1 h2 h3).1 = 65533) : h2 = true ∧ b0 = 239 ∧ b1 = 191 ∧ b2 = 189 := by
  unfold oneN at hn hc
  by_cases a : b0 < 128
  · rw [if_pos a] at hc; simp at hc; omega
  rw [if_neg a] at hn hc
  by_cases a2 : 192 ≤ b0 ∧ b0 < 224
  · rw [if_pos a2] at hn hc
    by_cases c : h1 = true ∧ (128 ≤ b1 ∧ b1 ≤ 191)
    · rw [if_pos c] at hn hc; rw [fit_stand hn] at hc; simp only at hc; omega
    · rw [if_neg c] at hn; exact absurd rfl hn
  rw [if_neg a2] at hn hc
  by_cases a3 : 224 ≤ b0 ∧ b0 < 240
  · rw [if_pos a3] at hn hc
    by_cases c : h2 = true ∧ (128 ≤ b1 ∧ b1 ≤ 191) ∧ (128 ≤ b2 ∧ b2 ≤ 191)
    · rw [if_pos c] at hn hc; rw [fit_stand hn] at hc; simp only at hc; exact ⟨c.1, by omega, by omega, by omega⟩
    · rw [if_neg c] at hn; exact absurd rfl hn
  rw [if_neg a3] at hn hc
  by_cases a4 : 240 ≤ b0 ∧ b0 < 248
  · rw [if_pos a4] at hn hc
    by_cases c : h3 = true ∧ (128 ≤ b1 ∧ b1 ≤ 191) ∧ (128 ≤ b2 ∧ b2 ≤ 191) ∧ (128 ≤ b3 ∧ b3 ≤ 191)
    · rw [if_pos c] at hn hc
      have hz := hn
      rw [Ne, fit_zero (by decide)] at hz
      rw [fit_stand hn] at hc; simp only at hc; omega
    · rw [if_neg c] at hn; exact absurd rfl hn
  · rw [if_neg a4] at hn; exact absurd rfl hn

theorem broken_one (s : ByteArray) (p : Nat) : brokenB s p ((Utf8.decode s p).1 : Int) = decide ((one s p).2 = 0) := by
  rw [decode_one]
  by_cases h : (one s p).2 = 0
  · rw [if_pos h]
    have hp : Lib.hasPrefix (s.data.toList.drop p) [239, 191, 189] = false := by
      rw [Bool.eq_false_iff, Ne, prefix_bytes]
      rintro ⟨l2, e0, e1, e2⟩
      unfold one at h
      rw [e0, e1, e2] at h
      simp [oneN, fit, l2] at h
    simp [brokenB, hp, h]
  · rw [if_neg h]
    by_cases hc : (one s p).1 = 65533
    · obtain ⟨a, e0, e1, e2⟩ := oneN_stand (byte_lt s p) h hc
      have hp : Lib.hasPrefix (s.data.toList.drop p) [239, 191, 189] = true := by
        rw [prefix_bytes]
        exact ⟨of_decide_eq_true a, e0, e1, e2⟩
      simp [brokenB, hp, h]
    · have : ¬ (((one s p).1 : Nat) : Int) = 65533 := by omega
      simp [brokenB, h]
      intro q; omega

/-- The widths: a code point's bytes lie within the text. -/
theorem one_le (s : ByteArray) (p : Nat) (hp : p < s.size) : p + (one s p).2 ≤ s.size ∧ (one s p).2 ≤ 4 := by
  have hf : ∀ l c n, (fit l c n).2 = 0 ∨ (fit l c n).2 = n := by
    intro l c n; unfold fit; split <;> simp
  unfold one oneN
  split
  · simp; omega
  split
  · split
    · rename_i h; have := of_decide_eq_true h.1; rcases hf 128 ((byte s p - 192) * 64 + byte s (p + 1) - 128) 2 with e | e <;> rw [e] <;> omega
    · simp; omega
  split
  · split
    · rename_i h; have := of_decide_eq_true h.1; rcases hf 2048 (((byte s p - 224) * 64 + byte s (p + 1) - 128) * 64 + byte s (p + 2) - 128) 3 with e | e <;> rw [e] <;> omega
    · simp; omega
  split
  · split
    · rename_i h; have := of_decide_eq_true h.1; rcases hf 65536 ((((byte s p - 240) * 64 + byte s (p + 1) - 128) * 64 + byte s (p + 2) - 128) * 64 + byte s (p + 3) - 128) 4 with e | e <;> rw [e] <;> omega
    · simp; omega
  · simp; omega

theorem one_lt (s : ByteArray) (p : Nat) : (one s p).1 ≤ 1114111 := by
  have hf : ∀ l c n, (fit l c n).1 ≤ 1114111 := by
    intro l c n; unfold fit; split
    · exact Nat.zero_le _
    · show c ≤ 1114111; omega
  have := byte_lt s p
  unfold one oneN
  split
  · simp; omega
  split
  · split
    · exact hf _ _ _
    · exact Nat.zero_le _
  split
  · split
    · exact hf _ _ _
    · exact Nat.zero_le _
  split
  · split
    · exact hf _ _ _
    · exact Nat.zero_le _
  · exact Nat.zero_le _

/-- Where the first byte is that is no character's, from a place on; -1: nowhere. -/
def badFrom (s : ByteArray) : Nat → Nat → Int
  | 0, _ => -1
  | f + 1, p => if p < s.size then (if (one s p).2 = 0 ∨ charB (one s p).1 = false then (p : Int) else badFrom s f (p + (one s p).2)) else -1
def bad (s : ByteArray) : Int := badFrom s s.size 0

/-- Are all code points from a place on such as a name has? -/
def nameFrom (s : ByteArray) : Nat → Nat → Bool
  | 0, _ => true
  | f + 1, p => if p < s.size then (if (one s p).2 ≠ 0 ∧ (letterB (one s p).1 = true ∨ (p ≠ 0 ∧ moreB (one s p).1 = true)) then nameFrom s f (p + (one s p).2) else false) else true
def isName (s : ByteArray) : Bool := decide (s.size ≠ 0 ∧ s.size ≤ 256) && nameFrom s s.size 0

theorem badFrom_stop {s : ByteArray} {f p : Nat} (hp : p < s.size) (h : (one s p).2 = 0 ∨ charB (one s p).1 = false) : badFrom s (f + 1) p = p := by
  rw [badFrom, if_pos hp, if_pos h]
theorem badFrom_step {s : ByteArray} {f p : Nat} (hp : p < s.size) (h1 : (one s p).2 ≠ 0) (h2 : charB (one s p).1 = true) : badFrom s (f + 1) p = badFrom s f (p + (one s p).2) := by
  rw [badFrom, if_pos hp, if_neg (by simp [h1, h2])]
theorem badFrom_end {s : ByteArray} {f p : Nat} (hp : ¬ p < s.size) : badFrom s f p = -1 := by
  cases f with
  | zero => rfl
  | succ f => rw [badFrom, if_neg hp]
theorem nameFrom_stop {s : ByteArray} {f p : Nat} (hp : p < s.size) (h : ¬ ((one s p).2 ≠ 0 ∧ (letterB (one s p).1 = true ∨ (p ≠ 0 ∧ moreB (one s p).1 = true)))) : nameFrom s (f + 1) p = false := by
  rw [nameFrom, if_pos hp, if_neg h]
theorem nameFrom_step {s : ByteArray} {f p : Nat} (hp : p < s.size) (h : (one s p).2 ≠ 0 ∧ (letterB (one s p).1 = true ∨ (p ≠ 0 ∧ moreB (one s p).1 = true))) : nameFrom s (f + 1) p = nameFrom s f (p + (one s p).2) := by
  rw [nameFrom, if_pos hp, if_pos h]
theorem nameFrom_end {s : ByteArray} {f p : Nat} (hp : ¬ p < s.size) : nameFrom s f p = true := by
  cases f with
  | zero => rfl
  | succ f => rw [nameFrom, if_neg hp]

def blank8 (c : UInt8) : Bool := blankB (c.toNat : Int)
theorem blank_high {b : Nat} (h : 128 ≤ b) : blankB (b : Int) = false := decide_eq_false (by omega)

theorem fit_high {least c n : Nat} (hl : 128 ≤ least) (h : (fit least c n).2 ≠ 0) : 128 ≤ (fit least c n).1 := by
  rw [fit_stand h]
  unfold fit at h
  split at h
  · exact absurd rfl h
  · show 128 ≤ c; omega

/-- A code point of one byte is that byte; each byte of another is 128 or more, and so is the code point. -/
theorem one_cases (s : ByteArray) (p : Nat) (h : (one s p).2 ≠ 0) :
    ((one s p).2 = 1 ∧ (one s p).1 = byte s p) ∨ (128 ≤ (one s p).1 ∧ ∀ k, k < (one s p).2 → 128 ≤ byte s (p + k)) := by
  have hf : ∀ l c n, (fit l c n).2 ≠ 0 → (fit l c n).2 = n := by
    intro l c n h; rw [fit_stand h]
  unfold one oneN at h ⊢
  by_cases a : byte s p < 128
  · rw [if_pos a]; exact .inl ⟨rfl, rfl⟩
  rw [if_neg a] at h ⊢
  by_cases a2 : 192 ≤ byte s p ∧ byte s p < 224
  · rw [if_pos a2] at h ⊢
    by_cases c : decide (p + 1 < s.size) = true ∧ (128 ≤ byte s (p + 1) ∧ byte s (p + 1) ≤ 191)
    · rw [if_pos c] at h ⊢
      refine .inr ⟨fit_high (by omega) h, ?_⟩
      rw [hf _ _ _ h]
      intro k hk
      match k, hk with
      | 0, _ => rw [Nat.add_zero]; omega
      | 1, _ => omega
    · rw [if_neg c] at h; exact absurd rfl h
  rw [if_neg a2] at h ⊢
  by_cases a3 : 224 ≤ byte s p ∧ byte s p < 240
  · rw [if_pos a3] at h ⊢
    by_cases c : decide (p + 2 < s.size) = true ∧ (128 ≤ byte s (p + 1) ∧ byte s (p + 1) ≤ 191) ∧ (128 ≤ byte s (p + 2) ∧ byte s (p + 2) ≤ 191)
    · rw [if_pos c] at h ⊢
      refine .inr ⟨fit_high (by omega) h, ?_⟩
      rw [hf _ _ _ h]
      intro k hk
      match k, hk with
      | 0, _ => rw [Nat.add_zero]; omega
      | 1, _ => omega
      | 2, _ => omega
    · rw [if_neg c] at h; exact absurd rfl h
  rw [if_neg a3] at h ⊢
  by_cases a4 : 240 ≤ byte s p ∧ byte s p < 248
  · rw [if_pos a4] at h ⊢
    by_cases c : decide (p + 3 < s.size) = true ∧ (128 ≤ byte s (p + 1) ∧ byte s (p + 1) ≤ 191) ∧ (128 ≤ byte s (p + 2) ∧ byte s (p + 2) ≤ 191) ∧ (128 ≤ byte s (p + 3) ∧ byte s (p + 3) ≤ 191)
    · rw [if_pos c] at h ⊢
      refine .inr ⟨fit_high (by omega) h, ?_⟩
      rw [hf _ _ _ h]
      intro k hk
      match k, hk with
      | 0, _ => rw [Nat.add_zero]; omega
      | 1, _ => omega
      | 2, _ => omega
      | 3, _ => omega
    · rw [if_neg c] at h; exact absurd rfl h
  · rw [if_neg a4] at h; exact absurd rfl h

theorem one_lone {s : ByteArray} {p : Nat} (h : (one s p).2 = 0) : 128 ≤ byte s p := by
  rcases Nat.lt_or_ge (byte s p) 128 with a | a
  · unfold one oneN at h
    rw [if_pos a] at h
    cases h
  · exact a

/-- WHAT A RANGE OVER A TEXT MEETS: the code point c of n bytes at p is one byte, c itself, less than 128; or c is 128 or more and so is each of its n bytes. -/
theorem rune_cases (s : ByteArray) (p : Nat) (hp : p < s.size) : ∃ c n, Utf8.decode s p = (c, n) ∧ 0 < n ∧ p + n ≤ s.size ∧ c ≤ 1114111 ∧ ((n = 1 ∧ c = byte s p ∧ c < 128) ∨ (128 ≤ c ∧ ∀ k, k < n → 128 ≤ byte s (p + k))) := by
  by_cases h : (one s p).2 = 0
  · refine ⟨65533, 1, by rw [decode_one, if_pos h], by omega, by omega, by omega, .inr ⟨by omega, ?_⟩⟩
    intro k hk
    obtain rfl : k = 0 := by omega
    rw [Nat.add_zero]
    exact one_lone h
  · refine ⟨(one s p).1, (one s p).2, by rw [decode_one, if_neg h], by omega, (one_le s p hp).1, one_lt s p, ?_⟩
    rcases one_cases s p h with ⟨h1, h2⟩ | h2
    · by_cases a : (one s p).1 < 128
      · exact .inl ⟨h1, h2, a⟩
      · refine .inr ⟨by omega, ?_⟩
        rw [h1]
        intro k hk
        obtain rfl : k = 0 := by omega
        rw [Nat.add_zero, ← h2]
        omega
    · exact .inr h2

def flush (cur : List UInt8) : List (List UInt8) := if cur = [] then [] else [cur]
def wordsFrom (cur : List UInt8) : List UInt8 → List (List UInt8)
  | [] => flush cur
  | c :: r => if blank8 c = true then flush cur ++ wordsFrom [] r else wordsFrom (cur ++ [c]) r
def words (l : List UInt8) : List (List UInt8) := wordsFrom [] l

theorem wordsFrom_plain : ∀ (t : List UInt8) (cur r : List UInt8), (∀ c ∈ t, blank8 c = false) → wordsFrom cur (t ++ r) = wordsFrom (cur ++ t) r
  | [], cur, r, _ => by simp
  | c :: t, cur, r, h => by
    rw [List.cons_append, wordsFrom, if_neg (by rw [h c (by simp)]; decide), wordsFrom_plain t _ r (fun x hx => h x (by simp [hx]))]
    simp
theorem wordsFrom_blank (cur : List UInt8) {c : UInt8} (r : List UInt8) (h : blank8 c = true) : wordsFrom cur (c :: r) = flush cur ++ wordsFrom [] r := by
  rw [wordsFrom, if_pos h]

theorem mem_seg {s : ByteArray} {a n : Nat} {c : UInt8} (h : c ∈ seg s a (a + n)) : ∃ k, k < n ∧ a + k < s.size ∧ c.toNat = byte s (a + k) := by
  obtain ⟨k, hk, e⟩ := List.getElem_of_mem h
  have hl : (seg s a (a + n)).length ≤ n := by
    unfold seg
    have := List.length_take_le (a + n - a) (s.data.toList.drop a)
    omega
  have h2 : (seg s a (a + n))[k]? = some c := by rw [List.getElem?_eq_getElem hk, e]
  unfold seg at h2
  rw [List.getElem?_take_of_lt (by omega), List.getElem?_drop] at h2
  have h3 : a + k < s.size := by
    rcases Nat.lt_or_ge (a + k) s.size with h | h
    · exact h
    · rw [list_none s _ h] at h2; cases h2
  rw [list_at s _ h3] at h2
  exact ⟨k, by omega, h3, by rw [byte_eq s _ h3, Option.some.inj h2]⟩
/-- A word's piece, where the code point at p isn't a blank. -/
theorem words_step {s : ByteArray} {a p n : Nat} (ha : a ≤ p) (h : ∀ k, k < n → blankB (byte s (p + k) : Int) = false) : wordsFrom (seg s a p) (s.data.toList.drop p) = wordsFrom (seg s a (p + n)) (s.data.toList.drop (p + n)) := by
  rw [← seg_rest s (show p ≤ p + n by omega), wordsFrom_plain, seg_append s ha (by omega)]
  intro c hc
  obtain ⟨k, hk, _, e⟩ := mem_seg hc
  unfold blank8
  rw [e]
  exact h k hk
theorem words_blank {s : ByteArray} {a p : Nat} (hp : p < s.size) (h : blankB (byte s p : Int) = true) : wordsFrom (seg s a p) (s.data.toList.drop p) = flush (seg s a p) ++ wordsFrom (seg s (p + 1) (p + 1)) (s.data.toList.drop (p + 1)) := by
  obtain ⟨c, e1, e2⟩ := drop_at s hp
  rw [e1, wordsFrom_blank _ _ (by unfold blank8; rw [e2]; exact h), seg_nil]
theorem flush_some {s : ByteArray} {a p : Nat} (h : a < p) (hp : p ≤ s.size) : flush (seg s a p) = [seg s a p] := by
  unfold flush
  rw [if_neg]
  intro e
  have := seg_length s (a := a) hp
  rw [e] at this
  simp at this
  omega
theorem flush_none {s : ByteArray} {a p : Nat} (h : ¬ a < p) : flush (seg s a p) = [] := by
  unfold flush seg
  rw [show p - a = 0 by omega]
  simp
theorem words_end (s : ByteArray) (a : Nat) : wordsFrom (seg s a s.size) (s.data.toList.drop s.size) = flush (seg s a s.size) := by
  rw [List.drop_of_length_le (by rw [len_eq]; exact Nat.le_refl _)]
  rfl
theorem words_start (s : ByteArray) : wordsFrom (seg s 0 0) (s.data.toList.drop 0) = words s.data.toList := by
  rw [seg_nil]; rfl

/-- The words as texts. -/
def wordsB (s : ByteArray) : List ByteArray := (words s.data.toList).map fun x => ⟨x.toArray⟩
def strs (l : List (List UInt8)) : List Value := l.map fun x => .string ⟨x.toArray⟩

def linesL : List UInt8 → List UInt8
  | [] => []
  | c :: r => if c = 13 then (if r.head? = some 10 then linesL r else 10 :: linesL r) else c :: linesL r
def flat8 (c : UInt8) : UInt8 := if blank8 c = true then 32 else c
def flatL (l : List UInt8) : List UInt8 := l.map flat8

theorem linesL_plain : ∀ (t r : List UInt8), (∀ c ∈ t, c ≠ 13) → linesL (t ++ r) = t ++ linesL r
  | [], _, _ => rfl
  | c :: t, r, h => by
    rw [List.cons_append, linesL, if_neg (h c (by simp)), linesL_plain t r (fun x hx => h x (by simp [hx]))]
    rfl
theorem flatL_plain (t r : List UInt8) (h : ∀ c ∈ t, blank8 c = false) : flatL (t ++ r) = t ++ flatL r := by
  unfold flatL
  rw [List.map_append]
  congr 1
  conv => rhs; rw [← List.map_id t]
  apply List.map_congr_left
  intro c hc
  unfold flat8
  rw [if_neg (by rw [h c hc]; decide)]
  rfl

/-- Where the code point at p isn't a line end. -/
theorem lines_step {s : ByteArray} {p n : Nat} (h : ∀ k, k < n → byte s (p + k) ≠ 13) : linesL (s.data.toList.drop p) = seg s p (p + n) ++ linesL (s.data.toList.drop (p + n)) := by
  rw [← seg_rest s (show p ≤ p + n by omega), linesL_plain]
  intro c hc e
  obtain ⟨k, hk, _, e2⟩ := mem_seg hc
  exact h k hk (by rw [← e2, e]; rfl)
theorem flat_step {s : ByteArray} {p n : Nat} (h : ∀ k, k < n → blankB (byte s (p + k) : Int) = false) : flatL (s.data.toList.drop p) = seg s p (p + n) ++ flatL (s.data.toList.drop (p + n)) := by
  rw [← seg_rest s (show p ≤ p + n by omega), flatL_plain]
  intro c hc
  obtain ⟨k, hk, _, e2⟩ := mem_seg hc
  unfold blank8
  rw [e2]
  exact h k hk
theorem head_drop (s : ByteArray) (p : Nat) : (s.data.toList.drop p).head? = some 10 ↔ p < s.size ∧ byte s p = 10 := by
  rw [List.head?_drop]
  constructor
  · intro h
    have hp : p < s.size := by
      rcases Nat.lt_or_ge p s.size with h' | h'
      · exact h'
      · rw [list_none s p h'] at h; cases h
    rw [list_at s p hp] at h
    exact ⟨hp, by rw [byte_eq s p hp, Option.some.inj h]; rfl⟩
  · rintro ⟨hp, h⟩
    rw [list_at s p hp]
    rw [byte_eq s p hp] at h
    exact congrArg some (UInt8.toNat_inj.1 h)
theorem drop_byte {s : ByteArray} {p : Nat} (hp : p < s.size) {b : UInt8} (hb : byte s p = b.toNat) : s.data.toList.drop p = b :: s.data.toList.drop (p + 1) := by
  obtain ⟨c, e1, e2⟩ := drop_at s hp
  rw [e1]
  congr 1
  exact UInt8.toNat_inj.1 (e2.trans hb)
theorem lines_both {s : ByteArray} {p : Nat} (hp : p < s.size) (h : byte s p = 13) (h2 : p + 1 < s.size ∧ byte s (p + 1) = 10) : linesL (s.data.toList.drop p) = [] ++ linesL (s.data.toList.drop (p + 1)) := by
  rw [drop_byte hp (b := 13) h, linesL, if_pos rfl, if_pos ((head_drop s (p + 1)).2 h2)]
  rfl
theorem lines_lone {s : ByteArray} {p : Nat} (hp : p < s.size) (h : byte s p = 13) (h2 : ¬ (p + 1 < s.size ∧ byte s (p + 1) = 10)) : linesL (s.data.toList.drop p) = [10] ++ linesL (s.data.toList.drop (p + 1)) := by
  rw [drop_byte hp (b := 13) h, linesL, if_pos rfl, if_neg (fun e => h2 ((head_drop s (p + 1)).1 e))]
  rfl
theorem flat_blank {s : ByteArray} {p : Nat} (hp : p < s.size) (h : blankB (byte s p : Int) = true) : flatL (s.data.toList.drop p) = [32] ++ flatL (s.data.toList.drop (p + 1)) := by
  obtain ⟨c, e1, e2⟩ := drop_at s hp
  rw [e1]
  unfold flatL
  rw [List.map_cons]
  have : flat8 c = 32 := by unfold flat8 blank8; rw [e2, if_pos h]
  rw [this]
  rfl

theorem linesL_le : ∀ l, (linesL l).length ≤ l.length
  | [] => Nat.le_refl _
  | c :: r => by
    have := linesL_le r
    rw [linesL]
    split
    · split
      · simp; omega
      · simp; omega
    · simp; omega
theorem flatL_length (l : List UInt8) : (flatL l).length = l.length := by simp [flatL]
end Go.Proofs.YtbepjlhknmhmeaaDoor.Ch
