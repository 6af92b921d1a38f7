/-
  PLAIN FACTS, MORE: the stand-in of a byte that is no character's; what a text's first bad byte is, what a name is.
-/
import Derived.Test.YtmhbdckgejcdhaaDoorPlain
import Derived.Lib.Strings
import Derived.Lib.RabinKarpLaws
import Derived.Laws.RangeAny
namespace Go.Proofs.YtmhbdckgejcdhaaDoor.Ch

theorem byte_eq (s : ByteArray) (i : Nat) (h : i < s.size) : byte s i = (s[i]'h).toNat := by
  have e : s.get! (i + 0) = s[i]'h := get_at s i h
  unfold byte
  rw [← e, Nat.add_zero]
theorem list_at (s : ByteArray) (i : Nat) (h : i < s.size) : s.data.toList[i]? = some (s[i]'h) := Proofs.byte_at s i h
theorem list_none (s : ByteArray) (i : Nat) (h : s.size ≤ i) : s.data.toList[i]? = none := by
  apply List.getElem?_eq_none
  have : s.data.toList.length = s.size := by simp
  omega

/-- Does the code point only stand for a byte that is no character's? -/
def brokenB (s : ByteArray) (i : Nat) (r : Int) : Bool := decide (r = 65533) && !(Lib.hasPrefix (s.data.toList.drop i) [239, 191, 189])

theorem prefix3 (l : List UInt8) : Lib.hasPrefix l [239, 191, 189] = true ↔ l[0]? = some 239 ∧ l[1]? = some 191 ∧ l[2]? = some 189 := by
  unfold Lib.hasPrefix
  match l with
  | [] => simp
  | [a] => simp
  | [a, b] => simp
  | a :: b :: c :: r =>
    simp only [List.isPrefixOf, Bool.and_true, Bool.and_eq_true, beq_iff_eq, List.getElem?_cons_zero, List.getElem?_cons_succ, Option.some.injEq]
    constructor
    · rintro ⟨rfl, rfl, rfl⟩; exact ⟨rfl, rfl, rfl⟩
    · rintro ⟨rfl, rfl, rfl⟩; exact ⟨rfl, rfl, rfl⟩

theorem prefix_bytes (s : ByteArray) (p : Nat) : Lib.hasPrefix (s.data.toList.drop p) [239, 191, 189] = true ↔ p + 2 < s.size ∧ byte s p = 239 ∧ byte s (p + 1) = 191 ∧ byte s (p + 2) = 189 := by
  rw [prefix3]
  simp only [List.getElem?_drop, Nat.add_zero]
  constructor
  · rintro ⟨h0, h1, h2⟩
    have l2 : p + 2 < s.size := by
      rcases Nat.lt_or_ge (p + 2) s.size with h | h
      · exact h
      · rw [list_none s _ h] at h2; cases h2
    rw [list_at s p (by omega)] at h0
    rw [list_at s (p + 1) (by omega)] at h1
    rw [list_at s (p + 2) l2] at h2
    rw [byte_eq s p (by omega), byte_eq s (p + 1) (by omega), byte_eq s (p + 2) l2, Option.some.inj h0, Option.some.inj h1, Option.some.inj h2]
    exact ⟨l2, rfl, rfl, rfl⟩
  · rintro ⟨l2, h0, h1, h2⟩
    rw [byte_eq s p (by omega)] at h0
    rw [byte_eq s (p + 1) (by omega)] at h1
    rw [byte_eq s (p + 2) l2] at h2
    rw [list_at s p (by omega), list_at s (p + 1) (by omega), list_at s (p + 2) l2]
    refine ⟨congrArg some (UInt8.toNat_inj.1 h0), congrArg some (UInt8.toNat_inj.1 h1), congrArg some (UInt8.toNat_inj.1 h2)⟩

theorem fit_stand {least c n : Nat} (h : (fit least c n).2 ≠ 0) : fit least c n = (c, n) := by
  unfold fit at h ⊢; split <;> simp_all

theorem oneN_stand {b0 b1 b2 b3 : Nat} {h1 h2 h3 : Bool} (l0 : b0 < 256) (hn : (oneN b0 b1 b2 b3 h1 h2 h3).2 ≠ 0) (hc : (oneN b0 b1 b2 b3 h1 h2 h3).1 = 65533) : h2 = true ∧ b0 = 239 ∧ b1 = 191 ∧ b2 = 189 := by
  unfold oneN at hn hc
  by_cases a : b0 < 128
  · rw [if_pos a] at hc; simp at hc; omega
  rw [if_neg a] at hn hc
  by_cases a2 : 192 ≤ b0 ∧ b0 < 224
  · rw [if_pos a2] at hn hc
    by_cases c : h1 = true ∧ (128 ≤ b1 ∧ b1 ≤ 191)
    · rw [if_pos c] at hn hc; rw [fit_stand hn] at hc; simp only at hc; omega
    · rw [if_neg c] at hn; exact absurd rfl hn
  rw [if_neg a2] at hn hc
  by_cases a3 : 224 ≤ b0 ∧ b0 < 240
  · rw [if_pos a3] at hn hc
    by_cases c : h2 = true ∧ (128 ≤ b1 ∧ b1 ≤ 191) ∧ (128 ≤ b2 ∧ b2 ≤ 191)
    · rw [if_pos c] at hn hc; rw [fit_stand hn] at hc; simp only at hc; exact ⟨c.1, by omega, by omega, by omega⟩
    · rw [if_neg c] at hn; exact absurd rfl hn
  rw [if_neg a3] at hn hc
  by_cases a4 : 240 ≤ b0 ∧ b0 < 248
  · rw [if_pos a4] at hn hc
    by_cases c : h3 = true ∧ (128 ≤ b1 ∧ b1 ≤ 191) ∧ (128 ≤ b2 ∧ b2 ≤ 191) ∧ (128 ≤ b3 ∧ b3 ≤ 191)
    · rw [if_pos c] at hn hc
      have hz := hn
      rw [Ne, fit_zero (by decide)] at hz
      rw [fit_stand hn] at hc; simp only at hc; omega
    · rw [if_neg c] at hn; exact absurd rfl hn
  · rw [if_neg a4] at hn; exact absurd rfl hn

theorem broken_one (s : ByteArray) (p : Nat) : brokenB s p ((Utf8.decode s p).1 : Int) = decide ((one s p).2 = 0) := by
  rw [decode_one]
  by_cases h : (one s p).2 = 0
  · rw [if_pos h]
    have hp : Lib.hasPrefix (s.data.toList.drop p) [239, 191, 189] = false := by
      rw [Bool.eq_false_iff, Ne, prefix_bytes]
      rintro ⟨l2, e0, e1, e2⟩
      unfold one at h
      rw [e0, e1, e2] at h
      simp [oneN, fit, l2] at h
    simp [brokenB, hp, h]
  · rw [if_neg h]
    by_cases hc : (one s p).1 = 65533
    · obtain ⟨a, e0, e1, e2⟩ := oneN_stand (byte_lt s p) h hc
      have hp : Lib.hasPrefix (s.data.toList.drop p) [239, 191, 189] = true := by
        rw [prefix_bytes]
        exact ⟨of_decide_eq_true a, e0, e1, e2⟩
      simp [brokenB, hp, h]
    · have : ¬ (((one s p).1 : Nat) : Int) = 65533 := by omega
      simp [brokenB, h]
      intro q; omega

/-- The widths: a code point's bytes lie within the text. -/
theorem one_le (s : ByteArray) (p : Nat) (hp : p < s.size) : p + (one s p).2 ≤ s.size ∧ (one s p).2 ≤ 4 := by
  have hf : ∀ l c n, (fit l c n).2 = 0 ∨ (fit l c n).2 = n := by
    intro l c n; unfold fit; split <;> simp
  unfold one oneN
  split
  · simp; omega
  split
  · split
    · rename_i h; have := of_decide_eq_true h.1; rcases hf 128 ((byte s p - 192) * 64 + byte s (p + 1) - 128) 2 with e | e <;> rw [e] <;> omega
    · simp; omega
  split
  · split
    · rename_i h; have := of_decide_eq_true h.1; rcases hf 2048 (((byte s p - 224) * 64 + byte s (p + 1) - 128) * 64 + byte s (p + 2) - 128) 3 with e | e <;> rw [e] <;> omega
    · simp; omega
  split
  · split
    · rename_i h; have := of_decide_eq_true h.1; rcases hf 65536 ((((byte s p - 240) * 64 + byte s (p + 1) - 128) * 64 + byte s (p + 2) - 128) * 64 + byte s (p + 3) - 128) 4 with e | e <;> rw [e] <;> omega
    · simp; omega
  · simp; omega

theorem one_lt (s : ByteArray) (p : Nat) : (one s p).1 ≤ 1114111 := by
  have hf : ∀ l c n, (fit l c n).1 ≤ 1114111 := by
    intro l c n; unfold fit; split
    · exact Nat.zero_le _
    · show c ≤ 1114111; omega
  have := byte_lt s p
  unfold one oneN
  split
  · simp; omega
  split
  · split
    · exact hf _ _ _
    · exact Nat.zero_le _
  split
  · split
    · exact hf _ _ _
    · exact Nat.zero_le _
  split
  · split
    · exact hf _ _ _
    · exact Nat.zero_le _
  · exact Nat.zero_le _

/-- Where the first byte is that is no character's, from a place on; -1: nowhere. -/
def badFrom (s : ByteArray) : Nat → Nat → Int
  | 0, _ => -1
  | f + 1, p => if p < s.size then (if (one s p).2 = 0 ∨ charB (one s p).1 = false then (p : Int) else badFrom s f (p + (one s p).2)) else -1
def bad (s : ByteArray) : Int := badFrom s s.size 0

/-- Are all code points from a place on such as a name has? -/
def nameFrom (s : ByteArray) : Nat → Nat → Bool
  | 0, _ => true
  | f + 1, p => if p < s.size then (if (one s p).2 ≠ 0 ∧ (letterB (one s p).1 = true ∨ (p ≠ 0 ∧ moreB (one s p).1 = true)) then nameFrom s f (p + (one s p).2) else false) else true
def isName (s : ByteArray) : Bool := decide (s.size ≠ 0 ∧ s.size ≤ 256) && nameFrom s s.size 0

theorem badFrom_stop {s : ByteArray} {f p : Nat} (hp : p < s.size) (h : (one s p).2 = 0 ∨ charB (one s p).1 = false) : badFrom s (f + 1) p = p := by
  rw [badFrom, if_pos hp, if_pos h]
theorem badFrom_step {s : ByteArray} {f p : Nat} (hp : p < s.size) (h1 : (one s p).2 ≠ 0) (h2 : charB (one s p).1 = true) : badFrom s (f + 1) p = badFrom s f (p + (one s p).2) := by
  rw [badFrom, if_pos hp, if_neg (by simp [h1, h2])]
theorem badFrom_end {s : ByteArray} {f p : Nat} (hp : ¬ p < s.size) : badFrom s f p = -1 := by
  cases f with
  | zero => rfl
  | succ f => rw [badFrom, if_neg hp]
theorem nameFrom_stop {s : ByteArray} {f p : Nat} (hp : p < s.size) (h : ¬ ((one s p).2 ≠ 0 ∧ (letterB (one s p).1 = true ∨ (p ≠ 0 ∧ moreB (one s p).1 = true)))) : nameFrom s (f + 1) p = false := by
  rw [nameFrom, if_pos hp, if_neg h]
theorem nameFrom_step {s : ByteArray} {f p : Nat} (hp : p < s.size) (h : (one s p).2 ≠ 0 ∧ (letterB (one s p).1 = true ∨ (p ≠ 0 ∧ moreB (one s p).1 = true))) : nameFrom s (f + 1) p = nameFrom s f (p + (one s p).2) := by
  rw [nameFrom, if_pos hp, if_pos h]
theorem nameFrom_end {s : ByteArray} {f p : Nat} (hp : ¬ p < s.size) : nameFrom s f p = true := by
  cases f with
  | zero => rfl
  | succ f => rw [nameFrom, if_neg hp]

end Go.Proofs.YtmhbdckgejcdhaaDoor.Ch
