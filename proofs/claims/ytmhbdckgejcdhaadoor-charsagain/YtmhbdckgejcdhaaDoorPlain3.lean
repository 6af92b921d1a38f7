/-
  PLAIN FACTS ON WORDS: the pieces of a text between blanks; a code point that is a blank is one byte; the bytes of another aren't blanks.
-/
import Derived.Test.YtmhbdckgejcdhaaDoorPlain2
import Derived.Lib.Strings
import GoSem.Core.Value
namespace Go.Proofs.YtmhbdckgejcdhaaDoor.Ch

def blank8 (c : UInt8) : Bool := blankB (c.toNat : Int)
theorem blank_high {b : Nat} (h : 128 ≤ b) : blankB (b : Int) = false := decide_eq_false (by omega)

theorem fit_high {least c n : Nat} (hl : 128 ≤ least) (h : (fit least c n).2 ≠ 0) : 128 ≤ (fit least c n).1 := by
  rw [fit_stand h]
  unfold fit at h
  split at h
  · exact absurd rfl h
  · show 128 ≤ c; omega

/-- A code point of one byte is that byte; each byte of another is 128 or more, and so is the code point. -/
theorem one_cases (s : ByteArray) (p : Nat) (h : (one s p).2 ≠ 0) :
    ((one s p).2 = 1 ∧ (one s p).1 = byte s p) ∨ (128 ≤ (one s p).1 ∧ ∀ k, k < (one s p).2 → 128 ≤ byte s (p + k)) := by
  have hf : ∀ l c n, (fit l c n).2 ≠ 0 → (fit l c n).2 = n := by
    intro l c n h; rw [fit_stand h]
  unfold one oneN at h ⊢
  by_cases a : byte s p < 128
  · rw [if_pos a]; exact .inl ⟨rfl, rfl⟩
  rw [if_neg a] at h ⊢
  by_cases a2 : 192 ≤ byte s p ∧ byte s p < 224
  · rw [if_pos a2] at h ⊢
    by_cases c : decide (p + 1 < s.size) = true ∧ (128 ≤ byte s (p + 1) ∧ byte s (p + 1) ≤ 191)
    · rw [if_pos c] at h ⊢
      refine .inr ⟨fit_high (by omega) h, ?_⟩
      rw [hf _ _ _ h]
      intro k hk
      match k, hk with
      | 0, _ => rw [Nat.add_zero]; omega
      | 1, _ => omega
    · rw [if_neg c] at h; exact absurd rfl h
  rw [if_neg a2] at h ⊢
  by_cases a3 : 224 ≤ byte s p ∧ byte s p < 240
  · rw [if_pos a3] at h ⊢
    by_cases c : decide (p + 2 < s.size) = true ∧ (128 ≤ byte s (p + 1) ∧ byte s (p + 1) ≤ 191) ∧ (128 ≤ byte s (p + 2) ∧ byte s (p + 2) ≤ 191)
    · rw [if_pos c] at h ⊢
      refine .inr ⟨fit_high (by omega) h, ?_⟩
      rw [hf _ _ _ h]
      intro k hk
      match k, hk with
      | 0, _ => rw [Nat.add_zero]; omega
      | 1, _ => omega
      | 2, _ => omega
    · rw [if_neg c] at h; exact absurd rfl h
  rw [if_neg a3] at h ⊢
  by_cases a4 : 240 ≤ byte s p ∧ byte s p < 248
  · rw [if_pos a4] at h ⊢
    by_cases c : decide (p + 3 < s.size) = true ∧ (128 ≤ byte s (p + 1) ∧ byte s (p + 1) ≤ 191) ∧ (128 ≤ byte s (p + 2) ∧ byte s (p + 2) ≤ 191) ∧ (128 ≤ byte s (p + 3) ∧ byte s (p + 3) ≤ 191)
    · rw [if_pos c] at h ⊢
      refine .inr ⟨fit_high (by omega) h, ?_⟩
      rw [hf _ _ _ h]
      intro k hk
      match k, hk with
      | 0, _ => rw [Nat.add_zero]; omega
      | 1, _ => omega
      | 2, _ => omega
      | 3, _ => omega
    · rw [if_neg c] at h; exact absurd rfl h
  · rw [if_neg a4] at h; exact absurd rfl h

theorem one_lone {s : ByteArray} {p : Nat} (h : (one s p).2 = 0) : 128 ≤ byte s p := by
  rcases Nat.lt_or_ge (byte s p) 128 with a | a
  · unfold one oneN at h
    rw [if_pos a] at h
    cases h
  · exact a

/-- WHAT A RANGE OVER A TEXT MEETS: the code point c of n bytes at p is one byte, c itself, less than 128; or c is 128 or more and so is each of its n bytes. -/
theorem rune_cases (s : ByteArray) (p : Nat) (hp : p < s.size) : ∃ c n, Utf8.decode s p = (c, n) ∧ 0 < n ∧ p + n ≤ s.size ∧ c ≤ 1114111 ∧ ((n = 1 ∧ c = byte s p ∧ c < 128) ∨ (128 ≤ c ∧ ∀ k, k < n → 128 ≤ byte s (p + k))) := by
  by_cases h : (one s p).2 = 0
  · refine ⟨65533, 1, by rw [decode_one, if_pos h], by omega, by omega, by omega, .inr ⟨by omega, ?_⟩⟩
    intro k hk
    obtain rfl : k = 0 := by omega
    rw [Nat.add_zero]
    exact one_lone h
  · refine ⟨(one s p).1, (one s p).2, by rw [decode_one, if_neg h], by omega, (one_le s p hp).1, one_lt s p, ?_⟩
    rcases one_cases s p h with ⟨h1, h2⟩ | h2
    · by_cases a : (one s p).1 < 128
      · exact .inl ⟨h1, h2, a⟩
      · refine .inr ⟨by omega, ?_⟩
        rw [h1]
        intro k hk
        obtain rfl : k = 0 := by omega
        rw [Nat.add_zero, ← h2]
        omega
    · exact .inr h2

/-! ### Words -/
def flush (cur : List UInt8) : List (List UInt8) := if cur = [] then [] else [cur]
def wordsFrom (cur : List UInt8) : List UInt8 → List (List UInt8)
  | [] => flush cur
  | c :: r => if blank8 c = true then flush cur ++ wordsFrom [] r else wordsFrom (cur ++ [c]) r
def words (l : List UInt8) : List (List UInt8) := wordsFrom [] l

theorem wordsFrom_plain : ∀ (t : List UInt8) (cur r : List UInt8), (∀ c ∈ t, blank8 c = false) → wordsFrom cur (t ++ r) = wordsFrom (cur ++ t) r
  | [], cur, r, _ => by simp
  | c :: t, cur, r, h => by
    rw [List.cons_append, wordsFrom, if_neg (by rw [h c (by simp)]; decide), wordsFrom_plain t _ r (fun x hx => h x (by simp [hx]))]
    simp
theorem wordsFrom_blank (cur : List UInt8) {c : UInt8} (r : List UInt8) (h : blank8 c = true) : wordsFrom cur (c :: r) = flush cur ++ wordsFrom [] r := by
  rw [wordsFrom, if_pos h]

/-- The bytes of a text from a to b. -/
def seg (s : ByteArray) (a b : Nat) : List UInt8 := (s.data.toList.drop a).take (b - a)
theorem seg_nil (s : ByteArray) (a : Nat) : seg s a a = [] := by simp [seg]
theorem len_eq (s : ByteArray) : s.data.toList.length = s.size := by simp
theorem seg_length (s : ByteArray) {a b : Nat} (h : b ≤ s.size) : (seg s a b).length = b - a := by
  unfold seg
  rw [List.length_take, List.length_drop, len_eq]
  omega
theorem seg_append (s : ByteArray) {a b c : Nat} (h1 : a ≤ b) (h2 : b ≤ c) : seg s a b ++ seg s b c = seg s a c := by
  unfold seg
  have e1 : c - a = (b - a) + (c - b) := by omega
  rw [e1, List.take_add, List.drop_drop]
  congr 3
  omega
theorem seg_rest (s : ByteArray) {a b : Nat} (h : a ≤ b) : seg s a b ++ s.data.toList.drop b = s.data.toList.drop a := by
  have e : s.data.toList.drop b = (s.data.toList.drop a).drop (b - a) := by rw [List.drop_drop]; congr 1; omega
  rw [e]
  exact List.take_append_drop _ _
theorem mem_seg {s : ByteArray} {a n : Nat} {c : UInt8} (h : c ∈ seg s a (a + n)) : ∃ k, k < n ∧ a + k < s.size ∧ c.toNat = byte s (a + k) := by
  obtain ⟨k, hk, e⟩ := List.getElem_of_mem h
  have hl : (seg s a (a + n)).length ≤ n := by
    unfold seg
    have := List.length_take_le (a + n - a) (s.data.toList.drop a)
    omega
  have h2 : (seg s a (a + n))[k]? = some c := by rw [List.getElem?_eq_getElem hk, e]
  unfold seg at h2
  rw [List.getElem?_take_of_lt (by omega), List.getElem?_drop] at h2
  have h3 : a + k < s.size := by
    rcases Nat.lt_or_ge (a + k) s.size with h | h
    · exact h
    · rw [list_none s _ h] at h2; cases h2
  rw [list_at s _ h3] at h2
  exact ⟨k, by omega, h3, by rw [byte_eq s _ h3, Option.some.inj h2]⟩
theorem drop_at (s : ByteArray) {p : Nat} (h : p < s.size) : ∃ c, s.data.toList.drop p = c :: s.data.toList.drop (p + 1) ∧ c.toNat = byte s p := by
  have hl : p < s.data.toList.length := by rw [len_eq]; exact h
  refine ⟨s.data.toList[p], List.drop_eq_getElem_cons hl, ?_⟩
  have := list_at s p h
  rw [List.getElem?_eq_getElem hl] at this
  rw [byte_eq s p h, Option.some.inj this]
theorem extract_seg (s : ByteArray) (a b : Nat) : s.extract a b = ⟨(seg s a b).toArray⟩ := by
  apply ByteArray.ext
  apply Array.toList_inj.1
  rw [Lib.extract_data]
  rfl

/-- A word's piece, where the code point at p isn't a blank. -/
theorem words_step {s : ByteArray} {a p n : Nat} (ha : a ≤ p) (h : ∀ k, k < n → blankB (byte s (p + k) : Int) = false) : wordsFrom (seg s a p) (s.data.toList.drop p) = wordsFrom (seg s a (p + n)) (s.data.toList.drop (p + n)) := by
  rw [← seg_rest s (show p ≤ p + n by omega), wordsFrom_plain, seg_append s ha (by omega)]
  intro c hc
  obtain ⟨k, hk, _, e⟩ := mem_seg hc
  unfold blank8
  rw [e]
  exact h k hk
theorem words_blank {s : ByteArray} {a p : Nat} (hp : p < s.size) (h : blankB (byte s p : Int) = true) : wordsFrom (seg s a p) (s.data.toList.drop p) = flush (seg s a p) ++ wordsFrom (seg s (p + 1) (p + 1)) (s.data.toList.drop (p + 1)) := by
  obtain ⟨c, e1, e2⟩ := drop_at s hp
  rw [e1, wordsFrom_blank _ _ (by unfold blank8; rw [e2]; exact h), seg_nil]
theorem flush_some {s : ByteArray} {a p : Nat} (h : a < p) (hp : p ≤ s.size) : flush (seg s a p) = [seg s a p] := by
  unfold flush
  rw [if_neg]
  intro e
  have := seg_length s (a := a) hp
  rw [e] at this
  simp at this
  omega
theorem flush_none {s : ByteArray} {a p : Nat} (h : ¬ a < p) : flush (seg s a p) = [] := by
  unfold flush seg
  rw [show p - a = 0 by omega]
  simp
theorem words_end (s : ByteArray) (a : Nat) : wordsFrom (seg s a s.size) (s.data.toList.drop s.size) = flush (seg s a s.size) := by
  rw [List.drop_of_length_le (by rw [len_eq]; exact Nat.le_refl _)]
  rfl
theorem words_start (s : ByteArray) : wordsFrom (seg s 0 0) (s.data.toList.drop 0) = words s.data.toList := by
  rw [seg_nil]; rfl

/-- The words as texts. -/
def wordsB (s : ByteArray) : List ByteArray := (words s.data.toList).map fun x => ⟨x.toArray⟩
def strs (l : List (List UInt8)) : List Value := l.map fun x => .string ⟨x.toArray⟩

end Go.Proofs.YtmhbdckgejcdhaaDoor.Ch
