/-
  PLAIN FACTS ON LINE ENDS AND BLANKS.
-/
import Derived.Test.YtmhbdckgejcdhaaDoorPlain3
namespace Go.Proofs.YtmhbdckgejcdhaaDoor.Ch

def linesL : List UInt8 → List UInt8
  | [] => []
  | c :: r => if c = 13 then (if r.head? = some 10 then linesL r else 10 :: linesL r) else c :: linesL r
def flat8 (c : UInt8) : UInt8 := if blank8 c = true then 32 else c
def flatL (l : List UInt8) : List UInt8 := l.map flat8

theorem linesL_plain : ∀ (t r : List UInt8), (∀ c ∈ t, c ≠ 13) → linesL (t ++ r) = t ++ linesL r
  | [], _, _ => rfl
  | c :: t, r, h => by
    rw [List.cons_append, linesL, if_neg (h c (by simp)), linesL_plain t r (fun x hx => h x (by simp [hx]))]
    rfl
theorem flatL_plain (t r : List UInt8) (h : ∀ c ∈ t, blank8 c = false) : flatL (t ++ r) = t ++ flatL r := by
  unfold flatL
  rw [List.map_append]
  congr 1
  conv => rhs; rw [← List.map_id t]
  apply List.map_congr_left
  intro c hc
  unfold flat8
  rw [if_neg (by rw [h c hc]; decide)]
  rfl

/-- Where the code point at p isn't a line end. -/
theorem lines_step {s : ByteArray} {p n : Nat} (h : ∀ k, k < n → byte s (p + k) ≠ 13) : linesL (s.data.toList.drop p) = seg s p (p + n) ++ linesL (s.data.toList.drop (p + n)) := by
  rw [← seg_rest s (show p ≤ p + n by omega), linesL_plain]
  intro c hc e
  obtain ⟨k, hk, _, e2⟩ := mem_seg hc
  exact h k hk (by rw [← e2, e]; rfl)
theorem flat_step {s : ByteArray} {p n : Nat} (h : ∀ k, k < n → blankB (byte s (p + k) : Int) = false) : flatL (s.data.toList.drop p) = seg s p (p + n) ++ flatL (s.data.toList.drop (p + n)) := by
  rw [← seg_rest s (show p ≤ p + n by omega), flatL_plain]
  intro c hc
  obtain ⟨k, hk, _, e2⟩ := mem_seg hc
  unfold blank8
  rw [e2]
  exact h k hk
theorem head_drop (s : ByteArray) (p : Nat) : (s.data.toList.drop p).head? = some 10 ↔ p < s.size ∧ byte s p = 10 := by
  rw [List.head?_drop]
  constructor
  · intro h
    have hp : p < s.size := by
      rcases Nat.lt_or_ge p s.size with h' | h'
      · exact h'
      · rw [list_none s p h'] at h; cases h
    rw [list_at s p hp] at h
    exact ⟨hp, by rw [byte_eq s p hp, Option.some.inj h]; rfl⟩
  · rintro ⟨hp, h⟩
    rw [list_at s p hp]
    rw [byte_eq s p hp] at h
    exact congrArg some (UInt8.toNat_inj.1 h)
theorem drop_byte {s : ByteArray} {p : Nat} (hp : p < s.size) {b : UInt8} (hb : byte s p = b.toNat) : s.data.toList.drop p = b :: s.data.toList.drop (p + 1) := by
  obtain ⟨c, e1, e2⟩ := drop_at s hp
  rw [e1]
  congr 1
  exact UInt8.toNat_inj.1 (e2.trans hb)
theorem lines_both {s : ByteArray} {p : Nat} (hp : p < s.size) (h : byte s p = 13) (h2 : p + 1 < s.size ∧ byte s (p + 1) = 10) : linesL (s.data.toList.drop p) = [] ++ linesL (s.data.toList.drop (p + 1)) := by
  rw [drop_byte hp (b := 13) h, linesL, if_pos rfl, if_pos ((head_drop s (p + 1)).2 h2)]
  rfl
theorem lines_lone {s : ByteArray} {p : Nat} (hp : p < s.size) (h : byte s p = 13) (h2 : ¬ (p + 1 < s.size ∧ byte s (p + 1) = 10)) : linesL (s.data.toList.drop p) = [10] ++ linesL (s.data.toList.drop (p + 1)) := by
  rw [drop_byte hp (b := 13) h, linesL, if_pos rfl, if_neg (fun e => h2 ((head_drop s (p + 1)).1 e))]
  rfl
theorem flat_blank {s : ByteArray} {p : Nat} (hp : p < s.size) (h : blankB (byte s p : Int) = true) : flatL (s.data.toList.drop p) = [32] ++ flatL (s.data.toList.drop (p + 1)) := by
  obtain ⟨c, e1, e2⟩ := drop_at s hp
  rw [e1]
  unfold flatL
  rw [List.map_cons]
  have : flat8 c = 32 := by unfold flat8 blank8; rw [e2, if_pos h]
  rw [this]
  rfl

theorem linesL_le : ∀ l, (linesL l).length ≤ l.length
  | [] => Nat.le_refl _
  | c :: r => by
    have := linesL_le r
    rw [linesL]
    split
    · split
      · simp; omega
      · simp; omega
    · simp; omega
theorem flatL_length (l : List UInt8) : (flatL l).length = l.length := by simp [flatL]
end Go.Proofs.YtmhbdckgejcdhaaDoor.Ch
