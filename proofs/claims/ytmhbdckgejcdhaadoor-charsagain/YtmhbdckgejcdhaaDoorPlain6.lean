/-
  PLAIN FACTS: what was made is made as itself again; texts parted by a blank.
-/
import Derived.Test.YtmhbdckgejcdhaaDoorCollapse
import Derived.Test.YtmhbdckgejcdhaaDoorPlain5
namespace Go.Proofs.YtmhbdckgejcdhaaDoor
open Ch

theorem lines_no13 : ∀ (l : List UInt8), ∀ c ∈ linesL l, c ≠ 13
  | [], c, h => by cases h
  | x :: r, c, h => by
    rw [linesL] at h
    split at h
    · split at h
      · exact lines_no13 r c h
      · rcases List.mem_cons.1 h with rfl | h
        · decide
        · exact lines_no13 r c h
    · rename_i hx
      rcases List.mem_cons.1 h with rfl | h
      · exact hx
      · exact lines_no13 r c h
theorem lines_again (l : List UInt8) : linesL (linesL l) = linesL l := by
  have := linesL_plain (linesL l) [] (lines_no13 l)
  rw [List.append_nil] at this
  rw [this]
  simp [linesL]
theorem flat_again (l : List UInt8) : flatL (flatL l) = flatL l := by
  unfold flatL
  rw [List.map_map]
  apply List.map_congr_left
  intro c _
  show flat8 (flat8 c) = flat8 c
  unfold flat8
  by_cases h : blank8 c = true
  · rw [if_pos h]; decide
  · rw [if_neg h, if_neg h]

/-- A word: not empty, no blank in it. -/
def good (x : List UInt8) : Prop := x ≠ [] ∧ ∀ c ∈ x, blank8 c = false
theorem flush_good {cur : List UInt8} (h : ∀ c ∈ cur, blank8 c = false) : ∀ x ∈ flush cur, good x := by
  intro x hx
  unfold flush at hx
  split at hx
  · cases hx
  · rename_i hne
    simp at hx
    subst hx
    exact ⟨hne, h⟩
theorem words_good : ∀ (l cur : List UInt8), (∀ c ∈ cur, blank8 c = false) → ∀ x ∈ wordsFrom cur l, good x
  | [], _, h => flush_good h
  | c :: r, cur, h => by
    rw [wordsFrom]
    split
    · intro x hx
      rcases List.mem_append.1 hx with hx | hx
      · exact flush_good h x hx
      · exact words_good r [] (by intro c hc; cases hc) x hx
    · rename_i hb
      refine words_good r (cur ++ [c]) ?_
      intro y hy
      rcases List.mem_append.1 hy with hy | hy
      · exact h y hy
      · simp at hy
        subst hy
        exact Bool.eq_false_iff.2 hb
theorem words_tail : ∀ (r : List (List UInt8)) (x : List UInt8), good x → (∀ y ∈ r, good y) → wordsFrom x (Lib.joinTail [32] r) = x :: r
  | [], x, hx, _ => by
    show flush x = [x]
    unfold flush
    rw [if_neg hx.1]
  | y :: r, x, hx, h => by
    have e : Lib.joinTail [32] (y :: r) = 32 :: (y ++ Lib.joinTail [32] r) := by simp [Lib.joinTail]
    have hy := h y (by simp)
    rw [e, wordsFrom_blank _ _ (by decide), wordsFrom_plain y [] _ hy.2, List.nil_append, words_tail r y hy (fun z hz => h z (by simp [hz]))]
    unfold flush
    rw [if_neg hx.1]
    rfl
theorem words_join (ws : List (List UInt8)) (h : ∀ y ∈ ws, good y) : words (Lib.join ws [32]) = ws := by
  cases ws with
  | nil => rfl
  | cons x r =>
    have hx := h x (by simp)
    unfold words
    rw [Lib.join_cons, wordsFrom_plain x [] _ hx.2, List.nil_append]
    exact words_tail r x hx (fun y hy => h y (by simp [hy]))
theorem words_collapse (l : List UInt8) : words (collapse l) = words l := words_join _ (words_good l [] (by intro c hc; cases hc))
theorem collapse_again (l : List UInt8) : collapse (collapse l) = collapse l := by
  unfold collapse
  rw [show words (Lib.join (words l) [32]) = words l from words_collapse l]

theorem words_parted : ∀ (l cur : List UInt8) {c : UInt8} (m : List UInt8), blank8 c = true → wordsFrom cur (l ++ c :: m) = wordsFrom cur l ++ words m
  | [], cur, c, m, h => wordsFrom_blank cur m h
  | x :: l, cur, c, m, h => by
    rw [List.cons_append, wordsFrom, wordsFrom]
    split
    · rw [words_parted l [] m h, List.append_assoc]
    · exact words_parted l (cur ++ [x]) m h
theorem words_two (l m : List UInt8) {c : UInt8} (h : blank8 c = true) : words (l ++ c :: m) = words l ++ words m := words_parted l [] m h
theorem collapse_two (l m : List UInt8) : collapse (l ++ 9 :: m) = collapse (collapse l ++ 32 :: collapse m) := by
  have e1 := words_two l m (c := 9) (by decide)
  have e2 := words_two (collapse l) (collapse m) (c := 32) (by decide)
  unfold collapse at e2 ⊢
  rw [e1, e2]
  rw [show words (Lib.join (words l) [32]) = words l from words_collapse l, show words (Lib.join (words m) [32]) = words m from words_collapse m]

theorem wordsB_collapse (s : ByteArray) : wordsB ⟨(collapse s.data.toList).toArray⟩ = wordsB s := by
  unfold wordsB
  show (words (collapse s.data.toList).toArray.toList).map _ = _
  rw [List.toList_toArray, words_collapse]
theorem wordsB_two (s t : ByteArray) : (wordsB (s ++ ⟨#[32]⟩ ++ t)).length = (wordsB s).length + (wordsB t).length := by
  rw [wordsB_length, wordsB_length, wordsB_length]
  have e : (s ++ ⟨#[32]⟩ ++ t).data.toList = s.data.toList ++ 32 :: t.data.toList := by simp
  rw [e, words_two _ _ (by decide), List.length_append]
end Go.Proofs.YtmhbdckgejcdhaaDoor
