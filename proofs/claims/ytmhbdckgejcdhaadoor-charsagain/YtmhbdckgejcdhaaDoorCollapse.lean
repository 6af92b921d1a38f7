/-
  Collapse: the words with one space between any two, for every text.
-/
import Derived.Test.YtmhbdckgejcdhaaDoorWords
import Derived.Lib.Join
namespace Go.Proofs.YtmhbdckgejcdhaaDoor
open Go.RowKit Ch

def total (ws : List (List UInt8)) : Nat := (ws.map fun x => x.length + 1).sum
theorem total_append (a b : List (List UInt8)) : total (a ++ b) = total a + total b := by simp [total]
theorem total_flush (cur : List UInt8) : total (flush cur) ≤ cur.length + 1 := by
  unfold flush; split <;> simp [total]
theorem total_le : ∀ (l cur : List UInt8), total (wordsFrom cur l) ≤ cur.length + l.length + 1
  | [], cur => total_flush cur
  | c :: r, cur => by
    rw [wordsFrom]
    split
    · rw [total_append]
      have h1 := total_flush cur
      have h2 := total_le r []
      simp at h2 ⊢
      omega
    · have h := total_le r (cur ++ [c])
      simp at h ⊢
      omega
theorem total_lens (ws : List (List UInt8)) : total ws = Lib.lens ws + ws.length := by
  induction ws with
  | nil => rfl
  | cons x r ih =>
    simp only [total, Lib.lens, List.map_cons, List.sum_cons, List.length_cons] at ih ⊢
    omega
theorem join_le (ws : List (List UInt8)) : (Lib.join ws [32]).length ≤ total ws := by
  cases ws with
  | nil => simp [Lib.join_nil]
  | cons x r =>
    rw [Lib.join_cons, List.length_append, Lib.joinTail_length, total_lens]
    simp only [Lib.lens, List.map_cons, List.sum_cons, List.length_cons, List.length_nil]
    omega
theorem length_total (ws : List (List UInt8)) : ws.length ≤ total ws := by rw [total_lens]; omega

/-- The collapsed text. -/
def collapse (l : List UInt8) : List UInt8 := Lib.join (words l) [32]

theorem words_total (s : ByteArray) : total (words s.data.toList) ≤ s.size + 1 := by
  have := total_le s.data.toList []
  rw [len_eq] at this
  unfold words
  simpa using this
theorem wordsB_lists (s : ByteArray) : (wordsB s).map (fun x => x.data.toList) = words s.data.toList := by
  unfold wordsB
  rw [List.map_map]
  conv => rhs; rw [← List.map_id (words s.data.toList)]
  apply List.map_congr_left
  intro x _
  simp
theorem wordsB_length (s : ByteArray) : (wordsB s).length = (words s.data.toList).length := by simp [wordsB]
theorem collapse_le (s : ByteArray) : (collapse s.data.toList).length ≤ s.size + 1 := Nat.le_trans (join_le _) (words_total s)

/-- A value that owns texts: nil, or a slice whose cells hold them. -/
theorem own_cells {w : World} {base : Nat} {v : Value} {l : List ByteArray} (h : w.ownsRow base 9 1 v l.length (l.map Value.string)) :
    (v = .slice none 0 0 ∧ l = []) ∨ ∃ g cap, v = .slice (some ⟨g, 0, none⟩) l.length cap ∧ base ≤ g ∧ g < w.heap.size ∧ l.length ≤ cap ∧ ∀ (j : Nat) x, l[j]? = some x → w.cell? ⟨g, 0 + j, none⟩ = some (.string x) := by
  have hc := fun g (hg : v.ownBlock = some g) => World.ownsRow.cells h hg
  rcases h.2 with ⟨hv, h0⟩ | ⟨g, cap, cur, hv, hb, hh, hcap, _⟩
  · exact .inl ⟨hv, List.eq_nil_of_length_eq_zero h0⟩
  · refine .inr ⟨g, cap, hv, hb, (Array.getElem?_eq_some_iff.1 hh).1, hcap, ?_⟩
    intro j x hj
    have := hc g (by rw [hv]; rfl) j (.string x) (by rw [List.getElem?_map, hj]; rfl)
    have e : (⟨g, 0, none⟩ : Addr).add j = ⟨g, 0 + j, none⟩ := by unfold Addr.add; split <;> simp_all
    rw [e] at this
    exact this
theorem own_texts {w : World} {base : Nat} {v : Value} {l : List ByteArray} (h : w.ownsRow base 9 1 v l.length (l.map Value.string)) : Texts w v l := by
  rcases own_cells h with ⟨rfl, rfl⟩ | ⟨g, cap, rfl, _, hlt, hcap, hc⟩
  · exact ⟨none, 0, rfl, Nat.le_refl _, .inl ⟨rfl, rfl⟩⟩
  · exact ⟨some ⟨g, 0, none⟩, cap, rfl, hcap, .inr ⟨g, 0, rfl, hlt, hc⟩⟩

theorem join_own (v : Value) (l : List ByteArray) (base : Nat) (w : World) (h : w.ownsRow base 9 1 v l.length (l.map Value.string)) (hl : l.length ≤ 140737488355328) (hj : (Lib.join (l.map (·.data.toList)) [32]).length ≤ 140737488355328) :
    Calls Tryd.prog 33 #[v, .string ⟨#[32]⟩] w fun e w' => e = .returned (.string ⟨(Lib.join (l.map (·.data.toList)) [32]).toArray⟩) ∧ Below w.heap.size w w' := by
  rcases own_cells h with ⟨rfl, rfl⟩ | ⟨g, cap, rfl, _, hlt, hcap, hc⟩
  · refine (Tryd.strings_Join_none none 0 ⟨#[32]⟩ w).mono ?_
    rintro e w' ⟨rfl, rfl⟩
    exact ⟨rfl, Below.refl _ _⟩
  · exact Tryd.strings_Join g 0 cap l ⟨#[32]⟩ w hc hlt hl hcap hj

set_option maxHeartbeats 400000 in
theorem cCollapse_any (s : ByteArray) (w : World) (hs : s.size ≤ 1000000) :
    Calls Tryd.prog 17 #[.string s] w fun e w' => e = .returned (.string ⟨(collapse s.data.toList).toArray⟩) ∧ Below w.heap.size w w' := by
  have h1 := words_total s
  have h2 := length_total (words s.data.toList)
  have h3 := collapse_le s
  go_enter Tryd.func17, Tryd.ntmps17
  go_wp2_with (go_at_call 20; refine (cWords_any s _ hs).mono ?_)
  rintro e w1 ⟨v, rfl, own1, b1⟩
  go_wp2_with fail
  refine (join_own v (wordsB s) _ w1 own1 (by rw [wordsB_length]; omega) (by rw [wordsB_lists]; exact Nat.le_trans h3 (by omega))).mono ?_
  rintro e w2 ⟨rfl, b2⟩
  go_wp2_with fail
  go_ret
  refine ⟨?_, b1.trans (b2.mono b1.size)⟩
  rw [wordsB_lists]
  rfl
end Go.Proofs.YtmhbdckgejcdhaaDoor
