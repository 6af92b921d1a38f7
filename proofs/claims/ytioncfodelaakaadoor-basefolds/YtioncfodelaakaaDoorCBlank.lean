/-
  The program's withoutBlanks: a text without its blanks.
-/
import Derived.Test.YtioncfodelaakaaDoorCFlat
import Derived.Test.YtioncfodelaakaaDoorBDec
import Derived.Lib.SplitLaws
import Derived.Lib.ReplaceLaws
namespace Go.Proofs.YtioncfodelaakaaDoor
open Go.RowKit Ch

/-- To replace one byte by nothing is to leave it out. -/
theorem replaceK_one (c : UInt8) : ∀ s : List UInt8, Lib.replaceK [c] [] (Lib.count s [c]) s = s.filter (fun x => x != c)
  | [] => rfl
  | b :: l => by
    have ih := replaceK_one c l
    rw [Lib.count_one] at ih ⊢
    by_cases hb : b = c
    · subst hb
      have h0 : Lib.index (b :: l) [b] = (0 : Nat) := by unfold Lib.index; simp [List.isPrefixOf]
      rw [List.count_cons_self, Lib.replaceK_hit _ _ _ _ 0 h0]
      simpa using ih
    · have hne : (b == c) = false := beq_eq_false_iff_ne.2 hb
      have hpre : [c].isPrefixOf (b :: l) = false := by simp [List.isPrefixOf]; exact fun h => hb h.symm
      rw [List.count_cons_of_ne (by simpa using hb)]
      rw [List.filter_cons_of_pos (by simpa using hb), ← ih]
      match hk : List.count c l with
      | 0 => rfl
      | k + 1 =>
        obtain ⟨i, hi⟩ := Lib.index_of_count (s := l) (old := [c]) (by rw [Lib.count_one]; omega)
        have hi2 : Lib.index (b :: l) [c] = ((i + 1 : Nat) : Int) := by
          rw [Lib.index, hpre, hi]
          rw [if_neg (by decide), if_neg (fun e => by have := beq_iff_eq.1 e; omega)]
          omega
        rw [Lib.replaceK_hit _ _ _ _ _ hi2, Lib.replaceK_hit _ _ _ _ _ hi]
        simp
theorem replaceAll_one (c : UInt8) (s : List UInt8) : Lib.replaceAll s [c] [] = s.filter (fun x => x != c) := by
  unfold Lib.replaceAll Lib.replace Lib.replaceNum
  rw [if_neg (by simp), if_pos (by omega)]
  exact replaceK_one c s
theorem flat_kept : ∀ l : List UInt8, (flatL l).filter (fun x => x != 32) = keptL l
  | [] => rfl
  | c :: l => by
    have ih := flat_kept l
    have e : flatL (c :: l) = flat8 c :: flatL l := rfl
    rw [e]
    have hbb : blank8 c = isBlank8 c := decide_eq_decide.2 (by omega)
    cases hb : isBlank8 c with
    | true =>
      have e2 : flat8 c = 32 := by unfold flat8; rw [if_pos (hbb.trans hb)]
      rw [e2, keptL_blank hb, List.filter_cons_of_neg (by decide)]
      exact ih
    | false =>
      have e2 : flat8 c = c := by unfold flat8; rw [if_neg (by rw [hbb, hb]; decide)]
      have e3 : c ≠ 32 := fun h => by rw [h] at hb; exact absurd hb (by decide)
      rw [e2, keptL_sign hb, List.filter_cons_of_pos (by simpa using e3), ih]

/-- The program's own variable that a search reads. -/
def MaxLenIs (w : World) : Prop := ∃ m : Int, w.cell? ⟨0, 0, none⟩ = some (.int .i64 m)
theorem MaxLenIs.later {w w' : World} (h : MaxLenIs w) (hb : Below w.heap.size w w') : MaxLenIs w' := by
  obtain ⟨m, hm⟩ := h
  exact ⟨m, (hb.cell (p := ⟨0, 0, none⟩) (cell_lt hm)).trans hm⟩

set_option maxHeartbeats 400000 in
theorem noBlanks_any (s : ByteArray) (w : World) (hG : MaxLenIs w) (hs : s.size ≤ 1000000) :
    Calls Tryd.prog 29 #[.string s] w fun e w' => e = .returned (.string ⟨(keptL s.data.toList).toArray⟩) ∧ Below w.heap.size w w' := by
  go_enter Tryd.func29, Tryd.ntmps29
  go_wp2_with fail
  refine (cFlat_any s w hs).mono ?_
  rintro e w1 ⟨rfl, h1⟩
  obtain ⟨m, hm⟩ := hG.later h1
  go_wp2_with fail
  have hz : (⟨(flatL s.data.toList).toArray⟩ : ByteArray).size = s.size := by rw [size_of_list]; unfold flatL; rw [List.length_map, len_eq]
  refine (Tryd.strings_ReplaceAll ⟨(flatL s.data.toList).toArray⟩ ⟨#[32]⟩ ⟨#[]⟩ m w1 (by rw [hz]; omega) hm (by decide) (by rw [hz]; show s.size + _ * 0 ≤ _; omega)).mono ?_
  rintro e w2 ⟨rfl, h2⟩
  go_wp2_with fail
  go_ret
  refine ⟨?_, h1.trans (h2.mono h1.size)⟩
  rw [replaceAll_one]
  show Ending.returned (.string ⟨((flatL s.data.toList).filter _).toArray⟩) = _
  rw [flat_kept]
end Go.Proofs.YtioncfodelaakaaDoor
