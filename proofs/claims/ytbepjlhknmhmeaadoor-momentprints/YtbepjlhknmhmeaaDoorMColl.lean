/-
  Package moment: Parse of any text, with Collapse's answer put in.
-/
import Derived.Test.YtbepjlhknmhmeaaDoorMParse
import Derived.Test.YtbepjlhknmhmeaaDoorMWords
namespace Go.Proofs.YtbepjlhknmhmeaaDoor
open Go.RowKit Ch
set_option maxRecDepth 100000

/-- What Parse answers to these bytes: the number and the fault's number (0: none). -/
def parseT (s : ByteArray) : Int × Nat := if 64 < s.size then (0, 12) else parseA (collapse s.data.toList)

theorem parseT_long {s : ByteArray} (h : 64 < s.size) : parseT s = (0, 12) := if_pos h
theorem parseT_short {s : ByteArray} (h : ¬ 64 < s.size) : parseT s = parseA (collapse s.data.toList) := if_neg h

theorem mParseT_any (s : ByteArray) (w : World) (hT : MTab w) (h0 : w.heap.size ≠ 0) :
    Calls Tryd.prog 13 #[.string s] w fun e w' => e = .returned (.tuple #[.int .i64 (parseT s).1, .int .i64 ((parseT s).2 : Int)]) ∧ Below w.heap.size w w' := by
  by_cases h : 64 < s.size
  · refine (mParse_any s ⟨#[]⟩ w hT h0 (by simp [ByteArray.size]) (fun h' => absurd h' (by omega))).mono ?_
    rintro e w' ⟨rfl, hb⟩
    refine ⟨?_, hb⟩
    rw [if_pos h, if_pos h, parseT_long h]
    rfl
  · have hl := collapse_le s
    refine (mParse_any s ⟨(collapse s.data.toList).toArray⟩ w hT h0 (by simp only [ByteArray.size, List.size_toArray]; omega) (fun _ u => cCollapse_any s u (by omega))).mono ?_
    rintro e w' ⟨rfl, hb⟩
    refine ⟨?_, hb⟩
    rw [if_neg h, if_neg h, parseT_short h]

/-- A text without blanks stays as it is. -/
theorem collapse_bare {l : List UInt8} (h : ∀ c ∈ l, blank8 c = false) : collapse l = l := by
  have h1 := wordsFrom_plain l [] [] h
  rw [List.append_nil, List.nil_append] at h1
  show Lib.join (wordsFrom [] l) [32] = l
  rw [h1, wordsFrom]
  unfold flush
  split
  · next e => rw [e]; rfl
  · exact Lib.join_one l [32]

/-- Parse of what may be read, and has no blanks. -/
theorem parseT_bare {s : ByteArray} (h : s.size ≤ 64) (hb : ∀ c ∈ s.data.toList, blank8 c = false) : parseT s = parseA s.data.toList := by
  rw [parseT_short (by omega), collapse_bare hb]
end Go.Proofs.YtbepjlhknmhmeaaDoor
