/-
  PLAIN FACTS ON BYTES that every layer wants: a text as a list of bytes, its pieces. No program is named here.
-/
import Derived.Lib.Strings
import Derived.Lib.RabinKarpLaws
import Derived.Laws.RangeAny
namespace Go.Proofs.YtbepjlhknmhmeaaDoor.Ch

/-- The byte at a place. -/
def byte (s : ByteArray) (i : Nat) : Nat := (s.get! i).toNat
theorem byte_lt (s : ByteArray) (i : Nat) : byte s i < 256 := UInt8.toNat_lt _
theorem byte_eq (s : ByteArray) (i : Nat) (h : i < s.size) : byte s i = (s[i]'h).toNat := by
  have e : s.get! (i + 0) = s[i]'h := get_at s i h
  unfold byte
  rw [← e, Nat.add_zero]
theorem list_at (s : ByteArray) (i : Nat) (h : i < s.size) : s.data.toList[i]? = some (s[i]'h) := Proofs.byte_at s i h
theorem list_none (s : ByteArray) (i : Nat) (h : s.size ≤ i) : s.data.toList[i]? = none := by
  apply List.getElem?_eq_none
  have : s.data.toList.length = s.size := by simp
  omega
/-- The bytes of a text from a to b. -/
def seg (s : ByteArray) (a b : Nat) : List UInt8 := (s.data.toList.drop a).take (b - a)
theorem seg_nil (s : ByteArray) (a : Nat) : seg s a a = [] := by simp [seg]
theorem len_eq (s : ByteArray) : s.data.toList.length = s.size := by simp
theorem seg_length (s : ByteArray) {a b : Nat} (h : b ≤ s.size) : (seg s a b).length = b - a := by
  unfold seg
  rw [List.length_take, List.length_drop, len_eq]
  omega
theorem seg_append (s : ByteArray) {a b c : Nat} (h1 : a ≤ b) (h2 : b ≤ c) : seg s a b ++ seg s b c = seg s a c := by
  unfold seg
  have e1 : c - a = (b - a) + (c - b) := by omega
  rw [e1, List.take_add, List.drop_drop]
  congr 3
  omega
theorem seg_rest (s : ByteArray) {a b : Nat} (h : a ≤ b) : seg s a b ++ s.data.toList.drop b = s.data.toList.drop a := by
  have e : s.data.toList.drop b = (s.data.toList.drop a).drop (b - a) := by rw [List.drop_drop]; congr 1; omega
  rw [e]
  exact List.take_append_drop _ _
theorem drop_at (s : ByteArray) {p : Nat} (h : p < s.size) : ∃ c, s.data.toList.drop p = c :: s.data.toList.drop (p + 1) ∧ c.toNat = byte s p := by
  have hl : p < s.data.toList.length := by rw [len_eq]; exact h
  refine ⟨s.data.toList[p], List.drop_eq_getElem_cons hl, ?_⟩
  have := list_at s p h
  rw [List.getElem?_eq_getElem hl] at this
  rw [byte_eq s p h, Option.some.inj this]
theorem extract_seg (s : ByteArray) (a b : Nat) : s.extract a b = ⟨(seg s a b).toArray⟩ := by
  apply ByteArray.ext
  apply Array.toList_inj.1
  rw [Lib.extract_data]
  rfl
/-- Two texts put together. -/
def cat (s t : ByteArray) : ByteArray := ⟨(s.data.toList ++ t.data.toList).toArray⟩
theorem cat_size (s t : ByteArray) : (cat s t).size = s.size + t.size := by
  rw [← len_eq]; simp [cat]
theorem byte_default (s : ByteArray) (i : Nat) (h : s.size ≤ i) : byte s i = 0 := by
  unfold byte ByteArray.get!
  have h' : s.data.size ≤ i := h
  simp only [Array.getElem!_eq_getD, Array.getD]
  rw [dif_neg (by omega)]
  rfl
theorem byte_list (s : ByteArray) (i : Nat) : byte s i = ((s.data.toList[i]?).getD 0).toNat := by
  rcases Nat.lt_or_ge i s.size with h | h
  · rw [byte_eq s i h, list_at s i h]; rfl
  · rw [byte_default s i h, list_none s i h]; rfl
theorem cat_left (s t : ByteArray) (i : Nat) (h : i < s.size) : byte (cat s t) i = byte s i := by
  rw [byte_list, byte_list]
  show (((s.data.toList ++ t.data.toList)[i]?).getD 0).toNat = _
  rw [List.getElem?_append_left (by rw [len_eq]; exact h)]
theorem cat_right (s t : ByteArray) (i : Nat) : byte (cat s t) (s.size + i) = byte t i := by
  rw [byte_list, byte_list]
  show (((s.data.toList ++ t.data.toList)[s.size + i]?).getD 0).toNat = _
  rw [List.getElem?_append_right (by rw [len_eq]; omega), len_eq, Nat.add_sub_cancel_left]
end Go.Proofs.YtbepjlhknmhmeaaDoor.Ch
