/-
  A []byte that came in, or that the call made, told by a text of bytes; Bad and the document's Bad of it; append of it onto an empty one.
-/
import Derived.Test.YtmhbdckgejcdhaaDoorLaid
import Derived.Laws.AppendOwnNone
import Derived.ChangeOld
import Derived.ShutString
namespace Go.Proofs.YtmhbdckgejcdhaaDoor
open Go.ChangeShapes Go.WideShapes Go.ChangeAt Go.RowKit Ch

/-- The value is a slice of these bytes. -/
def IsBytes (w : World) (v : Value) (s : ByteArray) : Prop :=
  ∃ a cap, v = .slice a s.size cap ∧ s.size ≤ cap ∧ cap ≤ maxLen ∧ ((a = none ∧ s.size = 0 ∧ cap = 0) ∨ ∃ x, a = some x ∧ (s.size = 0 ∨ ∃ b o, x = ⟨b, o, none⟩ ∧ b < w.heap.size ∧ From w b o s 0))

theorem From.later {w w' : World} {b o : Nat} {s : ByteArray} {p : Nat} (h : From w b o s p) (hb : b < w.heap.size) (hw : Below w.heap.size w w') : From w' b o s p :=
  fun i hi => (hw.cell (p := ⟨b, o + i, none⟩) hb).trans (h i hi)
theorem IsBytes.later {w w' : World} {v : Value} {s : ByteArray} (h : IsBytes w v s) (hw : Below w.heap.size w w') : IsBytes w' v s := by
  obtain ⟨a, cap, hv, hc, hm, h | ⟨x, ha, h⟩⟩ := h
  · exact ⟨a, cap, hv, hc, hm, .inl h⟩
  · refine ⟨a, cap, hv, hc, hm, .inr ⟨x, ha, ?_⟩⟩
    rcases h with h | ⟨b, o, hx, hb, hf⟩
    · exact .inl h
    · exact .inr ⟨b, o, hx, Nat.lt_of_lt_of_le hb hw.size, hf.later hb hw⟩

theorem empty_of_size {s : ByteArray} (h : s.size = 0) : s = ByteArray.empty := by
  apply ByteArray.ext
  apply Array.toList_inj.1
  have : s.data.toList.length = 0 := by rw [len_eq]; exact h
  rw [List.eq_nil_of_length_eq_zero this]
  rfl

theorem nums_of (s : ByteArray) : strOfNums ((List.range s.size).map fun i => (byte s i : Int)) = s := by
  apply ByteArray.ext
  apply Array.toList_inj.1
  rw [strOfNums_data, List.map_map]
  apply List.ext_getElem?
  intro i
  by_cases hi : i < s.size
  · rw [list_at s i hi, List.getElem?_map, List.getElem?_range hi]
    simp [byte_eq s i hi]
  · rw [list_none s i (by omega)]
    apply List.getElem?_eq_none
    simp
    omega

theorem IsBytes.convert {w : World} {v : Value} {s : ByteArray} (h : IsBytes w v s) : (convert 22 9 v).run Tryd.prog w = .ok (.string s) w := by
  obtain ⟨a, cap, rfl, hc, hm, ⟨rfl, h0, _⟩ | ⟨x, rfl, h0 | ⟨b, o, rfl, hb, hf⟩⟩⟩ := h
  · rw [empty_of_size h0]
    exact run_convert_bytes_nil w 22 5 Tryd.underlying22 Tryd.underlying5 _ _ 9 Tryd.underlying9
  · have e := run_convert_bytes_back (P := Tryd.prog) w 22 9 5 x cap [] Tryd.underlying22 Tryd.underlying5 Tryd.underlying9 (fun j hj => by cases hj)
    rw [h0]
    rw [empty_of_size h0]
    exact e
  · have e := run_convert_bytes_arg (P := Tryd.prog) w 22 5 Tryd.underlying22 Tryd.underlying5 b o s.size cap ((List.range s.size).map fun i => (byte s i : Int)) (by simp) (fun i hi => by
      have := hf i (by omega)
      rw [Nat.zero_add] at this
      rw [this]
      simp [List.getD, hi]) 9 Tryd.underlying9
    rw [nums_of] at e
    exact e

theorem cBad_bytes {w : World} {v : Value} {s : ByteArray} (h : IsBytes w v s) (hs : s.size ≤ 1000000) : Calls Tryd.prog 9 #[v] w fun e w' => e = .returned (.int .i64 (bad s)) ∧ Below w.heap.size w w' :=
  cBad_any v s w hs h.convert

theorem bad_zero {s : ByteArray} (h : s.size = 0) : bad s = -1 := by unfold bad; rw [h]; rfl

theorem rBad_bytes {w : World} {v : Value} {s : ByteArray} (h : IsBytes w v s) (hs : s.size ≤ 1000000) : Calls Tryd.prog 10 #[v] w fun e w' => e = .returned (.int .i64 (bad s)) ∧ w' = w := by
  obtain ⟨a, cap, rfl, hc, hm, ⟨rfl, h0, _⟩ | ⟨x, rfl, h0 | ⟨b, o, rfl, hb, hf⟩⟩⟩ := h
  · rw [bad_zero h0, h0]
    exact rBad_empty none cap w
  · rw [bad_zero h0, h0]
    exact rBad_empty (some x) cap w
  · exact rBad_any b o cap s w hs hc hm hf

/-- The cells of the bytes. -/
def byteVals (s : ByteArray) : List Value := s.data.toList.map fun c => .int .u8 (c.toNat : Int)
theorem byteVals_length (s : ByteArray) : (byteVals s).length = s.size := by simp [byteVals]
theorem byteVals_at {s : ByteArray} {j : Nat} {u : Value} (h : (byteVals s)[j]? = some u) : j < s.size ∧ u = .int .u8 (byte s j : Int) := by
  have hj : j < s.size := by
    have := (List.getElem?_eq_some_iff.1 h).1
    rw [byteVals_length] at this
    exact this
  unfold byteVals at h
  rw [List.getElem?_map, list_at s j hj] at h
  simp at h
  refine ⟨hj, ?_⟩
  rw [← h, byte_eq s j hj]
theorem byteVals_one (s : ByteArray) : ∀ u ∈ byteVals s, u.oneCell' = true := by
  intro u hu
  obtain ⟨c, _, rfl⟩ := List.mem_map.1 hu
  rfl

/-- What a call owns is a slice of bytes. -/
theorem own_bytes {w : World} {base : Nat} {v : Value} {s : ByteArray} (h : w.ownsRow base 5 1 v s.size (byteVals s)) : IsBytes w v s := by
  have hcl := fun g (hg : v.ownBlock = some g) => World.ownsRow.cells h hg
  rcases h.2 with ⟨hv, h0⟩ | ⟨g, cap, cur, hv, hb, hh, hcap, hmax, _⟩
  · rw [hv]
    exact ⟨none, 0, by rw [h0], by omega, by unfold maxLen; omega, .inl ⟨rfl, h0, rfl⟩⟩
  · refine ⟨some ⟨g, 0, none⟩, cap, hv, hcap, hmax, .inr ⟨_, rfl, .inr ⟨g, 0, rfl, (Array.getElem?_eq_some_iff.1 hh).1, ?_⟩⟩⟩
    intro i hi
    rw [Nat.zero_add] at hi
    have e1 : (byteVals s)[i]? = some (.int .u8 (byte s i : Int)) := by
      unfold byteVals
      rw [List.getElem?_map, list_at s i hi, byte_eq s i hi]
      rfl
    have := hcl g (by rw [hv]; rfl) i _ e1
    have e : (⟨g, 0, none⟩ : Addr).add i = ⟨g, 0 + i, none⟩ := by unfold Addr.add; split <;> simp_all
    rw [e] at this
    rw [this, Nat.zero_add]

/-- From the reading of an argument. -/
theorem nums_byte {xs : List Int} (h : ∀ x ∈ xs, 0 ≤ x ∧ x ≤ 255) {i : Nat} (hi : i < xs.length) : (byte (strOfNums xs) i : Int) = xs.getD i 0 := by
  have hsz : i < (strOfNums xs).size := by rw [strOfNums_size]; exact hi
  rw [byte_eq _ i hsz]
  have e := list_at _ i hsz
  rw [strOfNums_data, List.getElem?_map, List.getElem?_eq_getElem hi] at e
  have e2 : UInt8.ofNat xs[i].toNat = (strOfNums xs)[i]'hsz := by simpa using e
  rw [← e2]
  have := h xs[i] (List.getElem_mem hi)
  rw [UInt8.toNat_ofNat']
  simp [List.getD, hi]
  omega
theorem wf_u8 {n : Int} (h : (Lit.int .u8 n).wf = true) : 0 ≤ n ∧ n ≤ 255 := by
  have := bounds_u8 h
  omega

theorem cell_lt {w : World} {b o : Nat} {v : Value} (h : w.cell? ⟨b, o, none⟩ = some v) : b < w.heap.size := by
  rcases Nat.lt_or_ge b w.heap.size with h' | h'
  · exact h'
  · simp [World.cell?, Array.getElem?_eq_none h'] at h

theorem bytes_arg {H : Type} {enc : TypeId × Value → H} {W : World} {a : Option Addr} {len cap : Nat} {d : DataW H} {p : List MemPlace} {base : Nat} {sp : Nat → Bool} {held : Bool}
    (h : DataW.Trod enc Tryd.prog W base sp held 22 (.slice a len cap) d p) : ∃ s : ByteArray, s.size = len ∧ IsBytes W (.slice a len cap) s := by
  obtain ⟨fuel, hf⟩ := h
  rcases open_ints Tryd.underlying22 Tryd.underlying5 (by kernel_rfl) hf with ⟨hcs, _⟩ | ⟨x, l, c, zs, hcs, _, hl, hm, hz, _, hcell, hwz⟩
  · simp [Value.cells] at hcs
    obtain ⟨rfl, rfl, rfl⟩ := hcs
    exact ⟨ByteArray.empty, rfl, none, 0, rfl, Nat.le_refl _, by unfold maxLen; omega, .inl ⟨rfl, rfl, rfl⟩⟩
  · simp [Value.cells] at hcs
    obtain ⟨rfl, rfl, rfl⟩ := hcs
    have hlz : len ≤ zs.length := by rw [hz]; split <;> omega
    have hsz : (strOfNums (zs.take len)).size = len := by rw [strOfNums_size, List.length_take]; omega
    refine ⟨strOfNums (zs.take len), hsz, some x, cap, by rw [hsz], by rw [hsz]; exact hl, hm, .inr ⟨x, rfl, ?_⟩⟩
    by_cases h0 : len = 0
    · exact .inl (by rw [hsz, h0])
    · obtain ⟨b, off, rfl, hc⟩ := ints_at hcell (by omega)
      refine .inr ⟨b, off, rfl, cell_lt (hc 0 (by omega)), ?_⟩
      intro i hi
      rw [Nat.zero_add, hsz] at hi
      rw [Nat.zero_add, nums_byte (fun y hy => wf_u8 (hwz y (List.mem_of_mem_take hy))) (by rw [List.length_take]; omega), hc i (by omega)]
      simp [List.getD, List.getElem?_take_of_lt hi]
end Go.Proofs.YtmhbdckgejcdhaaDoor
