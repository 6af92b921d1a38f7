/-
  A []byte that came in, or that the call made, told by a text of bytes; appends onto what the call owns. Of no layer alone.
-/
import Derived.Test.YtbepjlhknmhmeaaDoorProg
import Derived.Test.YtbepjlhknmhmeaaDoorGPlain
import Derived.WalkKit
import Derived.WalkSpells
import Derived.WalkLawsBesides
import Derived.Laws.BytesArg
import Derived.Laws.AppendOwnNone
import Derived.ChangeOld
import Derived.ShutString
import Derived.OwnWalk
import Derived.Lib.ConvBytes
import Derived.Below
import Derived.ChangeAt
import Derived.OpenShut
import Derived.ProofKit
import Derived.Lib.OthersKept
import Derived.Deep.RegionLawGrows
import Derived.Deep.AppendLies
import Derived.Deep.CutRange
namespace Go.Proofs.YtbepjlhknmhmeaaDoor
open Go.ChangeShapes Go.WideShapes Go.ChangeAt Go.RowKit Ch
set_option maxRecDepth 100000

theorem ret_bool {a b : Bool} (h : a = b) : Ending.returned (.bool a) = .returned (.bool b) := by rw [h]
/-- Cell i of the row at (b, o) holds the byte of the text at p + i. -/
def From (w : World) (b o : Nat) (s : ByteArray) (p : Nat) : Prop := ∀ i, p + i < s.size → w.cell? ⟨b, o + i, none⟩ = some (.int .u8 (byte s (p + i) : Int))
theorem From.tail {w : World} {b o : Nat} {s : ByteArray} (h : From w b o s 0) (p : Nat) : From w b (o + p) s p := by
  intro i hi
  have := h (p + i) (by omega)
  rw [Nat.zero_add] at this
  rw [Nat.add_assoc]
  exact this
theorem ownsRow_later {w w' : World} {base : Nat} {e : TypeId} {size n : Nat} {v : Value} {xs : List Value} (h : w.ownsRow base e size v n xs) (hb : Below w.heap.size w w') : w'.ownsRow base e size v n xs := by
  obtain ⟨h1, h2⟩ := h
  refine ⟨h1, ?_⟩
  rcases h2 with h2 | ⟨g, cap, cur, hv, hg, hh, r⟩
  · exact .inl h2
  · exact .inr ⟨g, cap, cur, hv, hg, (hb.block g (Array.getElem?_eq_some_iff.1 hh).1).trans hh, r⟩
theorem own_ge {w : World} {base : Nat} {e : TypeId} {size n : Nat} {v : Value} {xs : List Value} (h : w.ownsRow base e size v n xs) : ∀ k, v.ownBlock = some k → base ≤ k := fun k hk => (World.ownsRow.lt h k hk).1
theorem below_alloc {w w' : World} {o : Obj} (h : Below (w.alloc o).heap.size (w.alloc o) w') : Below w.heap.size w w' :=
  ((Below.refl _ w).alloc (Nat.le_refl _) o).trans (h.mono (by simp))
/-- The value is a slice of these bytes. -/
def IsBytes (w : World) (v : Value) (s : ByteArray) : Prop :=
  ∃ a cap, v = .slice a s.size cap ∧ s.size ≤ cap ∧ cap ≤ maxLen ∧ ((a = none ∧ s.size = 0 ∧ cap = 0) ∨ ∃ x, a = some x ∧ (s.size = 0 ∨ ∃ b o, x = ⟨b, o, none⟩ ∧ b < w.heap.size ∧ From w b o s 0))
theorem From.later {w w' : World} {b o : Nat} {s : ByteArray} {p : Nat} (h : From w b o s p) (hb : b < w.heap.size) (hw : Below w.heap.size w w') : From w' b o s p :=
  fun i hi => (hw.cell (p := ⟨b, o + i, none⟩) hb).trans (h i hi)
theorem IsBytes.later {w w' : World} {v : Value} {s : ByteArray} (h : IsBytes w v s) (hw : Below w.heap.size w w') : IsBytes w' v s := by
  obtain ⟨a, cap, hv, hc, hm, h | ⟨x, ha, h⟩⟩ := h
  · exact ⟨a, cap, hv, hc, hm, .inl h⟩
  · refine ⟨a, cap, hv, hc, hm, .inr ⟨x, ha, ?_⟩⟩
    rcases h with h | ⟨b, o, hx, hb, hf⟩
    · exact .inl h
    · exact .inr ⟨b, o, hx, Nat.lt_of_lt_of_le hb hw.size, hf.later hb hw⟩
theorem empty_of_size {s : ByteArray} (h : s.size = 0) : s = ByteArray.empty := by
  apply ByteArray.ext
  apply Array.toList_inj.1
  have : s.data.toList.length = 0 := by rw [len_eq]; exact h
  rw [List.eq_nil_of_length_eq_zero this]
  rfl
theorem nums_of (s : ByteArray) : strOfNums ((List.range s.size).map fun i => (byte s i : Int)) = s := by
  apply ByteArray.ext
  apply Array.toList_inj.1
  rw [strOfNums_data, List.map_map]
  apply List.ext_getElem?
  intro i
  by_cases hi : i < s.size
  · rw [list_at s i hi, List.getElem?_map, List.getElem?_range hi]
    simp [byte_eq s i hi]
  · rw [list_none s i (by omega)]
    apply List.getElem?_eq_none
    simp
    omega
theorem IsBytes.convert {w : World} {v : Value} {s : ByteArray} (h : IsBytes w v s) : (convert 43 9 v).run Tryd.prog w = .ok (.string s) w := by
  obtain ⟨a, cap, rfl, hc, hm, ⟨rfl, h0, _⟩ | ⟨x, rfl, h0 | ⟨b, o, rfl, hb, hf⟩⟩⟩ := h
  · rw [empty_of_size h0]
    exact run_convert_bytes_nil w 43 5 Tryd.underlying43 Tryd.underlying5 _ _ 9 Tryd.underlying9
  · have e := run_convert_bytes_back (P := Tryd.prog) w 43 9 5 x cap [] Tryd.underlying43 Tryd.underlying5 Tryd.underlying9 (fun j hj => by cases hj)
    rw [h0]
    rw [empty_of_size h0]
    exact e
  · have e := run_convert_bytes_arg (P := Tryd.prog) w 43 5 Tryd.underlying43 Tryd.underlying5 b o s.size cap ((List.range s.size).map fun i => (byte s i : Int)) (by simp) (fun i hi => by
      have := hf i (by omega)
      rw [Nat.zero_add] at this
      rw [this]
      simp [List.getD, hi]) 9 Tryd.underlying9
    rw [nums_of] at e
    exact e
/-- The cells of the bytes. -/
def byteVals (s : ByteArray) : List Value := s.data.toList.map fun c => .int .u8 (c.toNat : Int)
theorem byteVals_length (s : ByteArray) : (byteVals s).length = s.size := by simp [byteVals]
theorem byteVals_at {s : ByteArray} {j : Nat} {u : Value} (h : (byteVals s)[j]? = some u) : j < s.size ∧ u = .int .u8 (byte s j : Int) := by
  have hj : j < s.size := by
    have := (List.getElem?_eq_some_iff.1 h).1
    rw [byteVals_length] at this
    exact this
  unfold byteVals at h
  rw [List.getElem?_map, list_at s j hj] at h
  simp at h
  refine ⟨hj, ?_⟩
  rw [← h, byte_eq s j hj]
theorem byteVals_one (s : ByteArray) : ∀ u ∈ byteVals s, u.oneCell' = true := by
  intro u hu
  obtain ⟨c, _, rfl⟩ := List.mem_map.1 hu
  rfl
/-- What a call owns is a slice of bytes. -/
theorem own_bytes {w : World} {base : Nat} {v : Value} {s : ByteArray} (h : w.ownsRow base 5 1 v s.size (byteVals s)) : IsBytes w v s := by
  have hcl := fun g (hg : v.ownBlock = some g) => World.ownsRow.cells h hg
  rcases h.2 with ⟨hv, h0⟩ | ⟨g, cap, cur, hv, hb, hh, hcap, hmax, _⟩
  · rw [hv]
    exact ⟨none, 0, by rw [h0], by omega, by unfold maxLen; omega, .inl ⟨rfl, h0, rfl⟩⟩
  · refine ⟨some ⟨g, 0, none⟩, cap, hv, hcap, hmax, .inr ⟨_, rfl, .inr ⟨g, 0, rfl, (Array.getElem?_eq_some_iff.1 hh).1, ?_⟩⟩⟩
    intro i hi
    rw [Nat.zero_add] at hi
    have e1 : (byteVals s)[i]? = some (.int .u8 (byte s i : Int)) := by
      unfold byteVals
      rw [List.getElem?_map, list_at s i hi, byte_eq s i hi]
      rfl
    have := hcl g (by rw [hv]; rfl) i _ e1
    have e : (⟨g, 0, none⟩ : Addr).add i = ⟨g, 0 + i, none⟩ := by unfold Addr.add; split <;> simp_all
    rw [e] at this
    rw [this, Nat.zero_add]
/-- From the reading of an argument. -/
theorem nums_byte {xs : List Int} (h : ∀ x ∈ xs, 0 ≤ x ∧ x ≤ 255) {i : Nat} (hi : i < xs.length) : (byte (strOfNums xs) i : Int) = xs.getD i 0 := by
  have hsz : i < (strOfNums xs).size := by rw [strOfNums_size]; exact hi
  rw [byte_eq _ i hsz]
  have e := list_at _ i hsz
  rw [strOfNums_data, List.getElem?_map, List.getElem?_eq_getElem hi] at e
  have e2 : UInt8.ofNat xs[i].toNat = (strOfNums xs)[i]'hsz := by simpa using e
  rw [← e2]
  have := h xs[i] (List.getElem_mem hi)
  rw [UInt8.toNat_ofNat']
  simp [List.getD, hi]
  omega
theorem wf_u8 {n : Int} (h : (Lit.int .u8 n).wf = true) : 0 ≤ n ∧ n ≤ 255 := by
  have := bounds_u8 h
  omega
theorem cell_lt {w : World} {b o : Nat} {v : Value} (h : w.cell? ⟨b, o, none⟩ = some v) : b < w.heap.size := by
  rcases Nat.lt_or_ge b w.heap.size with h' | h'
  · exact h'
  · simp [World.cell?, Array.getElem?_eq_none h'] at h
theorem bytes_arg {H : Type} {enc : TypeId × Value → H} {W : World} {a : Option Addr} {len cap : Nat} {d : DataW H} {p : List MemPlace} {base : Nat} {sp : Nat → Bool} {held : Bool}
    (h : DataW.Trod enc Tryd.prog W base sp held 43 (.slice a len cap) d p) : ∃ s : ByteArray, s.size = len ∧ IsBytes W (.slice a len cap) s := by
  obtain ⟨fuel, hf⟩ := h
  rcases open_ints Tryd.underlying43 Tryd.underlying5 (by kernel_rfl) hf with ⟨hcs, _⟩ | ⟨x, l, c, zs, hcs, _, hl, hm, hz, _, hcell, hwz⟩
  · simp [Value.cells] at hcs
    obtain ⟨rfl, rfl, rfl⟩ := hcs
    exact ⟨ByteArray.empty, rfl, none, 0, rfl, Nat.le_refl _, by unfold maxLen; omega, .inl ⟨rfl, rfl, rfl⟩⟩
  · simp [Value.cells] at hcs
    obtain ⟨rfl, rfl, rfl⟩ := hcs
    have hlz : len ≤ zs.length := by rw [hz]; split <;> omega
    have hsz : (strOfNums (zs.take len)).size = len := by rw [strOfNums_size, List.length_take]; omega
    refine ⟨strOfNums (zs.take len), hsz, some x, cap, by rw [hsz], by rw [hsz]; exact hl, hm, .inr ⟨x, rfl, ?_⟩⟩
    by_cases h0 : len = 0
    · exact .inl (by rw [hsz, h0])
    · obtain ⟨b, off, rfl, hc⟩ := ints_at hcell (by omega)
      refine .inr ⟨b, off, rfl, cell_lt (hc 0 (by omega)), ?_⟩
      intro i hi
      rw [Nat.zero_add, hsz] at hi
      rw [Nat.zero_add, nums_byte (fun y hy => wf_u8 (hwz y (List.mem_of_mem_take hy))) (by rw [List.length_take]; omega), hc i (by omega)]
      simp [List.getD, List.getElem?_take_of_lt hi]
theorem info5 : ∃ i, Tryd.prog.info? 5 = some i ∧ i.zero = some (.int .u8 0) ∧ i.size = 1 ∧ i.bytes = 1 := info_parts (by kernel_rfl)
theorem heap_push_at (w : World) (o : Obj) : (w.alloc o).heap[w.heap.size]? = some o := by
  show (w.heap.push o)[w.heap.size]? = _
  simp
theorem heap_push_old (w : World) (o : Obj) {k : Nat} (h : k < w.heap.size) : (w.alloc o).heap[k]? = w.heap[k]? := Below.heap_alloc w o k h
theorem cell_of_block {w : World} {b : Nat} {x : Value} {t : TypeId} (h : w.heap[b]? = some (.cells #[x] t (0, 0))) : w.cell? ⟨b, 0, none⟩ = some x ∧ w.frozen? ⟨b, 0, none⟩ = false := by
  constructor
  · simp [World.cell?, h]
  · simp [World.frozen?, h]
theorem own_empty (w : World) (base : Nat) (hb : base ≤ w.heap.size) : (w.alloc (.cells #[] 5)).ownsRow base 5 1 (.slice (some ⟨w.heap.size, 0, none⟩) 0 0) 0 [] :=
  ⟨rfl, .inr ⟨w.heap.size, 0, #[], rfl, hb, heap_push_at w _, Nat.le_refl _, by unfold maxLen; omega, rfl, rfl⟩⟩
theorem IsBytes.alloc {w : World} {v : Value} {s : ByteArray} (h : IsBytes w v s) (o : Obj) : IsBytes (w.alloc o) v s := h.later ((Below.refl _ w).alloc (Nat.le_refl _) o)
/-- The cells that are appended. -/
theorem IsBytes.news {w : World} {x : Addr} {n cap : Nat} {s : ByteArray} (h : IsBytes w (.slice (some x) n cap) s) : ∀ j u, (byteVals s)[j]? = some u → w.cell? (x.add j) = some u := by
  intro j u hj
  obtain ⟨hlt, rfl⟩ := byteVals_at hj
  obtain ⟨a, cap', hv, _, _, ⟨rfl, _, _⟩ | ⟨y, rfl, h0 | ⟨b, o, rfl, _, hf⟩⟩⟩ := h
  · cases hv
  · omega
  · simp only [Value.slice.injEq, Option.some.injEq] at hv
    rw [hv.1]
    have := hf j (by omega)
    rw [Nat.zero_add] at this
    have e : (⟨b, o, none⟩ : Addr).add j = ⟨b, o + j, none⟩ := by unfold Addr.add; split <;> simp_all
    rw [e]
    exact this
/-- append of bytes, nil or not, onto what the call owns. -/
theorem wpList_append_bytes {w : World} {ops : Array Oper} {rest : List Oper} {o : Oper} {ac : Act} {Q : Exit → Act → World → Prop} (hgd : o.guard = none) (so x : Operand)
    (ho : o.op = .call { callee := .builtin .append, args := #[so, x], argTypes := #[43, 43] })
    (base : Nat) (v : Value) (s : ByteArray) (hs : ac.eval so = v) (hown : w.ownsRow base 5 1 v s.size (byteVals s))
    (u : Value) (t : ByteArray) (hx : ac.eval x = u) (hu : IsBytes w u t) (hsz : s.size + t.size ≤ 1000000) (hbase : base ≤ w.heap.size)
    (h : ∀ v' w', w'.ownsRow base 5 1 v' (cat s t).size (byteVals (cat s t)) → Below base w w' → wpList Tryd.prog ops Q rest (ac.put o.dst v') w') : wpList Tryd.prog ops Q (o :: rest) ac w := by
  obtain ⟨i0, hi, hz0, hz1, hz2⟩ := info5
  have hv : byteVals (cat s t) = byteVals s ++ byteVals t := by simp [byteVals, cat]
  obtain ⟨a, cap, rfl, hc, hm, hrest⟩ := hu
  match a, hrest with
  | none, hrest =>
    have h0 : t.size = 0 ∧ cap = 0 := by
      rcases hrest with ⟨_, h0, h1⟩ | ⟨_, h0, _⟩
      · exact ⟨h0, h1⟩
      · cases h0
    have ht : byteVals t = [] := List.eq_nil_of_length_eq_zero (by rw [byteVals_length]; exact h0.1)
    rw [h0.1, h0.2] at hx
    refine wpList_append_own_none hgd so x 43 ho base 5 i0 1 Tryd.underlying43 hi v s.size _ hs hown hx (h v w ?_ (Below.refl _ _))
    rw [hv, ht, List.append_nil, cat_size, h0.1]
    exact hown
  | some y, hrest =>
    refine wpList_append_own w hgd so x 43 ho base 5 i0 (.int .u8 0) 1 1 Tryd.underlying43 hi hz0 hz1 hz2 rfl (by decide) v s.size _ hs hown y t.size cap (byteVals t) hx (by rw [byteVals_length]; omega) (IsBytes.news (n := t.size) (cap := cap) ⟨some y, cap, rfl, hc, hm, hrest⟩) (byteVals_one t) (by unfold maxLen; omega) (by omega) hbase ?_
    intro v' w' ho' hg _
    refine h v' w' ?_ ((Below.refl _ w).grown hg hbase (own_ge hown))
    rw [hv, cat_size]
    exact ho'
theorem IsBytes.head {w : World} {a : Option Addr} {cap : Nat} {s : ByteArray} (h : IsBytes w (.slice a s.size cap) s) {k : Nat} (hk : k ≤ s.size) : IsBytes w (.slice a k cap) ⟨(seg s 0 k).toArray⟩ := by
  have hz : (⟨(seg s 0 k).toArray⟩ : ByteArray).size = k := by
    rw [← len_eq]
    show (seg s 0 k).toArray.toList.length = k
    rw [List.toList_toArray, seg_length s hk]
    omega
  obtain ⟨a', cap', hv, hc, hm, h⟩ := h
  simp only [Value.slice.injEq, true_and] at hv
  obtain ⟨rfl, rfl⟩ := hv
  refine ⟨a, cap, by rw [hz], by rw [hz]; omega, hm, ?_⟩
  rcases h with ⟨h1, h2, h3⟩ | ⟨x, h1, h2 | ⟨b, o, h2, h3, h4⟩⟩
  · exact .inl ⟨h1, by rw [hz]; omega, h3⟩
  · exact .inr ⟨x, h1, .inl (by rw [hz]; omega)⟩
  · refine .inr ⟨x, h1, .inr ⟨b, o, h2, h3, ?_⟩⟩
    intro i hi
    rw [Nat.zero_add, hz] at hi
    rw [h4 i (by omega), byte_list, byte_list]
    show _ = some (Value.int .u8 ((((seg s 0 k).toArray.toList[0 + i]?).getD 0).toNat : Int))
    rw [List.toList_toArray]
    unfold seg
    rw [List.drop_zero, Nat.sub_zero, Nat.zero_add, List.getElem?_take_of_lt hi]
theorem seg_text_size (s : ByteArray) {k : Nat} (hk : k ≤ s.size) : (⟨(seg s 0 k).toArray⟩ : ByteArray).size = k := by
  rw [← len_eq]
  show (seg s 0 k).toArray.toList.length = k
  rw [List.toList_toArray, seg_length s hk]
  omega
theorem seg_text_byte (s : ByteArray) {k : Nat} (i : Nat) (hi : i < k) : byte ⟨(seg s 0 k).toArray⟩ i = byte s i := by
  rw [byte_list, byte_list]
  show ((((seg s 0 k).toArray.toList[i]?).getD 0).toNat) = _
  rw [List.toList_toArray]
  unfold seg
  rw [List.drop_zero, Nat.sub_zero, List.getElem?_take_of_lt hi]
theorem cat_empty (s : ByteArray) : cat ByteArray.empty s = s := by
  apply ByteArray.ext
  apply Array.toList_inj.1
  simp [cat]
theorem own_convert {w : World} {base : Nat} {v : Value} {l : List UInt8} (h : w.ownsRow base 5 1 v l.length (Lib.byteCells l)) : (convert 43 9 v).run Tryd.prog w = .ok (.string ⟨l.toArray⟩) w := by
  refine IsBytes.convert (own_bytes (base := base) ?_)
  have e : (⟨l.toArray⟩ : ByteArray).size = l.length := size_of_list l
  rw [e]
  exact h
theorem cells_snoc (l : List UInt8) (c : UInt8) : Lib.byteCells l ++ [.int .u8 (c.toNat : Int)] = Lib.byteCells (l ++ [c]) := by
  rw [Lib.byteCells_append]; rfl
theorem own_snoc {w : World} {base : Nat} {v : Value} {l : List UInt8} {c : UInt8} (h : w.ownsRow base 5 1 v (l.length + 1) (Lib.byteCells l ++ [.int .u8 (c.toNat : Int)])) : w.ownsRow base 5 1 v (l ++ [c]).length (Lib.byteCells (l ++ [c])) := by
  rw [cells_snoc] at h
  simpa using h
theorem byte_at8 (s : ByteArray) (i : Nat) (h : i < s.size) : ∃ c : UInt8, c.toNat = byte s i ∧ s.data.toList.drop i = c :: s.data.toList.drop (i + 1) ∧ ((s[i]'h).toNat : Int) = (c.toNat : Int) := by
  obtain ⟨c, e1, e2⟩ := drop_at s h
  exact ⟨c, e2, e1, by rw [e2, byte_eq s i h]⟩
theorem bytesWorld_from (w : World) (s : ByteArray) : From (Lib.bytesWorld w 5 s) w.heap.size 0 s 0 := by
  intro i hi
  rw [Nat.zero_add] at hi
  have := Lib.bytesWorld_cell w 5 s i hi
  rw [Nat.zero_add, this, byte_eq s i hi]
  have e := list_at s i hi
  simp [List.getD, e]
theorem below_bytesWorld (w : World) (s : ByteArray) : Below w.heap.size w (Lib.bytesWorld w 5 s) :=
  ⟨rfl, rfl, rfl, by rw [Lib.bytesWorld_size]; omega, fun k hk => Lib.bytesWorld_at_old w 5 s k hk⟩
end Go.Proofs.YtbepjlhknmhmeaaDoor
