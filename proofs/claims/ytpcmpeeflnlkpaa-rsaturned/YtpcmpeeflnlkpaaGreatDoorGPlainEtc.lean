/-
  
  
  
  
-/
import Derived.Lib.Strings
import Derived.Lib.RabinKarpLaws
import Derived.Laws.RangeAny
import Derived.Test.YtpcmpeeflnlkpaaGreatDoorProg
import Derived.WalkKit
import Derived.WalkSpells
import Derived.WalkLawsBesides
import Derived.Laws.BytesArg
import Derived.Laws.AppendOwnNone
import Derived.ChangeOld
import Derived.ShutString
import Derived.OwnWalk
import Derived.Lib.ConvBytes
import Derived.Below
import Derived.ChangeAt
import Derived.OpenShut
import Derived.ProofKit
import Derived.Lib.OthersKept
import Derived.Deep.RegionLawGrows
import Derived.Deep.AppendLies
import Derived.Deep.CutRange
/-
  PLAIN FACTS ON BYTES that every layer wants: a text as a list of bytes, its pieces. No program is named here.
-/
namespace Go.Proofs.YtpcmpeeflnlkpaaGreatDoor.Ch

/-- The byte at a place. -/
def byte (s : ByteArray) (i : Nat) : Nat := (s.get! i).toNat
theorem byte_lt (s : ByteArray) (i : Nat) : byte s i < 256 := UInt8.toNat_lt _
theorem byte_eq (s : ByteArray) (i : Nat) (h : i < s.size) : byte s i = (s[i]'h).toNat := by
  have e : s.get! (i + 0) = s[i]'h := get_at s i h
  unfold byte
  rw [← e, Nat.add_zero]
theorem list_at (s : ByteArray) (i : Nat) (h : i < s.size) : s.data.toList[i]? = some (s[i]'h) := Proofs.byte_at s i h
theorem list_none (s : ByteArray) (i : Nat) (h : s.size ≤ i) : s.data.toList[i]? = none := by
  apply List.getElem?_eq_none
  have : s.data.toList.length = s.size := by simp
  omega
/-- The bytes of a text from a to b. -/
def seg (s : ByteArray) (a b : Nat) : List UInt8 := (s.data.toList.drop a).take (b - a)
theorem len_eq (s : ByteArray) : s.data.toList.length = s.size := by simp
theorem seg_length (s : ByteArray) {a b : Nat} (h : b ≤ s.size) : (seg s a b).length = b - a := by
  unfold seg
  rw [List.length_take, List.length_drop, len_eq]
  omega
/-- Two texts put together. -/
def cat (s t : ByteArray) : ByteArray := ⟨(s.data.toList ++ t.data.toList).toArray⟩
theorem cat_size (s t : ByteArray) : (cat s t).size = s.size + t.size := by
  rw [← len_eq]; simp [cat]
theorem byte_default (s : ByteArray) (i : Nat) (h : s.size ≤ i) : byte s i = 0 := by
  unfold byte ByteArray.get!
  have h' : s.data.size ≤ i := h
  simp only [Array.getElem!_eq_getD, Array.getD]
  rw [dif_neg (by omega)]
  rfl
theorem byte_list (s : ByteArray) (i : Nat) : byte s i = ((s.data.toList[i]?).getD 0).toNat := by
  rcases Nat.lt_or_ge i s.size with h | h
  · rw [byte_eq s i h, list_at s i h]; rfl
  · rw [byte_default s i h, list_none s i h]; rfl
end Go.Proofs.YtpcmpeeflnlkpaaGreatDoor.Ch

/-
  A []byte that came in, or that the call made, told by a text of bytes; appends onto what the call owns. Of no layer alone.
-/
namespace Go.Proofs.YtpcmpeeflnlkpaaGreatDoor
open Go.ChangeShapes Go.WideShapes Go.ChangeAt Go.RowKit Ch
set_option maxRecDepth 100000

/-- Cell i of the row at (b, o) holds the byte of the text at p + i. -/
def From (w : World) (b o : Nat) (s : ByteArray) (p : Nat) : Prop := ∀ i, p + i < s.size → w.cell? ⟨b, o + i, none⟩ = some (.int .u8 (byte s (p + i) : Int))
theorem From.tail {w : World} {b o : Nat} {s : ByteArray} (h : From w b o s 0) (p : Nat) : From w b (o + p) s p := by
  intro i hi
  have := h (p + i) (by omega)
  rw [Nat.zero_add] at this
  rw [Nat.add_assoc]
  exact this
theorem ownsRow_later {w w' : World} {base : Nat} {e : TypeId} {size n : Nat} {v : Value} {xs : List Value} (h : w.ownsRow base e size v n xs) (hb : Below w.heap.size w w') : w'.ownsRow base e size v n xs := by
  obtain ⟨h1, h2⟩ := h
  refine ⟨h1, ?_⟩
  rcases h2 with h2 | ⟨g, cap, cur, hv, hg, hh, r⟩
  · exact .inl h2
  · exact .inr ⟨g, cap, cur, hv, hg, (hb.block g (Array.getElem?_eq_some_iff.1 hh).1).trans hh, r⟩
theorem own_ge {w : World} {base : Nat} {e : TypeId} {size n : Nat} {v : Value} {xs : List Value} (h : w.ownsRow base e size v n xs) : ∀ k, v.ownBlock = some k → base ≤ k := fun k hk => (World.ownsRow.lt h k hk).1
/-- The value is a slice of these bytes. -/
def IsBytes (w : World) (v : Value) (s : ByteArray) : Prop :=
  ∃ a cap, v = .slice a s.size cap ∧ s.size ≤ cap ∧ cap ≤ maxLen ∧ ((a = none ∧ s.size = 0 ∧ cap = 0) ∨ ∃ x, a = some x ∧ (s.size = 0 ∨ ∃ b o, x = ⟨b, o, none⟩ ∧ b < w.heap.size ∧ From w b o s 0))
theorem From.later {w w' : World} {b o : Nat} {s : ByteArray} {p : Nat} (h : From w b o s p) (hb : b < w.heap.size) (hw : Below w.heap.size w w') : From w' b o s p :=
  fun i hi => (hw.cell (p := ⟨b, o + i, none⟩) hb).trans (h i hi)
theorem IsBytes.later {w w' : World} {v : Value} {s : ByteArray} (h : IsBytes w v s) (hw : Below w.heap.size w w') : IsBytes w' v s := by
  obtain ⟨a, cap, hv, hc, hm, h | ⟨x, ha, h⟩⟩ := h
  · exact ⟨a, cap, hv, hc, hm, .inl h⟩
  · refine ⟨a, cap, hv, hc, hm, .inr ⟨x, ha, ?_⟩⟩
    rcases h with h | ⟨b, o, hx, hb, hf⟩
    · exact .inl h
    · exact .inr ⟨b, o, hx, Nat.lt_of_lt_of_le hb hw.size, hf.later hb hw⟩
theorem empty_of_size {s : ByteArray} (h : s.size = 0) : s = ByteArray.empty := by
  apply ByteArray.ext
  apply Array.toList_inj.1
  have : s.data.toList.length = 0 := by rw [len_eq]; exact h
  rw [List.eq_nil_of_length_eq_zero this]
  rfl
theorem nums_of (s : ByteArray) : strOfNums ((List.range s.size).map fun i => (byte s i : Int)) = s := by
  apply ByteArray.ext
  apply Array.toList_inj.1
  rw [strOfNums_data, List.map_map]
  apply List.ext_getElem?
  intro i
  by_cases hi : i < s.size
  · rw [list_at s i hi, List.getElem?_map, List.getElem?_range hi]
    simp [byte_eq s i hi]
  · rw [list_none s i (by omega)]
    apply List.getElem?_eq_none
    simp
    omega
theorem IsBytes.convert {w : World} {v : Value} {s : ByteArray} (h : IsBytes w v s) : (convert 22 9 v).run Tryz.prog w = .ok (.string s) w := by
  obtain ⟨a, cap, rfl, hc, hm, ⟨rfl, h0, _⟩ | ⟨x, rfl, h0 | ⟨b, o, rfl, hb, hf⟩⟩⟩ := h
  · rw [empty_of_size h0]
    exact run_convert_bytes_nil w 22 5 Tryz.underlying22 Tryz.underlying5 _ _ 9 Tryz.underlying9
  · have e := run_convert_bytes_back (P := Tryz.prog) w 22 9 5 x cap [] Tryz.underlying22 Tryz.underlying5 Tryz.underlying9 (fun j hj => by cases hj)
    rw [h0]
    rw [empty_of_size h0]
    exact e
  · have e := run_convert_bytes_arg (P := Tryz.prog) w 22 5 Tryz.underlying22 Tryz.underlying5 b o s.size cap ((List.range s.size).map fun i => (byte s i : Int)) (by simp) (fun i hi => by
      have := hf i (by omega)
      rw [Nat.zero_add] at this
      rw [this]
      simp [List.getD, hi]) 9 Tryz.underlying9
    rw [nums_of] at e
    exact e
/-- The cells of the bytes. -/
def byteVals (s : ByteArray) : List Value := s.data.toList.map fun c => .int .u8 (c.toNat : Int)
theorem byteVals_length (s : ByteArray) : (byteVals s).length = s.size := by simp [byteVals]
theorem byteVals_at {s : ByteArray} {j : Nat} {u : Value} (h : (byteVals s)[j]? = some u) : j < s.size ∧ u = .int .u8 (byte s j : Int) := by
  have hj : j < s.size := by
    have := (List.getElem?_eq_some_iff.1 h).1
    rw [byteVals_length] at this
    exact this
  unfold byteVals at h
  rw [List.getElem?_map, list_at s j hj] at h
  simp at h
  refine ⟨hj, ?_⟩
  rw [← h, byte_eq s j hj]
theorem byteVals_one (s : ByteArray) : ∀ u ∈ byteVals s, u.oneCell' = true := by
  intro u hu
  obtain ⟨c, _, rfl⟩ := List.mem_map.1 hu
  rfl
/-- What a call owns is a slice of bytes. -/
theorem own_bytes {w : World} {base : Nat} {v : Value} {s : ByteArray} (h : w.ownsRow base 5 1 v s.size (byteVals s)) : IsBytes w v s := by
  have hcl := fun g (hg : v.ownBlock = some g) => World.ownsRow.cells h hg
  rcases h.2 with ⟨hv, h0⟩ | ⟨g, cap, cur, hv, hb, hh, hcap, hmax, _⟩
  · rw [hv]
    exact ⟨none, 0, by rw [h0], by omega, by unfold maxLen; omega, .inl ⟨rfl, h0, rfl⟩⟩
  · refine ⟨some ⟨g, 0, none⟩, cap, hv, hcap, hmax, .inr ⟨_, rfl, .inr ⟨g, 0, rfl, (Array.getElem?_eq_some_iff.1 hh).1, ?_⟩⟩⟩
    intro i hi
    rw [Nat.zero_add] at hi
    have e1 : (byteVals s)[i]? = some (.int .u8 (byte s i : Int)) := by
      unfold byteVals
      rw [List.getElem?_map, list_at s i hi, byte_eq s i hi]
      rfl
    have := hcl g (by rw [hv]; rfl) i _ e1
    have e : (⟨g, 0, none⟩ : Addr).add i = ⟨g, 0 + i, none⟩ := by unfold Addr.add; split <;> simp_all
    rw [e] at this
    rw [this, Nat.zero_add]
/-- From the reading of an argument. -/
theorem nums_byte {xs : List Int} (h : ∀ x ∈ xs, 0 ≤ x ∧ x ≤ 255) {i : Nat} (hi : i < xs.length) : (byte (strOfNums xs) i : Int) = xs.getD i 0 := by
  have hsz : i < (strOfNums xs).size := by rw [strOfNums_size]; exact hi
  rw [byte_eq _ i hsz]
  have e := list_at _ i hsz
  rw [strOfNums_data, List.getElem?_map, List.getElem?_eq_getElem hi] at e
  have e2 : UInt8.ofNat xs[i].toNat = (strOfNums xs)[i]'hsz := by simpa using e
  rw [← e2]
  have := h xs[i] (List.getElem_mem hi)
  rw [UInt8.toNat_ofNat']
  simp [List.getD, hi]
  omega
theorem wf_u8 {n : Int} (h : (Lit.int .u8 n).wf = true) : 0 ≤ n ∧ n ≤ 255 := by
  have := bounds_u8 h
  omega
theorem cell_lt {w : World} {b o : Nat} {v : Value} (h : w.cell? ⟨b, o, none⟩ = some v) : b < w.heap.size := by
  rcases Nat.lt_or_ge b w.heap.size with h' | h'
  · exact h'
  · simp [World.cell?, Array.getElem?_eq_none h'] at h
theorem bytes_arg {H : Type} {enc : TypeId × Value → H} {W : World} {a : Option Addr} {len cap : Nat} {d : DataW H} {p : List MemPlace} {base : Nat} {sp : Nat → Bool} {held : Bool}
    (h : DataW.Trod enc Tryz.prog W base sp held 22 (.slice a len cap) d p) : ∃ s : ByteArray, s.size = len ∧ IsBytes W (.slice a len cap) s := by
  obtain ⟨fuel, hf⟩ := h
  rcases open_ints Tryz.underlying22 Tryz.underlying5 (by kernel_rfl) hf with ⟨hcs, _⟩ | ⟨x, l, c, zs, hcs, _, hl, hm, hz, _, hcell, hwz⟩
  · simp [Value.cells] at hcs
    obtain ⟨rfl, rfl, rfl⟩ := hcs
    exact ⟨ByteArray.empty, rfl, none, 0, rfl, Nat.le_refl _, by unfold maxLen; omega, .inl ⟨rfl, rfl, rfl⟩⟩
  · simp [Value.cells] at hcs
    obtain ⟨rfl, rfl, rfl⟩ := hcs
    have hlz : len ≤ zs.length := by rw [hz]; split <;> omega
    have hsz : (strOfNums (zs.take len)).size = len := by rw [strOfNums_size, List.length_take]; omega
    refine ⟨strOfNums (zs.take len), hsz, some x, cap, by rw [hsz], by rw [hsz]; exact hl, hm, .inr ⟨x, rfl, ?_⟩⟩
    by_cases h0 : len = 0
    · exact .inl (by rw [hsz, h0])
    · obtain ⟨b, off, rfl, hc⟩ := ints_at hcell (by omega)
      refine .inr ⟨b, off, rfl, cell_lt (hc 0 (by omega)), ?_⟩
      intro i hi
      rw [Nat.zero_add, hsz] at hi
      rw [Nat.zero_add, nums_byte (fun y hy => wf_u8 (hwz y (List.mem_of_mem_take hy))) (by rw [List.length_take]; omega), hc i (by omega)]
      simp [List.getD, List.getElem?_take_of_lt hi]
theorem info5 : ∃ i, Tryz.prog.info? 5 = some i ∧ i.zero = some (.int .u8 0) ∧ i.size = 1 ∧ i.bytes = 1 := info_parts (by kernel_rfl)
theorem heap_push_at (w : World) (o : Obj) : (w.alloc o).heap[w.heap.size]? = some o := by
  show (w.heap.push o)[w.heap.size]? = _
  simp
theorem heap_push_old (w : World) (o : Obj) {k : Nat} (h : k < w.heap.size) : (w.alloc o).heap[k]? = w.heap[k]? := Below.heap_alloc w o k h
theorem own_empty (w : World) (base : Nat) (hb : base ≤ w.heap.size) : (w.alloc (.cells #[] 5)).ownsRow base 5 1 (.slice (some ⟨w.heap.size, 0, none⟩) 0 0) 0 [] :=
  ⟨rfl, .inr ⟨w.heap.size, 0, #[], rfl, hb, heap_push_at w _, Nat.le_refl _, by unfold maxLen; omega, rfl, rfl⟩⟩
theorem IsBytes.alloc {w : World} {v : Value} {s : ByteArray} (h : IsBytes w v s) (o : Obj) : IsBytes (w.alloc o) v s := h.later ((Below.refl _ w).alloc (Nat.le_refl _) o)
/-- The cells that are appended. -/
theorem IsBytes.news {w : World} {x : Addr} {n cap : Nat} {s : ByteArray} (h : IsBytes w (.slice (some x) n cap) s) : ∀ j u, (byteVals s)[j]? = some u → w.cell? (x.add j) = some u := by
  intro j u hj
  obtain ⟨hlt, rfl⟩ := byteVals_at hj
  obtain ⟨a, cap', hv, _, _, ⟨rfl, _, _⟩ | ⟨y, rfl, h0 | ⟨b, o, rfl, _, hf⟩⟩⟩ := h
  · cases hv
  · omega
  · simp only [Value.slice.injEq, Option.some.injEq] at hv
    rw [hv.1]
    have := hf j (by omega)
    rw [Nat.zero_add] at this
    have e : (⟨b, o, none⟩ : Addr).add j = ⟨b, o + j, none⟩ := by unfold Addr.add; split <;> simp_all
    rw [e]
    exact this
/-- append of bytes, nil or not, onto what the call owns. -/
theorem wpList_append_bytes {w : World} {ops : Array Oper} {rest : List Oper} {o : Oper} {ac : Act} {Q : Exit → Act → World → Prop} (hgd : o.guard = none) (so x : Operand)
    (ho : o.op = .call { callee := .builtin .append, args := #[so, x], argTypes := #[22, 22] })
    (base : Nat) (v : Value) (s : ByteArray) (hs : ac.eval so = v) (hown : w.ownsRow base 5 1 v s.size (byteVals s))
    (u : Value) (t : ByteArray) (hx : ac.eval x = u) (hu : IsBytes w u t) (hsz : s.size + t.size ≤ 1000000) (hbase : base ≤ w.heap.size)
    (h : ∀ v' w', w'.ownsRow base 5 1 v' (cat s t).size (byteVals (cat s t)) → Below base w w' → wpList Tryz.prog ops Q rest (ac.put o.dst v') w') : wpList Tryz.prog ops Q (o :: rest) ac w := by
  obtain ⟨i0, hi, hz0, hz1, hz2⟩ := info5
  have hv : byteVals (cat s t) = byteVals s ++ byteVals t := by simp [byteVals, cat]
  obtain ⟨a, cap, rfl, hc, hm, hrest⟩ := hu
  match a, hrest with
  | none, hrest =>
    have h0 : t.size = 0 ∧ cap = 0 := by
      rcases hrest with ⟨_, h0, h1⟩ | ⟨_, h0, _⟩
      · exact ⟨h0, h1⟩
      · cases h0
    have ht : byteVals t = [] := List.eq_nil_of_length_eq_zero (by rw [byteVals_length]; exact h0.1)
    rw [h0.1, h0.2] at hx
    refine wpList_append_own_none hgd so x 22 ho base 5 i0 1 Tryz.underlying22 hi v s.size _ hs hown hx (h v w ?_ (Below.refl _ _))
    rw [hv, ht, List.append_nil, cat_size, h0.1]
    exact hown
  | some y, hrest =>
    refine wpList_append_own w hgd so x 22 ho base 5 i0 (.int .u8 0) 1 1 Tryz.underlying22 hi hz0 hz1 hz2 rfl (by decide) v s.size _ hs hown y t.size cap (byteVals t) hx (by rw [byteVals_length]; omega) (IsBytes.news (n := t.size) (cap := cap) ⟨some y, cap, rfl, hc, hm, hrest⟩) (byteVals_one t) (by unfold maxLen; omega) (by omega) hbase ?_
    intro v' w' ho' hg _
    refine h v' w' ?_ ((Below.refl _ w).grown hg hbase (own_ge hown))
    rw [hv, cat_size]
    exact ho'
theorem IsBytes.head {w : World} {a : Option Addr} {cap : Nat} {s : ByteArray} (h : IsBytes w (.slice a s.size cap) s) {k : Nat} (hk : k ≤ s.size) : IsBytes w (.slice a k cap) ⟨(seg s 0 k).toArray⟩ := by
  have hz : (⟨(seg s 0 k).toArray⟩ : ByteArray).size = k := by
    rw [← len_eq]
    show (seg s 0 k).toArray.toList.length = k
    rw [List.toList_toArray, seg_length s hk]
    omega
  obtain ⟨a', cap', hv, hc, hm, h⟩ := h
  simp only [Value.slice.injEq, true_and] at hv
  obtain ⟨rfl, rfl⟩ := hv
  refine ⟨a, cap, by rw [hz], by rw [hz]; omega, hm, ?_⟩
  rcases h with ⟨h1, h2, h3⟩ | ⟨x, h1, h2 | ⟨b, o, h2, h3, h4⟩⟩
  · exact .inl ⟨h1, by rw [hz]; omega, h3⟩
  · exact .inr ⟨x, h1, .inl (by rw [hz]; omega)⟩
  · refine .inr ⟨x, h1, .inr ⟨b, o, h2, h3, ?_⟩⟩
    intro i hi
    rw [Nat.zero_add, hz] at hi
    rw [h4 i (by omega), byte_list, byte_list]
    show _ = some (Value.int .u8 ((((seg s 0 k).toArray.toList[0 + i]?).getD 0).toNat : Int))
    rw [List.toList_toArray]
    unfold seg
    rw [List.drop_zero, Nat.sub_zero, Nat.zero_add, List.getElem?_take_of_lt hi]
theorem cat_empty (s : ByteArray) : cat ByteArray.empty s = s := by
  apply ByteArray.ext
  apply Array.toList_inj.1
  simp [cat]
theorem cells_snoc (l : List UInt8) (c : UInt8) : Lib.byteCells l ++ [.int .u8 (c.toNat : Int)] = Lib.byteCells (l ++ [c]) := by
  rw [Lib.byteCells_append]; rfl
theorem own_snoc {w : World} {base : Nat} {v : Value} {l : List UInt8} {c : UInt8} (h : w.ownsRow base 5 1 v (l.length + 1) (Lib.byteCells l ++ [.int .u8 (c.toNat : Int)])) : w.ownsRow base 5 1 v (l ++ [c]).length (Lib.byteCells (l ++ [c])) := by
  rw [cells_snoc] at h
  simpa using h
end Go.Proofs.YtpcmpeeflnlkpaaGreatDoor

/-
  Appends of one byte onto what the call owns.
-/
namespace Go.Proofs.YtpcmpeeflnlkpaaGreatDoor
open Go.RowKit Ch
set_option maxRecDepth 100000

/-- The length of a slice. -/
def lenOf : Value → Nat
  | .slice _ n _ => n
  | _ => 0
theorem own_shape {w : World} {base : Nat} {e : TypeId} {size n : Nat} {v : Value} {xs : List Value} (h : w.ownsRow base e size v n xs) : ∃ a cap, v = .slice a n cap := by
  rcases h.2 with ⟨hv, h0⟩ | ⟨g, cap, cur, hv, _⟩
  · exact ⟨none, 0, by rw [hv, h0]⟩
  · exact ⟨_, _, hv⟩
theorem below_grown {w wr w2 : World} {base : Nat} {e : TypeId} {size n : Nat} {v : Value} {xs : List Value} {o : Obj} (hb : Below base w wr) (hB : base ≤ wr.heap.size) (hown : wr.ownsRow base e size v n xs) (hg : (wr.alloc o).grownBy w2 v.ownBlock) : Below base w w2 :=
  (hb.alloc hB _).grown hg (by simp; omega) (own_ge hown)

/-- append of one byte that was just laid down, onto what the call owns. -/
theorem wpList_append_one {w0 wr : World} {ops : Array Oper} {rest : List Oper} {o : Oper} {ac : Act} {Q : Exit → Act → World → Prop} (hgd : o.guard = none) (so x : Operand)
    (ho : o.op = .call { callee := .builtin .append, args := #[so, x], argTypes := #[22, 22] })
    (base : Nat) (v : Value) (acc : List UInt8) (hs : ac.eval so = v) (hown : wr.ownsRow base 5 1 v acc.length (Lib.byteCells acc))
    (z : Int) (hx : ac.eval x = .slice (some ⟨wr.heap.size, 0, none⟩) 1 1) (c : UInt8) (hc : Hid (z = (c.toNat : Int))) (acc' : List UInt8) (he : Hid (acc ++ [c] = acc')) (hlen : acc.length ≤ 1000000) (hbase : base ≤ wr.heap.size) (hb : Below base w0 wr)
    (h : ∀ v' w', w'.ownsRow base 5 1 v' acc'.length (Lib.byteCells acc') → Below base w0 w' → wpList Tryz.prog ops Q rest (ac.put o.dst v') w') :
    wpList Tryz.prog ops Q (o :: rest) ac (wr.alloc (.cells #[.int .u8 z] 5)) := by
  obtain ⟨i0, hi, hz0, hz1, hz2⟩ := info5
  refine wpList_append_own _ hgd _ _ 22 ho base 5 i0 (.int .u8 0) 1 1 Tryz.underlying22 hi hz0 hz1 hz2 rfl (by decide) v _ _ hs (hown.alloc _) ⟨wr.heap.size, 0, none⟩ 1 1 [_] hx rfl (cell_one_new _ _ _) (by intro u hu; simp at hu; subst hu; rfl) (by unfold maxLen; omega) (by omega) (by simp; omega) ?_
  intro v' w2 hown2 hgrow _
  have hb2 := below_grown hb hbase hown hgrow
  rw [hc.out] at hown2
  have hown3 := own_snoc (c := c) hown2
  rw [he.out] at hown3
  exact h v' w2 hown3 hb2
end Go.Proofs.YtpcmpeeflnlkpaaGreatDoor

/-
  Blocks of several cells: a struct in a variable of its own. Of no layer alone.
-/
namespace Go.Proofs.YtpcmpeeflnlkpaaGreatDoor
open Go.RowKit Ch
set_option maxRecDepth 100000

theorem setCell_block {W : World} {b i : Nat} {c : Array Value} {t : TypeId} {fr : Nat × Nat} {u : Value} (h : W.heap[b]? = some (Obj.cells c t fr)) : (W.setCell ⟨b, i, none⟩ u).heap[b]? = some (Obj.cells (c.setIfInBounds i u) t fr) := by
  have hlt := (Array.getElem?_eq_some_iff.1 h).1
  have h' : W.heap[b] = .cells c t fr := by simpa [Array.getElem?_eq_getElem hlt] using h
  show (W.heap.modify b _)[b]? = _
  rw [Array.getElem?_eq_getElem (by simpa using hlt), Array.getElem_modify_self, h']
  rfl
theorem setCell_size (W : World) (a : Addr) (u : Value) : (W.setCell a u).heap.size = W.heap.size := by simp [World.setCell]
theorem block_cell {W : World} {b : Nat} (i : Nat) {c : Array Value} {t : TypeId} {v : Value} (h : W.heap[b]? = some (Obj.cells c t (0, 0))) (hi : c[i]? = some v) : W.cell? ⟨b, i, none⟩ = some v := by
  simp [World.cell?, h, hi]
theorem block_free {W : World} {b : Nat} (i : Nat) {c : Array Value} {t : TypeId} (h : W.heap[b]? = some (Obj.cells c t (0, 0))) : W.frozen? ⟨b, i, none⟩ = false := by
  simp [World.frozen?, h]
theorem block_lt {W : World} {b : Nat} {o : Obj} (h : W.heap[b]? = some o) : b < W.heap.size := (Array.getElem?_eq_some_iff.1 h).1
theorem block_other {W : World} {b : Nat} (a : Addr) (u : Value) {o : Obj} (h : W.heap[b]? = some o) (hb : b ≠ a.block) : (W.setCell a u).heap[b]? = some o := (Below.heap_setCell _ _ _ _ hb).trans h
theorem block_alloc {W : World} {b : Nat} (o' : Obj) {o : Obj} (h : W.heap[b]? = some o) : (W.alloc o').heap[b]? = some o := (heap_push_old W o' (block_lt h)).trans h
theorem block_grown {W W' : World} {b : Nat} {o : Obj} {row : Option Nat} (h : W.heap[b]? = some o) (hg : W.grownBy W' row) (hne : row ≠ some b) : W'.heap[b]? = some o := (hg.block b (block_lt h) (fun e => hne e.symm)).trans h
/-- A cell of a row that is owned, and another value in its place. -/
theorem own_set {w : World} {base n i : Nat} {e : TypeId} {v : Value} {xs : List Value} (h : w.ownsRow base e 1 v n xs) (hi : i < n) :
    ∃ g cap, v = .slice (some ⟨g, 0, none⟩) n cap ∧ n ≤ cap ∧ base ≤ g ∧ g < w.heap.size ∧ w.cell? ⟨g, i, none⟩ = xs[i]? ∧ w.frozen? ⟨g, i, none⟩ = false ∧ ∀ u, (w.setCell ⟨g, i, none⟩ u).ownsRow base e 1 v n (xs.set i u) := by
  have hcl := fun g (hg : v.ownBlock = some g) => World.ownsRow.cells h hg
  rcases h.2 with ⟨hv, h0⟩ | ⟨g, cap, cur, hv, hb, hh, hcap, hmax, hsz, hcur⟩
  · omega
  · have hl : xs.length = n := by rw [h.1]; omega
    refine ⟨g, cap, hv, hcap, hb, block_lt hh, ?_, by simp [World.frozen?, hh], ?_⟩
    · rw [List.getElem?_eq_getElem (by omega)]
      have := hcl g (by rw [hv]; rfl) i xs[i] (List.getElem?_eq_getElem (by omega))
      have e : (⟨g, 0, none⟩ : Addr).add i = ⟨g, i, none⟩ := by unfold Addr.add; split <;> simp_all
      rw [e] at this
      exact this
    · intro u
      refine ⟨by rw [List.length_set]; exact h.1, .inr ⟨g, cap, cur.setIfInBounds i u, hv, hb, setCell_block hh, hcap, hmax, by rw [Array.size_setIfInBounds]; exact hsz, ?_⟩⟩
      rw [Array.toList_setIfInBounds, List.take_set, hcur]
theorem IsBytes.cellAt {w : World} {a : Option Addr} {cap : Nat} {s : ByteArray} (h : IsBytes w (.slice a s.size cap) s) {i : Nat} (hi : i < s.size) : ∃ b o, a = some ⟨b, o, none⟩ ∧ b < w.heap.size ∧ w.cell? ⟨b, o + i, none⟩ = some (.int .u8 (byte s i : Int)) := by
  obtain ⟨a', cap', hv, hc, hm, ⟨_, h0, _⟩ | ⟨y, hy, h0 | ⟨b, o, hx, hb, hf⟩⟩⟩ := h
  · omega
  · omega
  · simp only [Value.slice.injEq, true_and] at hv
    have := hf i (by omega)
    rw [Nat.zero_add] at this
    exact ⟨b, o, by rw [hv.1, hy, hx], hb, this⟩
/-- The rest of a slice of bytes. -/
theorem IsBytes.tail {w : World} {b o cap : Nat} {s : ByteArray} (h : IsBytes w (.slice (some ⟨b, o, none⟩) s.size cap) s) {k : Nat} (hk : k ≤ s.size) : IsBytes w (.slice (some ⟨b, o + k, none⟩) (s.size - k) (cap - k)) ⟨(seg s k s.size).toArray⟩ := by
  have hz : (⟨(seg s k s.size).toArray⟩ : ByteArray).size = s.size - k := by
    rw [← len_eq]
    show (seg s k s.size).toArray.toList.length = _
    rw [List.toList_toArray, seg_length s (Nat.le_refl _)]
  obtain ⟨a', cap', hv, hc, hm, h⟩ := h
  simp only [Value.slice.injEq, true_and] at hv
  obtain ⟨rfl, rfl⟩ := hv
  refine ⟨some ⟨b, o + k, none⟩, cap - k, by rw [hz], by rw [hz]; omega, by omega, .inr ⟨_, rfl, ?_⟩⟩
  rcases h with ⟨h1, h2, h3⟩ | ⟨x, h1, h2 | ⟨b', o', h2, h3, h4⟩⟩
  · cases h1
  · exact .inl (by rw [hz]; omega)
  · simp only [Option.some.injEq] at h1
    rw [← h1] at h2
    simp only [Addr.mk.injEq, and_true] at h2
    obtain ⟨rfl, rfl⟩ := h2
    refine .inr ⟨b, o + k, rfl, h3, ?_⟩
    intro i hi
    rw [Nat.zero_add, hz] at hi
    have := h4 (k + i) (by omega)
    rw [Nat.zero_add] at this
    rw [Nat.add_assoc, this, Nat.zero_add, byte_list, byte_list]
    show _ = some (Value.int .u8 ((((seg s k s.size).toArray.toList[i]?).getD 0).toNat : Int))
    rw [List.toList_toArray]
    unfold seg
    rw [List.getElem?_take_of_lt hi, List.getElem?_drop]
/-- The rest of a slice of bytes, as the program cuts it. -/
theorem IsBytes.rest {w : World} {y : Option Addr} {c : Nat} {s : ByteArray} (h : IsBytes w (.slice y s.size c) s) {k : Nat} (hk : k ≤ s.size) : IsBytes w (.slice (if c = k then y else y.map fun x => x.add k) (s.size - k) (c - k)) ⟨(seg s k s.size).toArray⟩ := by
  have hz : (⟨(seg s k s.size).toArray⟩ : ByteArray).size = s.size - k := by
    rw [← len_eq]
    show (seg s k s.size).toArray.toList.length = _
    rw [List.toList_toArray, seg_length s (Nat.le_refl _)]
  have h' := h
  obtain ⟨a', cap', hv, hc, hm, h⟩ := h
  simp only [Value.slice.injEq, true_and] at hv
  obtain ⟨rfl, rfl⟩ := hv
  rcases h with ⟨h1, h2, h3⟩ | ⟨x, h1, h2 | ⟨b, o, h2, h3, h4⟩⟩
  · subst h1
    have hk0 : k = 0 := by omega
    subst hk0
    refine ⟨none, 0, by rw [hz, h2, h3]; simp, by rw [hz]; omega, by unfold maxLen; omega, .inl ⟨rfl, by rw [hz]; omega, rfl⟩⟩
  · subst h1
    by_cases e : c = k
    · rw [if_pos e]
      exact ⟨some x, c - k, by rw [hz], by rw [hz]; omega, by omega, .inr ⟨x, rfl, .inl (by rw [hz]; omega)⟩⟩
    · rw [if_neg e]
      exact ⟨some (x.add k), c - k, by rw [hz]; rfl, by rw [hz]; omega, by omega, .inr ⟨_, rfl, .inl (by rw [hz]; omega)⟩⟩
  · subst h1
    subst h2
    by_cases e : c = k
    · rw [if_pos e]
      exact ⟨_, c - k, by rw [hz], by rw [hz]; omega, by omega, .inr ⟨_, rfl, .inl (by rw [hz]; omega)⟩⟩
    · rw [if_neg e]
      have e2 : (⟨b, o, none⟩ : Addr).add k = ⟨b, o + k, none⟩ := by unfold Addr.add; split <;> simp_all
      rw [Option.map_some, e2]
      exact h'.tail hk
end Go.Proofs.YtpcmpeeflnlkpaaGreatDoor
