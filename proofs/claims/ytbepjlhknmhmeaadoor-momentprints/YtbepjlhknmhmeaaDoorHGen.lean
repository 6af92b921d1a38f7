/-
  Blocks of several cells: a struct in a variable of its own. Of no layer alone.
-/
import Derived.Test.YtbepjlhknmhmeaaDoorGen2
namespace Go.Proofs.YtbepjlhknmhmeaaDoor
open Go.RowKit Ch
set_option maxRecDepth 100000

theorem setCell_block {W : World} {b i : Nat} {c : Array Value} {t : TypeId} {fr : Nat × Nat} {u : Value} (h : W.heap[b]? = some (Obj.cells c t fr)) : (W.setCell ⟨b, i, none⟩ u).heap[b]? = some (Obj.cells (c.setIfInBounds i u) t fr) := by
  have hlt := (Array.getElem?_eq_some_iff.1 h).1
  have h' : W.heap[b] = .cells c t fr := by simpa [Array.getElem?_eq_getElem hlt] using h
  show (W.heap.modify b _)[b]? = _
  rw [Array.getElem?_eq_getElem (by simpa using hlt), Array.getElem_modify_self, h']
  rfl
theorem setCell_size (W : World) (a : Addr) (u : Value) : (W.setCell a u).heap.size = W.heap.size := by simp [World.setCell]
theorem block_cell {W : World} {b : Nat} (i : Nat) {c : Array Value} {t : TypeId} {v : Value} (h : W.heap[b]? = some (Obj.cells c t (0, 0))) (hi : c[i]? = some v) : W.cell? ⟨b, i, none⟩ = some v := by
  simp [World.cell?, h, hi]
theorem block_free {W : World} {b : Nat} (i : Nat) {c : Array Value} {t : TypeId} (h : W.heap[b]? = some (Obj.cells c t (0, 0))) : W.frozen? ⟨b, i, none⟩ = false := by
  simp [World.frozen?, h]
theorem block_lt {W : World} {b : Nat} {o : Obj} (h : W.heap[b]? = some o) : b < W.heap.size := (Array.getElem?_eq_some_iff.1 h).1
theorem block_other {W : World} {b : Nat} (a : Addr) (u : Value) {o : Obj} (h : W.heap[b]? = some o) (hb : b ≠ a.block) : (W.setCell a u).heap[b]? = some o := (Below.heap_setCell _ _ _ _ hb).trans h
theorem block_alloc {W : World} {b : Nat} (o' : Obj) {o : Obj} (h : W.heap[b]? = some o) : (W.alloc o').heap[b]? = some o := (heap_push_old W o' (block_lt h)).trans h
theorem block_grown {W W' : World} {b : Nat} {o : Obj} {row : Option Nat} (h : W.heap[b]? = some o) (hg : W.grownBy W' row) (hne : row ≠ some b) : W'.heap[b]? = some o := (hg.block b (block_lt h) (fun e => hne e.symm)).trans h
/-- A cell of a row that is owned, and another value in its place. -/
theorem own_set {w : World} {base n i : Nat} {e : TypeId} {v : Value} {xs : List Value} (h : w.ownsRow base e 1 v n xs) (hi : i < n) :
    ∃ g cap, v = .slice (some ⟨g, 0, none⟩) n cap ∧ n ≤ cap ∧ base ≤ g ∧ g < w.heap.size ∧ w.cell? ⟨g, i, none⟩ = xs[i]? ∧ w.frozen? ⟨g, i, none⟩ = false ∧ ∀ u, (w.setCell ⟨g, i, none⟩ u).ownsRow base e 1 v n (xs.set i u) := by
  have hcl := fun g (hg : v.ownBlock = some g) => World.ownsRow.cells h hg
  rcases h.2 with ⟨hv, h0⟩ | ⟨g, cap, cur, hv, hb, hh, hcap, hmax, hsz, hcur⟩
  · omega
  · have hl : xs.length = n := by rw [h.1]; omega
    refine ⟨g, cap, hv, hcap, hb, block_lt hh, ?_, by simp [World.frozen?, hh], ?_⟩
    · rw [List.getElem?_eq_getElem (by omega)]
      have := hcl g (by rw [hv]; rfl) i xs[i] (List.getElem?_eq_getElem (by omega))
      have e : (⟨g, 0, none⟩ : Addr).add i = ⟨g, i, none⟩ := by unfold Addr.add; split <;> simp_all
      rw [e] at this
      exact this
    · intro u
      refine ⟨by rw [List.length_set]; exact h.1, .inr ⟨g, cap, cur.setIfInBounds i u, hv, hb, setCell_block hh, hcap, hmax, by rw [Array.size_setIfInBounds]; exact hsz, ?_⟩⟩
      rw [Array.toList_setIfInBounds, List.take_set, hcur]
/-- append of bytes, nil or not, onto a list of bytes that the call owns: at a step of a region that draws its order. -/
theorem step_append_list {w : World} {ops : Array Oper} {o : Oper} {a : Act} {K : Act → World → Prop} {Q : Exit → Act → World → Prop} {E : Prop} (hgd : o.guard = none) (so x : Operand)
    (ho : o.op = .call { callee := .builtin .append, args := #[so, x], argTypes := #[43, 43] })
    (base : Nat) (v : Value) (acc : List UInt8) (hs : a.eval so = v) (hown : w.ownsRow base 5 1 v acc.length (Lib.byteCells acc))
    (u : Value) (t : ByteArray) (hx : a.eval x = u) (hu : IsBytes w u t) (hsz : acc.length + t.size ≤ 1000000) (hbase : base ≤ w.heap.size) (r : List UInt8) (hr : Hid (acc ++ t.data.toList = r))
    (h : ∀ a' cap' w', w'.ownsRow base 5 1 (.slice a' r.length cap') r.length (Lib.byteCells r) → Below base w w' → K (a.put o.dst (.slice a' r.length cap')) w') :
    if Region.wanted o (yielded ops a.tmps) = true then Oper.wp Tryd.prog o a w K Q else E := by
  have hw : Region.wanted o (yielded ops a.tmps) = true := by simp [Region.wanted, hgd]
  rw [if_pos hw]
  rw [← hr.out] at h
  obtain ⟨i0, hi, hz0, hz1, hz2⟩ := info5
  have hv : Lib.byteCells (acc ++ t.data.toList) = Lib.byteCells acc ++ byteVals t := Lib.byteCells_append _ _
  have hlen : (acc ++ t.data.toList).length = acc.length + t.size := by rw [List.length_append, len_eq]
  obtain ⟨b, cap, rfl, hc, hm, hrest⟩ := hu
  match b, hrest with
  | none, hrest =>
    have h0 : t.size = 0 ∧ cap = 0 := by
      rcases hrest with ⟨_, h0, h1⟩ | ⟨_, h0, _⟩
      · exact ⟨h0, h1⟩
      · cases h0
    have ht : byteVals t = [] := List.eq_nil_of_length_eq_zero (by rw [byteVals_length]; exact h0.1)
    rw [h0.1, h0.2] at hx
    have hrun := run_append_owned_none (P := Tryd.prog) (w := w) base 43 o.type 5 i0 1 Tryd.underlying43 hi v acc.length _ hown
    obtain ⟨a', cap', rfl⟩ := own_shape hown
    have hk := h a' cap' w
    rw [hv, ht, List.append_nil, hlen, h0.1, Nat.add_zero] at hk
    have := hk hown (Below.refl _ _)
    unfold Oper.wp
    simp [execOp, ho, resolve, invoke, builtin, hs, hx, hrun, Result.andThen]
    exact this
  | some y, hrest =>
    refine wp_append_own w so x 43 ho base 5 i0 (.int .u8 0) 1 1 Tryd.underlying43 hi hz0 hz1 hz2 rfl (by decide) v acc.length _ hs hown y t.size cap (byteVals t) hx (by rw [byteVals_length]; omega) (IsBytes.news (n := t.size) (cap := cap) ⟨some y, cap, rfl, hc, hm, hrest⟩) (byteVals_one t) (by unfold maxLen; omega) (by omega) hbase ?_
    intro v' w' ho' hg _
    rw [← hv, ← hlen] at ho'
    obtain ⟨a', cap', rfl⟩ := own_shape ho'
    exact h a' cap' w' ho' ((Below.refl _ w).grown hg hbase (own_ge hown))
/-- append of bytes, nil or not, onto a list of bytes that the call owns: at a step of a region that draws its order; what it leaves. -/
theorem step_append_grown {w : World} {ops : Array Oper} {o : Oper} {a : Act} {K : Act → World → Prop} {Q : Exit → Act → World → Prop} {E : Prop} (hgd : o.guard = none) (so x : Operand)
    (ho : o.op = .call { callee := .builtin .append, args := #[so, x], argTypes := #[43, 43] })
    (base : Nat) (v : Value) (acc : List UInt8) (hs : a.eval so = v) (hown : w.ownsRow base 5 1 v acc.length (Lib.byteCells acc))
    (u : Value) (t : ByteArray) (hx : a.eval x = u) (hu : IsBytes w u t) (hsz : acc.length + t.size ≤ 3000000000) (hbase : base ≤ w.heap.size) (r : List UInt8) (hr : Hid (acc ++ t.data.toList = r))
    (h : ∀ a' cap' w', w'.ownsRow base 5 1 (.slice a' r.length cap') r.length (Lib.byteCells r) → w.grownBy w' v.ownBlock → K (a.put o.dst (.slice a' r.length cap')) w') :
    if Region.wanted o (yielded ops a.tmps) = true then Oper.wp Tryd.prog o a w K Q else E := by
  have hw : Region.wanted o (yielded ops a.tmps) = true := by simp [Region.wanted, hgd]
  rw [if_pos hw]
  rw [← hr.out] at h
  obtain ⟨i0, hi, hz0, hz1, hz2⟩ := info5
  have hv : Lib.byteCells (acc ++ t.data.toList) = Lib.byteCells acc ++ byteVals t := Lib.byteCells_append _ _
  have hlen : (acc ++ t.data.toList).length = acc.length + t.size := by rw [List.length_append, len_eq]
  obtain ⟨b, cap, rfl, hc, hm, hrest⟩ := hu
  match b, hrest with
  | none, hrest =>
    have h0 : t.size = 0 ∧ cap = 0 := by
      rcases hrest with ⟨_, h0, h1⟩ | ⟨_, h0, _⟩
      · exact ⟨h0, h1⟩
      · cases h0
    have ht : byteVals t = [] := List.eq_nil_of_length_eq_zero (by rw [byteVals_length]; exact h0.1)
    rw [h0.1, h0.2] at hx
    have hrun := run_append_owned_none (P := Tryd.prog) (w := w) base 43 o.type 5 i0 1 Tryd.underlying43 hi v acc.length _ hown
    obtain ⟨a', cap', rfl⟩ := own_shape hown
    have hk := h a' cap' w
    rw [hv, ht, List.append_nil, hlen, h0.1, Nat.add_zero] at hk
    have := hk hown ⟨rfl, rfl, rfl, Nat.le_refl _, fun _ _ _ => rfl⟩
    unfold Oper.wp
    simp [execOp, ho, resolve, invoke, builtin, hs, hx, hrun, Result.andThen]
    exact this
  | some y, hrest =>
    refine wp_append_own w so x 43 ho base 5 i0 (.int .u8 0) 1 1 Tryd.underlying43 hi hz0 hz1 hz2 rfl (by decide) v acc.length _ hs hown y t.size cap (byteVals t) hx (by rw [byteVals_length]; omega) (IsBytes.news (n := t.size) (cap := cap) ⟨some y, cap, rfl, hc, hm, hrest⟩) (byteVals_one t) (by unfold maxLen; omega) (by omega) hbase ?_
    intro v' w' ho' hg _
    rw [← hv, ← hlen] at ho'
    obtain ⟨a', cap', rfl⟩ := own_shape ho'
    exact h a' cap' w' ho' hg
theorem IsBytes.cellAt {w : World} {a : Option Addr} {cap : Nat} {s : ByteArray} (h : IsBytes w (.slice a s.size cap) s) {i : Nat} (hi : i < s.size) : ∃ b o, a = some ⟨b, o, none⟩ ∧ b < w.heap.size ∧ w.cell? ⟨b, o + i, none⟩ = some (.int .u8 (byte s i : Int)) := by
  obtain ⟨a', cap', hv, hc, hm, ⟨_, h0, _⟩ | ⟨y, hy, h0 | ⟨b, o, hx, hb, hf⟩⟩⟩ := h
  · omega
  · omega
  · simp only [Value.slice.injEq, true_and] at hv
    have := hf i (by omega)
    rw [Nat.zero_add] at this
    exact ⟨b, o, by rw [hv.1, hy, hx], hb, this⟩
/-- The rest of a slice of bytes. -/
theorem IsBytes.tail {w : World} {b o cap : Nat} {s : ByteArray} (h : IsBytes w (.slice (some ⟨b, o, none⟩) s.size cap) s) {k : Nat} (hk : k ≤ s.size) : IsBytes w (.slice (some ⟨b, o + k, none⟩) (s.size - k) (cap - k)) ⟨(seg s k s.size).toArray⟩ := by
  have hz : (⟨(seg s k s.size).toArray⟩ : ByteArray).size = s.size - k := by
    rw [← len_eq]
    show (seg s k s.size).toArray.toList.length = _
    rw [List.toList_toArray, seg_length s (Nat.le_refl _)]
  obtain ⟨a', cap', hv, hc, hm, h⟩ := h
  simp only [Value.slice.injEq, true_and] at hv
  obtain ⟨rfl, rfl⟩ := hv
  refine ⟨some ⟨b, o + k, none⟩, cap - k, by rw [hz], by rw [hz]; omega, by omega, .inr ⟨_, rfl, ?_⟩⟩
  rcases h with ⟨h1, h2, h3⟩ | ⟨x, h1, h2 | ⟨b', o', h2, h3, h4⟩⟩
  · cases h1
  · exact .inl (by rw [hz]; omega)
  · simp only [Option.some.injEq] at h1
    rw [← h1] at h2
    simp only [Addr.mk.injEq, and_true] at h2
    obtain ⟨rfl, rfl⟩ := h2
    refine .inr ⟨b, o + k, rfl, h3, ?_⟩
    intro i hi
    rw [Nat.zero_add, hz] at hi
    have := h4 (k + i) (by omega)
    rw [Nat.zero_add] at this
    rw [Nat.add_assoc, this, Nat.zero_add, byte_list, byte_list]
    show _ = some (Value.int .u8 ((((seg s k s.size).toArray.toList[i]?).getD 0).toNat : Int))
    rw [List.toList_toArray]
    unfold seg
    rw [List.getElem?_take_of_lt hi, List.getElem?_drop]
/-- The rest of a slice of bytes, as the program cuts it. -/
theorem IsBytes.rest {w : World} {y : Option Addr} {c : Nat} {s : ByteArray} (h : IsBytes w (.slice y s.size c) s) {k : Nat} (hk : k ≤ s.size) : IsBytes w (.slice (if c = k then y else y.map fun x => x.add k) (s.size - k) (c - k)) ⟨(seg s k s.size).toArray⟩ := by
  have hz : (⟨(seg s k s.size).toArray⟩ : ByteArray).size = s.size - k := by
    rw [← len_eq]
    show (seg s k s.size).toArray.toList.length = _
    rw [List.toList_toArray, seg_length s (Nat.le_refl _)]
  have h' := h
  obtain ⟨a', cap', hv, hc, hm, h⟩ := h
  simp only [Value.slice.injEq, true_and] at hv
  obtain ⟨rfl, rfl⟩ := hv
  rcases h with ⟨h1, h2, h3⟩ | ⟨x, h1, h2 | ⟨b, o, h2, h3, h4⟩⟩
  · subst h1
    have hk0 : k = 0 := by omega
    subst hk0
    refine ⟨none, 0, by rw [hz, h2, h3]; simp, by rw [hz]; omega, by unfold maxLen; omega, .inl ⟨rfl, by rw [hz]; omega, rfl⟩⟩
  · subst h1
    by_cases e : c = k
    · rw [if_pos e]
      exact ⟨some x, c - k, by rw [hz], by rw [hz]; omega, by omega, .inr ⟨x, rfl, .inl (by rw [hz]; omega)⟩⟩
    · rw [if_neg e]
      exact ⟨some (x.add k), c - k, by rw [hz]; rfl, by rw [hz]; omega, by omega, .inr ⟨_, rfl, .inl (by rw [hz]; omega)⟩⟩
  · subst h1
    subst h2
    by_cases e : c = k
    · rw [if_pos e]
      exact ⟨_, c - k, by rw [hz], by rw [hz]; omega, by omega, .inr ⟨_, rfl, .inl (by rw [hz]; omega)⟩⟩
    · rw [if_neg e]
      have e2 : (⟨b, o, none⟩ : Addr).add k = ⟨b, o + k, none⟩ := by unfold Addr.add; split <;> simp_all
      rw [Option.map_some, e2]
      exact h'.tail hk
/-- A piece of a slice of bytes, as the program cuts it. -/
theorem IsBytes.mid {w : World} {y : Option Addr} {c : Nat} {s : ByteArray} (h : IsBytes w (.slice y s.size c) s) {lo k : Nat} (hk : lo + k ≤ s.size) : IsBytes w (.slice (if c = lo then y else y.map fun x => x.add lo) k (c - lo)) ⟨((s.data.toList.drop lo).take k).toArray⟩ := by
  have h1 := h.rest (k := lo) (by omega)
  have hz : (⟨(seg s lo s.size).toArray⟩ : ByteArray).size = s.size - lo := by
    rw [← len_eq]
    show (seg s lo s.size).toArray.toList.length = _
    rw [List.toList_toArray, seg_length s (Nat.le_refl _)]
  rw [← hz] at h1
  have h2 := h1.head (k := k) (by rw [hz]; omega)
  have e : seg (⟨(seg s lo s.size).toArray⟩ : ByteArray) 0 k = (s.data.toList.drop lo).take k := by
    show (((seg s lo s.size).toArray.toList.drop 0).take (k - 0)) = _
    rw [List.toList_toArray, List.drop_zero, Nat.sub_zero]
    unfold seg
    rw [List.take_take]
    congr 1
    omega
  rw [e] at h2
  exact h2
end Go.Proofs.YtbepjlhknmhmeaaDoor
