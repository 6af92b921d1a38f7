/-
  Rows of whole numbers of any kind: read, made, appended to, written. Of no layer alone.
-/
import Derived.Test.YthdoginhbhdmbaaHGen
import Derived.Test.YthdoginhbhdmbaaKPlain
import Derived.OwnWalk
namespace Go.Proofs.Ythdoginhbhdmbaa
open Go.RowKit Ch
set_option maxRecDepth 100000

/-- A kind of whole numbers, with its slice's type. -/
structure KR where
  k : IntKind
  e : TypeId
  ts : TypeId
  size : Nat
  hu : Try.prog.underlying ts = some (.slice e)
  hi : (Try.prog.info? e).map (fun i => (i.zero, i.size, i.bytes)) = some (some (.int k 0), 1, size)
  hb8 : size ≤ 8
def kc (k : IntKind) (L : List Nat) : List Value := L.map fun n : Nat => .int k (n : Int)
theorem kc_length (k : IntKind) (L : List Nat) : (kc k L).length = L.length := by simp [kc]
theorem kc_append (k : IntKind) (a b : List Nat) : kc k (a ++ b) = kc k a ++ kc k b := by simp [kc]
theorem kc_at {k : IntKind} {L : List Nat} {i n : Nat} (h : L[i]? = some n) : (kc k L)[i]? = some (.int k (n : Int)) := by simp [kc, h]
theorem kc_set (k : IntKind) (L : List Nat) (i n : Nat) : (kc k L).set i (.int k (n : Int)) = kc k (L.set i n) := by simp [kc, List.map_set]
theorem kc_one (k : IntKind) (L : List Nat) : ∀ u ∈ kc k L, u.oneCell' = true := by
  intro u hu
  obtain ⟨c, _, rfl⟩ := List.mem_map.1 hu
  rfl
/-- A slice of these numbers. -/
def IsN (k : IntKind) (w : World) (v : Value) (L : List Nat) : Prop :=
  ∃ a cap, v = .slice a L.length cap ∧ L.length ≤ cap ∧ cap ≤ maxLen ∧ ((a = none ∧ L.length = 0 ∧ cap = 0) ∨ ∃ x, a = some x ∧ (L.length = 0 ∨ ∃ b o, x = ⟨b, o, none⟩ ∧ b < w.heap.size ∧ ∀ i n : Nat, L[i]? = some n → w.cell? ⟨b, o + i, none⟩ = some (.int k (n : Int))))
theorem IsN.later {k : IntKind} {w w' : World} {v : Value} {L : List Nat} (h : IsN k w v L) (hw : Below w.heap.size w w') : IsN k w' v L := by
  obtain ⟨a, cap, hv, hc, hm, h | ⟨x, ha, h | ⟨b, o, hx, hb, hf⟩⟩⟩ := h
  · exact ⟨a, cap, hv, hc, hm, .inl h⟩
  · exact ⟨a, cap, hv, hc, hm, .inr ⟨x, ha, .inl h⟩⟩
  · exact ⟨a, cap, hv, hc, hm, .inr ⟨x, ha, .inr ⟨b, o, hx, Nat.lt_of_lt_of_le hb hw.size, fun i n hn => (hw.cell (p := ⟨b, o + i, none⟩) hb).trans (hf i n hn)⟩⟩⟩
theorem IsN.alloc {k : IntKind} {w : World} {v : Value} {L : List Nat} (h : IsN k w v L) (o : Obj) : IsN k (w.alloc o) v L := h.later ((Below.refl _ w).alloc (Nat.le_refl _) o)
theorem IsN.cellAt {k : IntKind} {w : World} {a : Option Addr} {m cap : Nat} {L : List Nat} (h : IsN k w (.slice a m cap) L) {i n : Nat} (hn : L[i]? = some n) : m = L.length ∧ ∃ b o, a = some ⟨b, o, none⟩ ∧ b < w.heap.size ∧ w.cell? ⟨b, o + i, none⟩ = some (.int k (n : Int)) := by
  have hi : i < L.length := (List.getElem?_eq_some_iff.1 hn).1
  obtain ⟨a', cap', hv, hc, hm, ⟨_, h0, _⟩ | ⟨y, hy, h0 | ⟨b, o, hx, hb, hf⟩⟩⟩ := h
  · omega
  · omega
  · simp only [Value.slice.injEq] at hv
    exact ⟨hv.2.1, b, o, by rw [hv.1, hy, hx], hb, hf i n hn⟩
theorem own_n {k : IntKind} {e : TypeId} {w : World} {base : Nat} {v : Value} {L : List Nat} (h : w.ownsRow base e 1 v L.length (kc k L)) : IsN k w v L := by
  have hcl := fun g (hg : v.ownBlock = some g) => World.ownsRow.cells h hg
  rcases h.2 with ⟨hv, h0⟩ | ⟨g, cap, cur, hv, hb, hh, hcap, hmax, _⟩
  · exact ⟨none, 0, by rw [hv, h0], by omega, by unfold maxLen; omega, .inl ⟨rfl, h0, rfl⟩⟩
  · refine ⟨_, cap, hv, hcap, hmax, .inr ⟨_, rfl, .inr ⟨g, 0, rfl, block_lt hh, fun i n hn => ?_⟩⟩⟩
    have := hcl g (by rw [hv]; rfl) i (.int k (n : Int)) (kc_at hn)
    have e : (⟨g, 0, none⟩ : Addr).add i = ⟨g, 0 + i, none⟩ := by unfold Addr.add; split <;> simp_all
    rw [e] at this
    exact this
theorem IsN.news {k : IntKind} {w : World} {x : Addr} {n cap : Nat} {L : List Nat} (h : IsN k w (.slice (some x) n cap) L) : ∀ j u, (kc k L)[j]? = some u → w.cell? (x.add j) = some u := by
  intro j u hj
  have hj2 : j < L.length := by have := (List.getElem?_eq_some_iff.1 hj).1; rw [kc_length] at this; exact this
  have hn : L[j]? = some L[j] := List.getElem?_eq_getElem hj2
  rw [kc_at hn] at hj
  obtain ⟨_, b, o, hx, _, hc⟩ := h.cellAt hn
  obtain rfl := Option.some.inj hx
  have e : (⟨b, o, none⟩ : Addr).add j = ⟨b, o + j, none⟩ := by unfold Addr.add; split <;> simp_all
  rw [e, hc]
  exact hj
theorem own_nil (w : World) (base : Nat) (e : TypeId) : w.ownsRow base e 1 (.slice none 0 0) 0 [] := ⟨rfl, .inl ⟨rfl, rfl⟩⟩
theorem own_emptyN (w : World) (base : Nat) (e : TypeId) (hb : base ≤ w.heap.size) : (w.alloc (.cells #[] e)).ownsRow base e 1 (.slice (some ⟨w.heap.size, 0, none⟩) 0 0) 0 [] :=
  ⟨rfl, .inr ⟨w.heap.size, 0, #[], rfl, hb, heap_push_at w _, Nat.le_refl _, by unfold maxLen; omega, rfl, rfl⟩⟩
theorem own_monoN {w : World} {b b2 : Nat} {e : TypeId} {size n : Nat} {v : Value} {xs : List Value} (h : w.ownsRow b2 e size v n xs) (hb : b ≤ b2) : w.ownsRow b e size v n xs := by
  refine ⟨h.1, ?_⟩
  rcases h.2 with h2 | ⟨g, cap, cur, hv, hg2, hh, r⟩
  · exact .inl h2
  · exact .inr ⟨g, cap, cur, hv, by omega, hh, r⟩
/-- append of one number that was just laid down, onto what the call owns. -/
theorem wpList_append_n (R : KR) {w0 wr : World} {ops : Array Oper} {rest : List Oper} {o : Oper} {ac : Act} {Q : Exit → Act → World → Prop} (hgd : o.guard = none) (so x : Operand)
    (ho : o.op = .call { callee := .builtin .append, args := #[so, x], argTypes := #[R.ts, R.ts] })
    (base : Nat) (v : Value) (acc : List Nat) (hs : ac.eval so = v) (hown : wr.ownsRow base R.e 1 v acc.length (kc R.k acc))
    (z : Int) (hx : ac.eval x = .slice (some ⟨wr.heap.size, 0, none⟩) 1 1) (c : Nat) (hc : Hid (z = (c : Int))) (acc' : List Nat) (he : Hid (acc ++ [c] = acc')) (hlen : acc.length ≤ 1000000) (hbase : base ≤ wr.heap.size) (hb : Below base w0 wr)
    (h : ∀ v' w', w'.ownsRow base R.e 1 v' acc'.length (kc R.k acc') → Below base w0 w' → wpList Try.prog ops Q rest (ac.put o.dst v') w') :
    wpList Try.prog ops Q (o :: rest) ac (wr.alloc (.cells #[.int R.k z] R.e)) := by
  obtain ⟨i0, hi, hz0, hz1, hz2⟩ := info_parts R.hi
  have h8 := R.hb8
  refine wpList_append_own _ hgd _ _ R.ts ho base R.e i0 (.int R.k 0) 1 R.size R.hu hi hz0 hz1 hz2 rfl (by decide) v _ _ hs (hown.alloc _) ⟨wr.heap.size, 0, none⟩ 1 1 [_] hx rfl (cell_one_new _ _ _) (by intro u hu; simp at hu; subst hu; rfl) (by unfold maxLen; omega) (Nat.le_trans (Nat.mul_le_mul_left _ h8) (by omega)) (by simp; omega) ?_
  intro v' w2 hown2 hgrow _
  have hb2 := below_grown hb hbase hown hgrow
  rw [hc.out] at hown2
  have e : kc R.k acc ++ [Value.int R.k (c : Int)] = kc R.k acc' := by rw [← he.out, kc_append]; rfl
  have e2 : acc.length + 1 = acc'.length := by rw [← he.out]; simp
  rw [e, e2] at hown2
  exact h v' w2 hown2 hb2
/-- append of a slice of numbers, nil or not, onto what the call owns. -/
theorem wpList_append_ns (R : KR) {w : World} {ops : Array Oper} {rest : List Oper} {o : Oper} {ac : Act} {Q : Exit → Act → World → Prop} (hgd : o.guard = none) (so x : Operand)
    (ho : o.op = .call { callee := .builtin .append, args := #[so, x], argTypes := #[R.ts, R.ts] })
    (base : Nat) (v : Value) (acc : List Nat) (hs : ac.eval so = v) (hown : w.ownsRow base R.e 1 v acc.length (kc R.k acc))
    (u : Value) (L : List Nat) (hx : ac.eval x = u) (hu : IsN R.k w u L) (acc' : List Nat) (he : Hid (acc ++ L = acc')) (hsz : acc.length + L.length ≤ 1000000) (hbase : base ≤ w.heap.size)
    (h : ∀ v' w', w'.ownsRow base R.e 1 v' acc'.length (kc R.k acc') → Below base w w' → wpList Try.prog ops Q rest (ac.put o.dst v') w') : wpList Try.prog ops Q (o :: rest) ac w := by
  obtain ⟨i0, hi, hz0, hz1, hz2⟩ := info_parts R.hi
  have h8 := R.hb8
  rw [← he.out, kc_append, List.length_append] at h
  obtain ⟨a, cap, rfl, hc, hm, hrest⟩ := hu
  match a, hrest with
  | none, hrest =>
    have h0 : L.length = 0 ∧ cap = 0 := by
      rcases hrest with ⟨_, h0, h1⟩ | ⟨_, h0, _⟩
      · exact ⟨h0, h1⟩
      · cases h0
    have ht : L = [] := List.eq_nil_of_length_eq_zero h0.1
    subst ht
    rw [h0.2] at hx
    refine wpList_append_own_none hgd so x R.ts ho base R.e i0 1 R.hu hi v acc.length _ hs hown hx (h v w ?_ (Below.refl _ _))
    simpa [kc] using hown
  | some y, hrest =>
    refine wpList_append_own w hgd so x R.ts ho base R.e i0 (.int R.k 0) 1 R.size R.hu hi hz0 hz1 hz2 rfl (by decide) v acc.length _ hs hown y L.length cap (kc R.k L) hx (by rw [kc_length]; omega) (IsN.news (n := L.length) (cap := cap) ⟨some y, cap, rfl, hc, hm, hrest⟩) (kc_one R.k L) (by unfold maxLen; omega) (Nat.le_trans (Nat.mul_le_mul_left _ h8) (by omega)) hbase ?_
    intro v' w' ho' hg _
    exact h v' w' ho' ((Below.refl _ w).grown hg hbase (own_ge hown))
theorem made_kc (k : IntKind) (n : Nat) : (madeCells (Value.int k 0).cells (n * 1)).toList = kc k (List.replicate n 0) := by
  apply List.ext_getElem?
  intro i
  rw [Nat.mul_one]
  unfold madeCells kc
  by_cases h : i < n
  · have h1 : i % 1 = 0 := Nat.mod_one i
    simp [h, Value.cells, h1]
  · simp [h]
/-- make of so many noughts. -/
theorem wpList_make_n (R : KR) (w : World) {ops : Array Oper} {rest : List Oper} {o : Oper} {a : Act} {Q : Exit → Act → World → Prop}
    (hg : o.guard = none) (l c : Operand) (hop : o.op = Op.makeSlice R.ts l c) (kl kcc : IntKind) (N C : Int) (n : Nat) (hl : a.eval l = .int kl N) (hc : a.eval c = .int kcc C) (hL : N = (n : Int)) (hC : C = (n : Int)) (hn : n ≤ 1000000)
    (hK : ∀ w', w'.ownsRow w.heap.size R.e 1 (.slice (some ⟨w.heap.size, 0, none⟩) n n) (List.replicate n 0).length (kc R.k (List.replicate n 0)) → Below w.heap.size w w' → wpList Try.prog ops Q rest (a.put o.dst (.slice (some ⟨w.heap.size, 0, none⟩) n n)) w') :
    wpList Try.prog ops Q (o :: rest) a w := by
  obtain ⟨i0, hi, hz0, hz1, hz2⟩ := info_parts R.hi
  have h8 := R.hb8
  refine wpList_make_full w hg l c R.ts hop w.heap.size R.e i0 (.int R.k 0) 1 R.hu hi hz0 hz1 kl kcc N C n hl hc hL hC (by rw [hz2]; exact Nat.le_trans (Nat.mul_le_mul h8 hn) (by omega)) (by unfold maxLen; omega) (Nat.le_refl _) ?_
  intro w' ho hgr
  rw [made_kc] at ho
  exact hK w' (by rw [List.length_replicate]; exact ho) ((Below.refl _ w).grown hgr (Nat.le_refl _) (fun k h => by cases h))
/-- A number of a row that is owned, and another in its place. -/
theorem own_setN {k : IntKind} {e : TypeId} {w : World} {base : Nat} {v : Value} {L : List Nat} (h : w.ownsRow base e 1 v L.length (kc k L)) {i n : Nat} (hn : L[i]? = some n) :
    ∃ g cap, v = .slice (some ⟨g, 0, none⟩) L.length cap ∧ L.length ≤ cap ∧ base ≤ g ∧ g < w.heap.size ∧ w.cell? ⟨g, i, none⟩ = some (.int k (n : Int)) ∧ w.frozen? ⟨g, i, none⟩ = false ∧ ∀ m : Nat, (w.setCell ⟨g, i, none⟩ (.int k (m : Int))).ownsRow base e 1 v (L.set i m).length (kc k (L.set i m)) := by
  have hi : i < L.length := (List.getElem?_eq_some_iff.1 hn).1
  obtain ⟨g, cap, h1, h2, h3, h4, h5, h6, h7⟩ := own_set h hi
  refine ⟨g, cap, h1, h2, h3, h4, by rw [h5, kc_at hn], h6, fun m => ?_⟩
  rw [← kc_set, List.length_set]
  exact h7 _
/-- The same, where it lies. -/
theorem own_setG {k : IntKind} {e : TypeId} {w : World} {base g m c : Nat} {L : List Nat} (h : w.ownsRow base e 1 (.slice (some ⟨g, 0, none⟩) m c) L.length (kc k L)) {i n : Nat} (hn : L[i]? = some n) :
    m = L.length ∧ L.length ≤ c ∧ base ≤ g ∧ g < w.heap.size ∧ w.cell? ⟨g, i, none⟩ = some (.int k (n : Int)) ∧ w.frozen? ⟨g, i, none⟩ = false ∧ ∀ q : Nat, (w.setCell ⟨g, i, none⟩ (.int k (q : Int))).ownsRow base e 1 (.slice (some ⟨g, 0, none⟩) m c) (L.set i q).length (kc k (L.set i q)) := by
  obtain ⟨g', cap, h1, h2, h3, h4, h5, h6, h7⟩ := own_setN h hn
  simp only [Value.slice.injEq, Option.some.injEq, Addr.mk.injEq, and_true] at h1
  obtain ⟨h1, h8, h9⟩ := h1
  subst h1 h9
  exact ⟨h8, h2, h3, h4, h5, h6, h7⟩
theorem atN_some {L : List Nat} {i : Nat} (h : i < L.length) : L[i]? = some (atN L i) := by
  unfold atN
  rw [List.getElem?_eq_getElem h]
  rfl
end Go.Proofs.Ythdoginhbhdmbaa
