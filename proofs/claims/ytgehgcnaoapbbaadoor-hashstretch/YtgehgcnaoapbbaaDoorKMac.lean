/-
  Package hash: the keyed digest.
-/
import Derived.Test.YtgehgcnaoapbbaaDoorHFreeDEtc
import Derived.Deep.MidRow
namespace Go.Proofs.YtgehgcnaoapbbaaDoor
open Go.RowKit Ch
set_option maxRecDepth 100000

theorem until_two {P : Program} {ops : Array Oper} {Q : Exit → Act → World → Prop} {md : Region.Mode} {S : World → Prop} {z i j : Nat} {oi oj : Oper} {n : Nat} {listed : Array Bool} {a : Act} {w : World} (hi : ops[i]? = some oi) (hj : ops[j]? = some oj) (hr : Region.ready md ops listed = [i, j])
    (h1 : ∀ K' : Act → World → Prop, Hid (∀ b u, (i ≠ z → S u) → ((i ≠ z → S u) → Until P md ops Q S z n (listed.setIfInBounds i true) b u) → K' b u) → if Region.wanted oi (yielded ops a.tmps) = true then Oper.wp P oi a w K' Q else K' (a.put oi.dst undef) w)
    (h2 : ∀ K' : Act → World → Prop, Hid (∀ b u, (j ≠ z → S u) → ((j ≠ z → S u) → Until P md ops Q S z n (listed.setIfInBounds j true) b u) → K' b u) → if Region.wanted oj (yielded ops a.tmps) = true then Oper.wp P oj a w K' Q else K' (a.put oj.dst undef) w) : Until P md ops Q S z (n + 1) listed a w := by
  constructor
  · intro h0; rw [h0] at hr; cases hr
  · intro k hk
    rw [hr] at hk
    rcases List.mem_cons.1 hk with rfl | hk
    · exact wpOp_step hi (fun K' hK => h1 K' (fun b u hS hU => hK b u ⟨hS, hU hS⟩))
    · obtain rfl := List.mem_singleton.1 hk
      exact wpOp_step hj (fun K' hK => h2 K' (fun b u hS hU => hK b u ⟨hS, hU hS⟩))
theorem step_store_row {P : Program} {ops : Array Oper} {o : Oper} {a : Act} {w : World} {K : Act → World → Prop} {Q : Exit → Act → World → Prop} {E : Prop} (hgd : o.guard = none) (ty : TypeId) (x y : Operand) (ho : o.op = .store ty x y)
    (g : Nat) (cells : Array Value) (hx : a.eval x = .pointer (some ⟨g, 0, none⟩)) (hy : a.eval y = .agg cells)
    (t : TypeId) (old : Array Value) (hg : w.heap[g]? = some (.cells old t (0, 0))) (hi : (P.info? ty).map (·.size) = some cells.size)
    (hold : old.size = cells.size) (h1 : cells.all (·.oneCell') = true) (h : K (a.put o.dst undef) (w.setRow g cells)) : if Region.wanted o (yielded ops a.tmps) = true then Oper.wp P o a w K Q else E := by
  have hw : Region.wanted o (yielded ops a.tmps) = true := by simp [Region.wanted, hgd]
  rw [if_pos hw]
  exact wp_store_row ty x y ho g cells hx hy t old hg hi hold h1 h
theorem gen_world {F : World → Prop} {p : World → Prop} {W : World} (hp : p W) (h : ∀ W, p W → F W) : F W := h W hp
theorem range_later {W W' : World} {kb o : Nat} {l : List Value} (h : W.rangeAt kb o l) (hk : kb < W.heap.size) (hb : Below W.heap.size W W') : W'.rangeAt kb o l := fun j v hv => (hb.cell (p := ⟨kb, o + j, none⟩) hk).trans (h j v hv)
set_option maxHeartbeats 2000000 in
theorem kKmac_any (kb : Nat) (l1 l2 : List Value) (m1 m2 : List UInt8) (v : Value) (ls : List ByteArray) (w : World) (hk : w.heap[kb]? = some (.cells (l1 ++ l2).toArray 60 (0, 0))) (hV1 : DgV l1.toArray m1 64) (hV2 : DgV l2.toArray m2 64) (hm1 : m1.length = 64) (hm2 : m2.length = 64) (hI : IsSl w v ls) (hK : KTab w) (hl : (flatB ls).length ≤ 800000) (hn : ls.length ≤ 1000000) :
    Calls Tryd.prog 26 #[.pointer (some ⟨kb, 0, none⟩), v] w fun e w' => e = .returned (.agg (Lib.byteCells (shaL (m2 ++ shaL (m1 ++ flatB ls)))).toArray) ∧ Below w.heap.size w w' := by
  obtain ⟨hz, hi⟩ := zero_of_info infoDig
  have hN0 := heap_push_at w (.cells zero32b 54)
  have hb0 : Below w.heap.size w (w.alloc (.cells zero32b 54)) := (Below.refl _ w).alloc (Nat.le_refl _) _
  have hkl := block_lt hk
  have hl1 : l1.length = 74 := by have := hV1.1; rwa [List.size_toArray] at this
  have hl2 : l2.length = 74 := by have := hV2.1; rwa [List.size_toArray] at this
  have hr1 : w.rangeAt kb 0 l1 := fun j u hj => by
    rw [Nat.zero_add]
    exact block_cell j hk (by rw [List.getElem?_toArray, List.getElem?_append_left (List.getElem?_eq_some_iff.1 hj).1]; exact hj)
  have hr2 : w.rangeAt kb 74 l2 := fun j u hj => block_cell (74 + j) hk (by rw [List.getElem?_toArray, List.getElem?_append_right (by omega), hl1, Nat.add_sub_cancel_left]; exact hj)
  have hi1 : (Tryd.prog.info? 51).map (·.size) = some l1.length := by rw [hl1]; exact hi
  have hi2 : (Tryd.prog.info? 51).map (·.size) = some l2.length := by rw [hl2]; exact hi
  generalize hg : w.alloc (.cells zero32b 54) = W1 at *
  unfold zero32b at hg
  have hS0 : W1.drew.rangeAt kb 0 l1 ∧ W1.drew.rangeAt kb 74 l2 := ⟨range_later (range_later hr1 hkl hb0) (Nat.lt_of_lt_of_le hkl hb0.size) ((Below.refl _ W1).drew), range_later (range_later hr2 hkl hb0) (Nat.lt_of_lt_of_le hkl hb0.size) ((Below.refl _ W1).drew)⟩
  have hkl1 : kb < W1.heap.size := Nat.lt_of_lt_of_le hkl hb0.size
  have hSa : ∀ W, W = W1.drew.alloc (.cells zeroDig 51) → W.rangeAt kb 0 l1 ∧ W.rangeAt kb 74 l2 := fun W hW => by
    rw [hW]
    have hb : Below W1.drew.heap.size W1.drew (W1.drew.alloc (.cells zeroDig 51)) := (Below.refl _ _).alloc (Nat.le_refl _) _
    exact ⟨range_later hS0.1 hkl1 hb, range_later hS0.2 hkl1 hb⟩
  have hSb : ∀ W, W = (W1.drew.alloc (.cells zeroDig 51)).alloc (.cells zeroDig 51) → W.rangeAt kb 0 l1 ∧ W.rangeAt kb 74 l2 := fun W hW => by
    rw [hW]
    have h1 := hSa _ rfl
    have hb : Below (W1.drew.alloc (.cells zeroDig 51)).heap.size (W1.drew.alloc (.cells zeroDig 51)) ((W1.drew.alloc (.cells zeroDig 51)).alloc (.cells zeroDig 51)) := (Below.refl _ _).alloc (Nat.le_refl _) _
    have hk1 : kb < (W1.drew.alloc (.cells zeroDig 51)).heap.size := by simp; exact Nat.lt_succ_of_lt hkl1
    exact ⟨range_later h1.1 hk1 hb, range_later h1.2 hk1 hb⟩
  have hi1a : (Tryd.prog.info? 51).map (·.size) = some l1.toArray.size := by rw [List.size_toArray]; exact hi1
  have hi2a : (Tryd.prog.info? 51).map (·.size) = some l2.toArray.size := by rw [List.size_toArray]; exact hi2
  have hz1 : zeroDig.size = l1.toArray.size := by rw [hV1.1]; rfl
  have hz2 : zeroDig.size = l2.toArray.size := by rw [hV2.1]; rfl
  have hA0 : ((W1.drew.alloc (.cells zeroDig 51)).alloc (.cells zeroDig 51)).heap[W1.heap.size + 0]? = some (.cells zeroDig 51 (0, 0)) := by
    have h := heap_push_at W1.drew (.cells zeroDig 51)
    exact (((Below.refl _ _).alloc (Nat.le_refl _) _ : Below _ (W1.drew.alloc (.cells zeroDig 51)) _).block _ (block_lt h)).trans h
  have hA1 : ((W1.drew.alloc (.cells zeroDig 51)).alloc (.cells zeroDig 51)).heap[W1.heap.size + 1]? = some (.cells zeroDig 51 (0, 0)) := by
    have h := heap_push_at (W1.drew.alloc (.cells zeroDig 51)) (.cells zeroDig 51)
    have e : (W1.drew.alloc (.cells zeroDig 51)).heap.size = W1.heap.size + 1 := by simp
    rwa [e] at h
  have hA2 : ∀ i o : Nat, i ≤ 1 → o ≤ 1 → i ≠ o → ((((W1.drew.alloc (.cells zeroDig 51)).alloc (.cells zeroDig 51))).setRow (W1.heap.size + i) l1.toArray).heap[W1.heap.size + o]? = some (.cells zeroDig 51 (0, 0)) := fun i o hi ho hio => by
    rw [setRow_other (by omega)]
    rcases (by omega : o = 0 ∨ o = 1) with rfl | rfl
    · exact hA0
    · exact hA1
  have hSc : ∀ i : Nat, i ≤ 1 → ((((W1.drew.alloc (.cells zeroDig 51)).alloc (.cells zeroDig 51))).setRow (W1.heap.size + i) l1.toArray).rangeAt kb 0 l1 ∧ ((((W1.drew.alloc (.cells zeroDig 51)).alloc (.cells zeroDig 51))).setRow (W1.heap.size + i) l1.toArray).rangeAt kb 74 l2 := fun i hi => by
    have h := hSb _ rfl
    have hb : Below W1.heap.size ((W1.drew.alloc (.cells zeroDig 51)).alloc (.cells zeroDig 51)) ((((W1.drew.alloc (.cells zeroDig 51)).alloc (.cells zeroDig 51))).setRow (W1.heap.size + i) l1.toArray) := below_setRow (Below.refl _ _) (Nat.le_add_right _ _) _
    exact ⟨fun j v hv => (hb.cell (p := ⟨kb, 0 + j, none⟩) hkl1).trans (h.1 j v hv), fun j v hv => (hb.cell (p := ⟨kb, 74 + j, none⟩) hkl1).trans (h.2 j v hv)⟩
  have hW : ∀ i o : Nat, i ≤ 1 → o ≤ 1 → i ≠ o → ((((W1.drew.alloc (.cells zeroDig 51)).alloc (.cells zeroDig 51)).setRow (W1.heap.size + i) l1.toArray).setRow (W1.heap.size + o) l2.toArray).heap[W1.heap.size + i]? = some (.cells l1.toArray 51 (0, 0)) ∧ ((((W1.drew.alloc (.cells zeroDig 51)).alloc (.cells zeroDig 51)).setRow (W1.heap.size + i) l1.toArray).setRow (W1.heap.size + o) l2.toArray).heap[W1.heap.size + o]? = some (.cells l2.toArray 51 (0, 0)) ∧ Below W1.heap.size W1 ((((W1.drew.alloc (.cells zeroDig 51)).alloc (.cells zeroDig 51)).setRow (W1.heap.size + i) l1.toArray).setRow (W1.heap.size + o) l2.toArray) ∧ ((((W1.drew.alloc (.cells zeroDig 51)).alloc (.cells zeroDig 51)).setRow (W1.heap.size + i) l1.toArray).setRow (W1.heap.size + o) l2.toArray).heap.size = W1.heap.size + 2 := fun i o hi ho hio => by
    have h0 : ((W1.drew.alloc (.cells zeroDig 51)).alloc (.cells zeroDig 51)).heap[W1.heap.size + i]? = some (.cells zeroDig 51 (0, 0)) := by
      rcases (by omega : i = 0 ∨ i = 1) with rfl | rfl
      · exact hA0
      · exact hA1
    refine ⟨(setRow_other (by omega)).trans (setRow_block h0), setRow_block (hA2 i o hi ho hio), below_setRow (below_setRow ((((Below.refl _ W1).drew).alloc (Nat.le_refl _) _).alloc (by simp) _) (Nat.le_add_right _ _) _) (Nat.le_add_right _ _) _, ?_⟩
    rw [setRow_size, setRow_size]
    simp
  go_enter Tryd.func26, Tryd.ntmps26
  go_wp2_with fail
  refine until_region (S := fun wS => wS.rangeAt kb 0 l1 ∧ wS.rangeAt kb 74 l2) (z := 11) (by kernel_rfl) hS0 (fun hS => ?_)
  replace hS : W1.drew.rangeAt kb 0 l1 ∧ W1.drew.rangeAt kb 74 l2 := hS
  refine until_take (i := 0) (oi := { dst := some 8, op := Go.Op.move (Go.Operand.tmp 0), type := 73, pos := "hash.go:85", after := #[], guard := none }) (v := ?v1) rfl (by kernel_rfl) (by kernel_rfl) (by kernel_rfl) (by kernel_rfl) (fun _ _ _ h => h) (Or.inl ⟨by rfl, ?h1⟩) hS ?r1
  case h1 =>
    intro wS hSw
    go_simp
    try with_reducible rfl
  simp only [Act.put, List.setIfInBounds_toArray, List.set_cons_zero, List.set_cons_succ]
  refine until_take (i := 1) (oi := { dst := some 9, op := Go.Op.nilCheck (Go.Operand.tmp 8), type := 0, pos := "hash.go:85", after := #[{ on := 0, ground := Go.Ground.data }], guard := none }) (v := ?v2) rfl (by kernel_rfl) (by kernel_rfl) (by kernel_rfl) (by kernel_rfl) (fun _ _ _ h => h) (Or.inl ⟨by rfl, ?h2⟩) hS ?r2
  case h2 =>
    intro wS hSw
    go_simp
    try with_reducible rfl
  simp only [Act.put, List.setIfInBounds_toArray, List.set_cons_zero, List.set_cons_succ]
  refine until_take (i := 2) (oi := { dst := some 10, op := Go.Op.fieldAddr 60 (Go.Operand.tmp 9) 0, type := 0, pos := "hash.go:85", after := #[{ on := 1, ground := Go.Ground.data }], guard := none }) (v := ?v3) rfl (by kernel_rfl) (by kernel_rfl) (by kernel_rfl) (by kernel_rfl) (fun _ _ _ h => h) (Or.inl ⟨by rfl, ?h3⟩) hS ?r3
  case h3 =>
    intro wS hSw
    go_simp
    try with_reducible rfl
  simp only [Act.put, List.setIfInBounds_toArray, List.set_cons_zero, List.set_cons_succ]
  refine until_take (i := 3) (oi := { dst := some 11, op := Go.Op.load 51 (Go.Operand.tmp 10), type := 51, pos := "hash.go:85", after := #[{ on := 2, ground := Go.Ground.data }], guard := none }) (v := .agg l1.toArray) rfl (by kernel_rfl) (by kernel_rfl) (by kernel_rfl) (by kernel_rfl) (fun _ _ _ h => h) (yieldsIf_load_mid (by rfl) 51 (.tmp 10) rfl kb 0 (by rfl) l1 _ (fun w h => h.1) Tryd.underlying51 rfl hi1) hS ?_
  simp only [Act.put, List.setIfInBounds_toArray, List.set_cons_zero, List.set_cons_succ]
  refine until_take (i := 4) (oi := { dst := some 12, op := Go.Op.move (Go.Operand.tmp 0), type := 73, pos := "hash.go:85", after := #[], guard := none }) (v := ?v5) rfl (by kernel_rfl) (by kernel_rfl) (by kernel_rfl) (by kernel_rfl) (fun _ _ _ h => h) (Or.inl ⟨by rfl, ?h5⟩) hS ?r5
  case h5 =>
    intro wS hSw
    go_simp
    try with_reducible rfl
  simp only [Act.put, List.setIfInBounds_toArray, List.set_cons_zero, List.set_cons_succ]
  refine until_take (i := 5) (oi := { dst := some 13, op := Go.Op.nilCheck (Go.Operand.tmp 12), type := 0, pos := "hash.go:85", after := #[{ on := 4, ground := Go.Ground.data }], guard := none }) (v := ?v6) rfl (by kernel_rfl) (by kernel_rfl) (by kernel_rfl) (by kernel_rfl) (fun _ _ _ h => h) (Or.inl ⟨by rfl, ?h6⟩) hS ?r6
  case h6 =>
    intro wS hSw
    go_simp
    try with_reducible rfl
  simp only [Act.put, List.setIfInBounds_toArray, List.set_cons_zero, List.set_cons_succ]
  refine until_take (i := 6) (oi := { dst := some 14, op := Go.Op.fieldAddr 60 (Go.Operand.tmp 13) 1, type := 0, pos := "hash.go:85", after := #[{ on := 5, ground := Go.Ground.data }], guard := none }) (v := ?v7) rfl (by kernel_rfl) (by kernel_rfl) (by kernel_rfl) (by kernel_rfl) (fun _ _ _ h => h) (Or.inl ⟨by rfl, ?h7⟩) hS ?r7
  case h7 =>
    intro wS hSw
    go_simp
    try with_reducible rfl
  simp only [Act.put, List.setIfInBounds_toArray, List.set_cons_zero, List.set_cons_succ]
  refine until_take (i := 7) (oi := { dst := some 15, op := Go.Op.load 51 (Go.Operand.tmp 14), type := 51, pos := "hash.go:85", after := #[{ on := 6, ground := Go.Ground.data }], guard := none }) (v := .agg l2.toArray) rfl (by kernel_rfl) (by kernel_rfl) (by kernel_rfl) (by kernel_rfl) (fun _ _ _ h => h) (yieldsIf_load_mid (by rfl) 51 (.tmp 14) rfl kb 74 (by rfl) l2 _ (fun w h => h.2) Tryd.underlying51 rfl hi2) hS ?_
  simp only [Act.put, List.setIfInBounds_toArray, List.set_cons_zero, List.set_cons_succ]
  refine until_two (i := 8) (j := 9) (oi := { dst := some 5, op := Go.Op.alloc 51, type := 0, pos := "hash.go:85", after := #[], guard := none }) (oj := { dst := some 6, op := Go.Op.alloc 51, type := 0, pos := "hash.go:85", after := #[], guard := none }) rfl rfl (by kernel_rfl) (fun K hK => ?_) (fun K hK => ?_)
  · go_simp
    refine hK.out _ _ (fun _ => hSa _ rfl) (fun hS' => ?_)
    clear hK K hS'
    refine until_one (i := 9) (oi := { dst := some 6, op := Go.Op.alloc 51, type := 0, pos := "hash.go:85", after := #[], guard := none }) rfl (by kernel_rfl) (fun K hK => ?_)
    go_simp
    refine hK.out _ _ (fun _ => hSb _ rfl) (fun hS' => ?_)
    clear hK K hS'
    refine until_one (i := 10) (oi := { dst := none, op := Go.Op.store 51 (Go.Operand.tmp 5) (Go.Operand.tmp 11), type := 0, pos := "hash.go:85", after := #[{ on := 8, ground := Go.Ground.data }, { on := 3, ground := Go.Ground.data }, { on := 0, ground := Go.Ground.phase }, { on := 1, ground := Go.Ground.phase }, { on := 2, ground := Go.Ground.phase }, { on := 3, ground := Go.Ground.phase }, { on := 4, ground := Go.Ground.textOnly Go.Departure.lateStores }, { on := 5, ground := Go.Ground.textOnly Go.Departure.lateStoresUnsure }, { on := 6, ground := Go.Ground.textOnly Go.Departure.lateStoresUnsure }, { on := 7, ground := Go.Ground.phase }, { on := 8, ground := Go.Ground.phase }, { on := 9, ground := Go.Ground.phase }], guard := none }) rfl (by kernel_rfl) (fun K hK => ?_)
    refine step_store_row rfl 51 _ _ rfl (W1.heap.size + 0) l1.toArray (by rfl) (by rfl) 51 zeroDig (by first | exact hA0 | exact hA1) hi1a hz1 hV1.2.1 ?_
    refine hK.out _ _ (fun _ => hSc 0 (by omega)) (fun hS' => ?_)
    clear hK K hS'
    refine until_one (i := 11) (oi := { dst := none, op := Go.Op.store 51 (Go.Operand.tmp 6) (Go.Operand.tmp 15), type := 0, pos := "hash.go:85", after := #[{ on := 9, ground := Go.Ground.data }, { on := 7, ground := Go.Ground.data }, { on := 10, ground := Go.Ground.chain }, { on := 0, ground := Go.Ground.phase }, { on := 1, ground := Go.Ground.phase }, { on := 2, ground := Go.Ground.phase }, { on := 3, ground := Go.Ground.phase }, { on := 4, ground := Go.Ground.phase }, { on := 5, ground := Go.Ground.phase }, { on := 6, ground := Go.Ground.phase }, { on := 7, ground := Go.Ground.phase }, { on := 8, ground := Go.Ground.phase }, { on := 9, ground := Go.Ground.phase }, { on := 10, ground := Go.Ground.phase }], guard := none }) rfl (by kernel_rfl) (fun K hK => ?_)
    refine step_store_row rfl 51 _ _ rfl (W1.heap.size + 1) l2.toArray (by rfl) (by rfl) 51 zeroDig (hA2 0 1 (by omega) (by omega) (by omega)) hi2a hz2 hV2.2.1 ?_
    refine hK.out _ _ (fun h => absurd rfl h) (fun hS' => ?_)
    clear hK K hS'
    refine until_done (by kernel_rfl) ?_ _
    refine gen_world (p := fun W => W.heap[W1.heap.size + 0]? = some (.cells l1.toArray 51 (0, 0)) ∧ W.heap[W1.heap.size + 1]? = some (.cells l2.toArray 51 (0, 0)) ∧ Below W1.heap.size W1 W ∧ W.heap.size = W1.heap.size + 2) (hW 0 1 (by omega) (by omega) (by omega)) ?_
    rintro W9 ⟨q1, q2, q3, q4⟩
    clear hS hS0 hSa hSb hSc hA0 hA1 hA2 hW hr1 hr2
    have hw1 := block_lt hN0
    have hbw9 : Below w.heap.size w W9 := hb0.trans (q3.mono hb0.size)
    have hD1 : Dg (W1.heap.size + 0) m1 m1.length W9 := by rw [hm1]; exact hV1.2.2 _ _ q1
    have hK9 := hK.later hbw9
    have hne1 : W1.heap.size + 0 ≠ 0 := by have := hK.lt; omega
    have hne2 : W1.heap.size + 1 ≠ 0 := by have := hK.lt; omega
    have hsl := hI.slices (db := W1.heap.size + 0) hbw9 (by omega)
    have hR9 : W9.heap[w.heap.size]? = some (.cells zero32b 54 (0, 0)) := (q3.block _ hw1).trans hN0
    have hAdd := kAdd_any (W1.heap.size + 0) v ls m1 W9 hD1 hsl hK9 hne1 (by omega) hn
    go_wp2_with fail
    refine hAdd.mono ?_
    rintro e wa ⟨rfl, hDa, hka⟩
    have hKa := hK9.keepD hne1 hka
    have hEnd := kEnd_any (W1.heap.size + 0) (m1 ++ flatB ls) wa hDa hKa hne1 (by rw [List.length_append]; omega)
    clear hAdd hD1 hsl
    go_wp2_with fail
    refine hEnd.mono ?_
    rintro e wb ⟨rfl, hkb⟩
    have hkab := hka.trans hkb
    have hKb := hK9.keepD hne1 hkab
    have hsb := hkab.size
    have q2b : wb.heap[W1.heap.size + 1]? = some (.cells l2.toArray 51 (0, 0)) := (hkab.block _ (by omega) (by omega)).trans q2
    have hRb : wb.heap[w.heap.size]? = some (.cells zero32b 54 (0, 0)) := (hkab.block _ (by omega) (by omega)).trans hR9
    have hbb : Below w.heap.size w wb := hbw9.trans (hkab.below (by omega) hbw9.size)
    have hSl := shaL_length (m1 ++ flatB ls)
    obtain ⟨SH, hSH⟩ : ∃ SH, shaL (m1 ++ flatB ls) = SH := ⟨_, rfl⟩
    have HSH := show Hid (shaL (m1 ++ flatB ls) = SH) from hSH
    rw [hSH] at hSl ⊢
    clear hSH hEnd hDa
    have hcl : (Lib.byteCells SH).toArray.size = 32 := by rw [List.size_toArray]; simp [Lib.byteCells, hSl]
    have hN5 := heap_push_at wb (.cells zero32b 54)
    have hi32 : (Tryd.prog.info? 54).map (·.size) = some (Lib.byteCells SH).toArray.size := by rw [hcl]; kernel_rfl
    have hzs : zero32b.size = (Lib.byteCells SH).toArray.size := by rw [hcl]; rfl
    have hS6 := setRow_block (D := (Lib.byteCells SH).toArray) hN5
    have hb6 : Below wb.heap.size wb ((wb.alloc (.cells zero32b 54)).setRow wb.heap.size (Lib.byteCells SH).toArray) := below_setRow ((Below.refl _ wb).alloc (Nat.le_refl _) _) (Nat.le_refl _) _
    have hz6 : ((wb.alloc (.cells zero32b 54)).setRow wb.heap.size (Lib.byteCells SH).toArray).heap.size = wb.heap.size + 1 := by rw [setRow_size]; simp
    have hone6 := sha_cells SH
    unfold zero32b at hN5 hzs hS6 hb6 hz6
    go_wp2_with (refine wpList_store_row rfl 54 _ _ rfl wb.heap.size (Lib.byteCells SH).toArray rfl (by simp [Act.eval]) _ _ hN5 hi32 hzs hone6 ?_)
    generalize (wb.alloc (.cells #[.int .u8 0, .int .u8 0, .int .u8 0, .int .u8 0, .int .u8 0, .int .u8 0, .int .u8 0, .int .u8 0, .int .u8 0, .int .u8 0, .int .u8 0, .int .u8 0, .int .u8 0, .int .u8 0, .int .u8 0, .int .u8 0, .int .u8 0, .int .u8 0, .int .u8 0, .int .u8 0, .int .u8 0, .int .u8 0, .int .u8 0, .int .u8 0, .int .u8 0, .int .u8 0, .int .u8 0, .int .u8 0, .int .u8 0, .int .u8 0, .int .u8 0, .int .u8 0] 54)).setRow wb.heap.size (Lib.byteCells SH).toArray = Wc at *
    have hIB := bytes_in hS6 hSl (by omega)
    have hbd : Below wb.heap.size wb (Wc.alloc (.cells #[.slice (some ⟨wb.heap.size, 0, none⟩) 32 32] 23)) := hb6.alloc hb6.size _
    have hN7 := heap_push_at Wc (.cells #[.slice (some ⟨wb.heap.size, 0, none⟩) 32 32] 23)
    rw [hz6] at hN7
    have hD7 : Dg (W1.heap.size + 1) m2 m2.length (Wc.alloc (.cells #[.slice (some ⟨wb.heap.size, 0, none⟩) 32 32] 23)) := by rw [hm2]; exact hV2.2.2 _ _ ((hbd.block _ (by omega)).trans q2b)
    have hO7 : Off (W1.heap.size + 1) (.slice (some ⟨wb.heap.size, 0, none⟩) 32 32) := by
      intro y _ _ h _
      simp only [Value.slice.injEq, Option.some.injEq] at h
      rw [← h.1]
      show wb.heap.size ≠ W1.heap.size + 1
      omega
    have hI7 : IsSlices (W1.heap.size + 1) (Wc.alloc (.cells #[.slice (some ⟨wb.heap.size, 0, none⟩) 32 32] 23)) (.slice (some ⟨wb.heap.size + 1, 0, none⟩) 1 1) [⟨SH.toArray⟩] := by
      refine ⟨_, 1, rfl, .inr ⟨wb.heap.size + 1, 0, rfl, by omega, block_lt hN7, fun i t ht => ?_⟩⟩
      rcases i with _ | i
      · simp only [List.getElem?_cons_zero, Option.some.injEq] at ht
        subst ht
        exact ⟨_, block_cell 0 hN7 rfl, hIB.alloc _, hO7⟩
      · cases ht
    have hfl : flatB [⟨SH.toArray⟩] = SH := by simp [flatB]
    have hK7 := hKb.later hbd
    have hAdd2 := kAdd_any (W1.heap.size + 1) (.slice (some ⟨wb.heap.size + 1, 0, none⟩) 1 1) [⟨SH.toArray⟩] m2 _ hD7 hI7 hK7 hne2 (by rw [hfl, hSl]; omega) (by simp)
    rw [hfl] at hAdd2
    refine hAdd2.mono ?_
    rintro e wd ⟨rfl, hDd, hkd⟩
    have hEnd2 := kEnd_any (W1.heap.size + 1) (m2 ++ SH) wd hDd (hK7.keepD hne2 hkd) hne2 (by rw [List.length_append]; omega)
    clear hAdd2 hD7 hI7
    go_wp2_with fail
    refine hEnd2.mono ?_
    rintro e we ⟨rfl, hke⟩
    have hkde := hkd.trans hke
    have hsd := hbd.size
    have hRe : we.heap[w.heap.size]? = some (.cells zero32b 54 (0, 0)) := (hkde.block _ (by omega) (by omega)).trans ((hbd.block _ (by omega)).trans hRb)
    have hbe : Below w.heap.size w we := (hbb.trans (hbd.mono hbb.size)).trans (hkde.below (by omega) (by omega))
    have hSl2 := shaL_length (m2 ++ SH)
    obtain ⟨S2, hS2⟩ : ∃ S2, shaL (m2 ++ SH) = S2 := ⟨_, rfl⟩
    have HS2 := show Hid (shaL (m2 ++ SH) = S2) from hS2
    rw [hS2] at hSl2 ⊢
    clear hS2 hEnd2 hDd
    have hcl2 : (Lib.byteCells S2).toArray.size = 32 := by rw [List.size_toArray]; simp [Lib.byteCells, hSl2]
    have hi322 : (Tryd.prog.info? 54).map (·.size) = some (Lib.byteCells S2).toArray.size := by rw [hcl2]; kernel_rfl
    have hzs2 : zero32b.size = (Lib.byteCells S2).toArray.size := by rw [hcl2]; rfl
    have hone2 := sha_cells S2
    go_wp2_with (refine wpList_store_row rfl 54 _ _ rfl w.heap.size (Lib.byteCells S2).toArray rfl (by simp [Act.eval]) _ _ hRe hi322 hzs2 hone2 ?_)
    refine bodyPost_ret (v := .agg (Lib.byteCells S2).toArray) ?_ rfl ⟨by rw [HSH.out, HS2.out], below_setRow hbe (Nat.le_refl _) _⟩
    exact results_cell_row rfl _ _ w.heap.size _ _ _ _ rfl (setRow_block hRe) Tryd.underlying54 rfl hi322
  · go_simp
    refine hK.out _ _ (fun _ => hSa _ rfl) (fun hS' => ?_)
    clear hK K hS'
    refine until_one (i := 8) (oi := { dst := some 5, op := Go.Op.alloc 51, type := 0, pos := "hash.go:85", after := #[], guard := none }) rfl (by kernel_rfl) (fun K hK => ?_)
    go_simp
    refine hK.out _ _ (fun _ => hSb _ rfl) (fun hS' => ?_)
    clear hK K hS'
    refine until_one (i := 10) (oi := { dst := none, op := Go.Op.store 51 (Go.Operand.tmp 5) (Go.Operand.tmp 11), type := 0, pos := "hash.go:85", after := #[{ on := 8, ground := Go.Ground.data }, { on := 3, ground := Go.Ground.data }, { on := 0, ground := Go.Ground.phase }, { on := 1, ground := Go.Ground.phase }, { on := 2, ground := Go.Ground.phase }, { on := 3, ground := Go.Ground.phase }, { on := 4, ground := Go.Ground.textOnly Go.Departure.lateStores }, { on := 5, ground := Go.Ground.textOnly Go.Departure.lateStoresUnsure }, { on := 6, ground := Go.Ground.textOnly Go.Departure.lateStoresUnsure }, { on := 7, ground := Go.Ground.phase }, { on := 8, ground := Go.Ground.phase }, { on := 9, ground := Go.Ground.phase }], guard := none }) rfl (by kernel_rfl) (fun K hK => ?_)
    refine step_store_row rfl 51 _ _ rfl (W1.heap.size + 1) l1.toArray (by rfl) (by rfl) 51 zeroDig (by first | exact hA0 | exact hA1) hi1a hz1 hV1.2.1 ?_
    refine hK.out _ _ (fun _ => hSc 1 (by omega)) (fun hS' => ?_)
    clear hK K hS'
    refine until_one (i := 11) (oi := { dst := none, op := Go.Op.store 51 (Go.Operand.tmp 6) (Go.Operand.tmp 15), type := 0, pos := "hash.go:85", after := #[{ on := 9, ground := Go.Ground.data }, { on := 7, ground := Go.Ground.data }, { on := 10, ground := Go.Ground.chain }, { on := 0, ground := Go.Ground.phase }, { on := 1, ground := Go.Ground.phase }, { on := 2, ground := Go.Ground.phase }, { on := 3, ground := Go.Ground.phase }, { on := 4, ground := Go.Ground.phase }, { on := 5, ground := Go.Ground.phase }, { on := 6, ground := Go.Ground.phase }, { on := 7, ground := Go.Ground.phase }, { on := 8, ground := Go.Ground.phase }, { on := 9, ground := Go.Ground.phase }, { on := 10, ground := Go.Ground.phase }], guard := none }) rfl (by kernel_rfl) (fun K hK => ?_)
    refine step_store_row rfl 51 _ _ rfl (W1.heap.size + 0) l2.toArray (by rfl) (by rfl) 51 zeroDig (hA2 1 0 (by omega) (by omega) (by omega)) hi2a hz2 hV2.2.1 ?_
    refine hK.out _ _ (fun h => absurd rfl h) (fun hS' => ?_)
    clear hK K hS'
    refine until_done (by kernel_rfl) ?_ _
    refine gen_world (p := fun W => W.heap[W1.heap.size + 1]? = some (.cells l1.toArray 51 (0, 0)) ∧ W.heap[W1.heap.size + 0]? = some (.cells l2.toArray 51 (0, 0)) ∧ Below W1.heap.size W1 W ∧ W.heap.size = W1.heap.size + 2) (hW 1 0 (by omega) (by omega) (by omega)) ?_
    rintro W9 ⟨q1, q2, q3, q4⟩
    clear hS hS0 hSa hSb hSc hA0 hA1 hA2 hW hr1 hr2
    have hw1 := block_lt hN0
    have hbw9 : Below w.heap.size w W9 := hb0.trans (q3.mono hb0.size)
    have hD1 : Dg (W1.heap.size + 1) m1 m1.length W9 := by rw [hm1]; exact hV1.2.2 _ _ q1
    have hK9 := hK.later hbw9
    have hne1 : W1.heap.size + 1 ≠ 0 := by have := hK.lt; omega
    have hne2 : W1.heap.size + 0 ≠ 0 := by have := hK.lt; omega
    have hsl := hI.slices (db := W1.heap.size + 1) hbw9 (by omega)
    have hR9 : W9.heap[w.heap.size]? = some (.cells zero32b 54 (0, 0)) := (q3.block _ hw1).trans hN0
    have hAdd := kAdd_any (W1.heap.size + 1) v ls m1 W9 hD1 hsl hK9 hne1 (by omega) hn
    go_wp2_with fail
    refine hAdd.mono ?_
    rintro e wa ⟨rfl, hDa, hka⟩
    have hKa := hK9.keepD hne1 hka
    have hEnd := kEnd_any (W1.heap.size + 1) (m1 ++ flatB ls) wa hDa hKa hne1 (by rw [List.length_append]; omega)
    clear hAdd hD1 hsl
    go_wp2_with fail
    refine hEnd.mono ?_
    rintro e wb ⟨rfl, hkb⟩
    have hkab := hka.trans hkb
    have hKb := hK9.keepD hne1 hkab
    have hsb := hkab.size
    have q2b : wb.heap[W1.heap.size + 0]? = some (.cells l2.toArray 51 (0, 0)) := (hkab.block _ (by omega) (by omega)).trans q2
    have hRb : wb.heap[w.heap.size]? = some (.cells zero32b 54 (0, 0)) := (hkab.block _ (by omega) (by omega)).trans hR9
    have hbb : Below w.heap.size w wb := hbw9.trans (hkab.below (by omega) hbw9.size)
    have hSl := shaL_length (m1 ++ flatB ls)
    obtain ⟨SH, hSH⟩ : ∃ SH, shaL (m1 ++ flatB ls) = SH := ⟨_, rfl⟩
    have HSH := show Hid (shaL (m1 ++ flatB ls) = SH) from hSH
    rw [hSH] at hSl ⊢
    clear hSH hEnd hDa
    have hcl : (Lib.byteCells SH).toArray.size = 32 := by rw [List.size_toArray]; simp [Lib.byteCells, hSl]
    have hN5 := heap_push_at wb (.cells zero32b 54)
    have hi32 : (Tryd.prog.info? 54).map (·.size) = some (Lib.byteCells SH).toArray.size := by rw [hcl]; kernel_rfl
    have hzs : zero32b.size = (Lib.byteCells SH).toArray.size := by rw [hcl]; rfl
    have hS6 := setRow_block (D := (Lib.byteCells SH).toArray) hN5
    have hb6 : Below wb.heap.size wb ((wb.alloc (.cells zero32b 54)).setRow wb.heap.size (Lib.byteCells SH).toArray) := below_setRow ((Below.refl _ wb).alloc (Nat.le_refl _) _) (Nat.le_refl _) _
    have hz6 : ((wb.alloc (.cells zero32b 54)).setRow wb.heap.size (Lib.byteCells SH).toArray).heap.size = wb.heap.size + 1 := by rw [setRow_size]; simp
    have hone6 := sha_cells SH
    unfold zero32b at hN5 hzs hS6 hb6 hz6
    go_wp2_with (refine wpList_store_row rfl 54 _ _ rfl wb.heap.size (Lib.byteCells SH).toArray rfl (by simp [Act.eval]) _ _ hN5 hi32 hzs hone6 ?_)
    generalize (wb.alloc (.cells #[.int .u8 0, .int .u8 0, .int .u8 0, .int .u8 0, .int .u8 0, .int .u8 0, .int .u8 0, .int .u8 0, .int .u8 0, .int .u8 0, .int .u8 0, .int .u8 0, .int .u8 0, .int .u8 0, .int .u8 0, .int .u8 0, .int .u8 0, .int .u8 0, .int .u8 0, .int .u8 0, .int .u8 0, .int .u8 0, .int .u8 0, .int .u8 0, .int .u8 0, .int .u8 0, .int .u8 0, .int .u8 0, .int .u8 0, .int .u8 0, .int .u8 0, .int .u8 0] 54)).setRow wb.heap.size (Lib.byteCells SH).toArray = Wc at *
    have hIB := bytes_in hS6 hSl (by omega)
    have hbd : Below wb.heap.size wb (Wc.alloc (.cells #[.slice (some ⟨wb.heap.size, 0, none⟩) 32 32] 23)) := hb6.alloc hb6.size _
    have hN7 := heap_push_at Wc (.cells #[.slice (some ⟨wb.heap.size, 0, none⟩) 32 32] 23)
    rw [hz6] at hN7
    have hD7 : Dg (W1.heap.size + 0) m2 m2.length (Wc.alloc (.cells #[.slice (some ⟨wb.heap.size, 0, none⟩) 32 32] 23)) := by rw [hm2]; exact hV2.2.2 _ _ ((hbd.block _ (by omega)).trans q2b)
    have hO7 : Off (W1.heap.size + 0) (.slice (some ⟨wb.heap.size, 0, none⟩) 32 32) := by
      intro y _ _ h _
      simp only [Value.slice.injEq, Option.some.injEq] at h
      rw [← h.1]
      show wb.heap.size ≠ W1.heap.size + 0
      omega
    have hI7 : IsSlices (W1.heap.size + 0) (Wc.alloc (.cells #[.slice (some ⟨wb.heap.size, 0, none⟩) 32 32] 23)) (.slice (some ⟨wb.heap.size + 1, 0, none⟩) 1 1) [⟨SH.toArray⟩] := by
      refine ⟨_, 1, rfl, .inr ⟨wb.heap.size + 1, 0, rfl, by omega, block_lt hN7, fun i t ht => ?_⟩⟩
      rcases i with _ | i
      · simp only [List.getElem?_cons_zero, Option.some.injEq] at ht
        subst ht
        exact ⟨_, block_cell 0 hN7 rfl, hIB.alloc _, hO7⟩
      · cases ht
    have hfl : flatB [⟨SH.toArray⟩] = SH := by simp [flatB]
    have hK7 := hKb.later hbd
    have hAdd2 := kAdd_any (W1.heap.size + 0) (.slice (some ⟨wb.heap.size + 1, 0, none⟩) 1 1) [⟨SH.toArray⟩] m2 _ hD7 hI7 hK7 hne2 (by rw [hfl, hSl]; omega) (by simp)
    rw [hfl] at hAdd2
    refine hAdd2.mono ?_
    rintro e wd ⟨rfl, hDd, hkd⟩
    have hEnd2 := kEnd_any (W1.heap.size + 0) (m2 ++ SH) wd hDd (hK7.keepD hne2 hkd) hne2 (by rw [List.length_append]; omega)
    clear hAdd2 hD7 hI7
    go_wp2_with fail
    refine hEnd2.mono ?_
    rintro e we ⟨rfl, hke⟩
    have hkde := hkd.trans hke
    have hsd := hbd.size
    have hRe : we.heap[w.heap.size]? = some (.cells zero32b 54 (0, 0)) := (hkde.block _ (by omega) (by omega)).trans ((hbd.block _ (by omega)).trans hRb)
    have hbe : Below w.heap.size w we := (hbb.trans (hbd.mono hbb.size)).trans (hkde.below (by omega) (by omega))
    have hSl2 := shaL_length (m2 ++ SH)
    obtain ⟨S2, hS2⟩ : ∃ S2, shaL (m2 ++ SH) = S2 := ⟨_, rfl⟩
    have HS2 := show Hid (shaL (m2 ++ SH) = S2) from hS2
    rw [hS2] at hSl2 ⊢
    clear hS2 hEnd2 hDd
    have hcl2 : (Lib.byteCells S2).toArray.size = 32 := by rw [List.size_toArray]; simp [Lib.byteCells, hSl2]
    have hi322 : (Tryd.prog.info? 54).map (·.size) = some (Lib.byteCells S2).toArray.size := by rw [hcl2]; kernel_rfl
    have hzs2 : zero32b.size = (Lib.byteCells S2).toArray.size := by rw [hcl2]; rfl
    have hone2 := sha_cells S2
    go_wp2_with (refine wpList_store_row rfl 54 _ _ rfl w.heap.size (Lib.byteCells S2).toArray rfl (by simp [Act.eval]) _ _ hRe hi322 hzs2 hone2 ?_)
    refine bodyPost_ret (v := .agg (Lib.byteCells S2).toArray) ?_ rfl ⟨by rw [HSH.out, HS2.out], below_setRow hbe (Nat.le_refl _) _⟩
    exact results_cell_row rfl _ _ w.heap.size _ _ _ _ rfl (setRow_block hRe) Tryd.underlying54 rfl hi322
end Go.Proofs.YtgehgcnaoapbbaaDoor
