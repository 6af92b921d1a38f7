/-
  A region that draws, without its orders, over any relation of worlds that is kept; one under which the marks of new rows may change. Of no layer alone.
-/
import Derived.Test.YthdoginhbhdmbaaHFree
import Derived.Test.YthdoginhbhdmbaaUSl
import Derived.Lib.SlBytesConst
namespace Go.Proofs.Ythdoginhbhdmbaa
open Go.RowKit
set_option maxRecDepth 100000

section
variable {P : Program} {ops : Array Oper} {Q : Exit → Act → World → Prop} {md : Region.Mode} {R : World → World → Prop}

theorem freeR_any {Sem : Nat → Value → World → Prop} {a0 : Act} {w0 : World}  (htr : ∀ a b c, R a b → R b c → R a c) (hrow : Region.inRow md ops = true) (hap : Region.apartD ops a0.tmps.size = true)
    (hmono : ∀ i v u u', Sem i v u → R u u' → Sem i v u')
    (hstep : ∀ i o a w, ops[i]? = some o → FreeIn md ops Sem a0 o a w → R w0 w → wpOp P ops Q i (fun b u => ∃ v, b = a.put o.dst v ∧ Sem i v u ∧ R w u) a w)
    (hfin : ∀ a w, FreeAt ops Sem a0 (Array.replicate ops.size true) a w → R w0 w → Q .normal a w) :
    ∀ n listed a w, (leftN ops listed).length ≤ n → FreeAt ops Sem a0 listed a w → R w0 w → wpAny P md ops Q n listed a w := by
  have hend : ∀ listed a w, Region.ready md ops listed = [] → FreeAt ops Sem a0 listed a w → R w0 w → Q .normal a w := by
    intro listed a w hr hF hb
    refine hfin a w ⟨hF.size, hF.defers, by simp, hF.out, fun i d _ hd => hF.done i d ?_ hd⟩ hb
    refine all_listed hrow hF.lsize hr i ?_
    apply Classical.byContradiction
    intro h
    rw [Array.getElem?_eq_none (by omega)] at hd
    cases hd
  intro n
  induction n with
  | zero =>
    intro listed a w hn hF hb
    have hr : Region.ready md ops listed = [] := by
      apply List.eq_nil_iff_forall_not_mem.2
      intro i hi
      obtain ⟨h1, o, ho, _⟩ := mem_ready.1 hi
      have : i ∈ leftN ops listed := mem_left.2 ⟨(Array.getElem?_eq_some_iff.1 ho).1, h1⟩
      have h0 : leftN ops listed = [] := List.eq_nil_of_length_eq_zero (by omega)
      rw [h0] at this
      cases this
    exact ⟨hr, hend _ _ _ hr hF hb⟩
  | succ n ih =>
    intro listed a w hn hF hb
    refine ⟨fun hr => hend _ _ _ hr hF hb, fun i hi => ?_⟩
    obtain ⟨h1, o, ho, hall⟩ := mem_ready.1 hi
    have hio : i < ops.size := (Array.getElem?_eq_some_iff.1 ho).1
    have hil : i < listed.size := by rw [hF.lsize]; exact hio
    have hIn : FreeIn md ops Sem a0 o a w := ⟨hF.size, hF.defers, hF.out, fun k d hk hd => by
      obtain ⟨e, he, h2⟩ : ∃ e ∈ o.after, (Region.binds md e && e.on == k) = true := by
        obtain ⟨e, he, h2⟩ := List.any_eq_true.1 hk
        exact ⟨e, by simpa using he, h2⟩
      rw [Bool.and_eq_true, beq_iff_eq] at h2
      obtain ⟨h2, rfl⟩ := h2
      exact hF.done e.on d (hall e he h2) hd⟩
    refine wpOp_mono (fun b u h => ?_) (hstep i o a w ho hIn hb)
    obtain ⟨v, rfl, hS, hbu⟩ := h
    refine ih _ _ _ (by have := leftN_set (mem_left.2 ⟨hio, h1⟩) hF.lsize; omega) ?_ (htr _ _ _ hb hbu)
    have hA := List.all_eq_true.1 hap i (List.mem_range.2 hio)
    rw [Bool.and_eq_true] at hA
    obtain ⟨hA1, hA2⟩ := hA
    rw [ho, Option.bind_some] at hA1
    refine ⟨?_, ?_, by simp [hF.lsize], fun k hk => ?_, fun j d hj hd => ?_⟩
    · unfold Act.put
      split
      · simp [hF.size]
      · exact hF.size
    · unfold Act.put
      split <;> exact hF.defers
    · have := List.all_eq_true.1 hk o (by simpa using Array.mem_of_getElem? ho)
      unfold Act.put
      split
      · rename_i d hd
        rw [hd] at this
        have hdk : d ≠ k := by simpa using this
        show (a.tmps.setIfInBounds d v)[k]? = _
        rw [Array.getElem?_setIfInBounds_ne hdk]
        exact hF.out k hk
      · exact hF.out k hk
    · by_cases hji : j = i
      · subst hji
        rw [ho] at hd
        have hd' : o.dst = some d := hd
        rw [hd'] at hA1
        have hdn : d < a0.tmps.size := by simpa using hA1
        refine ⟨v, ?_, hS⟩
        unfold Act.put
        rw [hd']
        show (a.tmps.setIfInBounds d v)[d]? = _
        rw [Array.getElem?_setIfInBounds_self, if_pos (by rw [hF.size]; exact hdn)]
      · have hj2 : listed.getD j false = true := by
          have : (listed.setIfInBounds i true)[j]? = listed[j]? := Array.getElem?_setIfInBounds_ne (Ne.symm hji)
          simpa [this] using hj
        obtain ⟨v', h5, h6⟩ := hF.done j d hj2 hd
        refine ⟨v', ?_, hmono _ _ _ _ h6 hbu⟩
        unfold Act.put
        split
        · rename_i d' hd'
          have hne : d' ≠ d := by
            have hjo : j < ops.size := by
              apply Classical.byContradiction
              intro h
              rw [Array.getElem?_eq_none (by omega)] at hd
              cases hd
            have h7 := List.all_eq_true.1 hA2 j (List.mem_range.2 hjo)
            rw [ho, hd] at h7
            have hib : (i == j) = false := by simpa using Ne.symm hji
            rw [hib] at h7
            simp only [Option.bind_some, hd', Bool.false_or] at h7
            simpa using h7
          show (a.tmps.setIfInBounds d' v)[d]? = _
          rw [Array.getElem?_setIfInBounds_ne hne]
          exact h5
        · exact h5
theorem freeR_region {id : Nat} {Sem : Nat → Value → World → Prop} {a0 : Act} {w : World} (hm : P.follows .mixedOrders = true) {n : Nat} (htr : ∀ a b c, R a b → R b c → R a c) (hrf : R w.drew w.drew) (hrow : Region.inRow .any ops = true) (hsz : a0.tmps.size = n) (hap : Region.apartD ops n = true)
    (hmono : ∀ i v u u', Sem i v u → R u u' → Sem i v u')
    (hstep : ∀ i o a u, ops[i]? = some o → FreeIn .any ops Sem a0 o a u → R w.drew u → wpOp P ops Q i (fun b u' => ∃ v, b = a.put o.dst v ∧ Sem i v u' ∧ R u u') a u)
    (hfin : ∀ a u, FreeAt ops Sem a0 (Array.replicate ops.size true) a u → R w.drew u → Q .normal a u) : (Code.region id ops true).wp P Q a0 w :=
  wp_region_any hm (freeR_any htr hrow (by rw [hsz]; exact hap) hmono hstep hfin _ _ _ _ (by unfold leftN; exact Nat.le_trans (List.length_filter_le _ _) (by simp)) ⟨rfl, rfl, by simp, fun _ _ => rfl, fun i d h _ => by
    simp [Array.getElem?_replicate] at h
    split at h <;> simp_all⟩ hrf)
/-- A region whose orders are left alone: its end, with a letter a slot. -/
theorem freeR_walk {id : Nat} {Sem : Nat → Value → World → Prop} {a0 : Act} {w : World} (hm : P.follows .mixedOrders = true) {n : Nat} (htr : ∀ a b c, R a b → R b c → R a c) (hrf : R w.drew w.drew) (hrow : Region.inRow .any ops = true) (hsz : a0.tmps.size = n) (hap : Region.apartD ops n = true)
    (hmono : ∀ i v u u', Sem i v u → R u u' → Sem i v u')
    (hstep : ∀ i o a u, ops[i]? = some o → FreeIn .any ops Sem a0 o a u → R w.drew u → wpOp P ops Q i (fun b u' => ∃ v, b = a.put o.dst v ∧ Sem i v u' ∧ R u u') a u)
    (hfin : ∀ (vs : Nat → Value) u, (∀ i d, ((ops[i]?).bind (·.dst)) = some d → Sem i (vs i) u) → R w.drew u → Q .normal (putFrom vs a0 ops.toList 0) u) : (Code.region id ops true).wp P Q a0 w := by
  refine freeR_region hm htr hrf hrow hsz hap hmono hstep (fun a u hF hb => ?_)
  have hin : ∀ (i : Nat) (d : Tmp), ((ops[i]?).bind (fun x => Oper.dst x)) = some d → i < ops.size := by
    intro i d hd
    apply Classical.byContradiction
    intro h
    rw [Array.getElem?_eq_none (by omega)] at hd
    cases hd
  have hlist : ∀ (i : Nat) (d : Tmp), ((ops[i]?).bind (fun x => Oper.dst x)) = some d → (Array.replicate ops.size true).getD i false = true := by
    intro i d hd
    simp [hin i d hd]
  have h1 : ∀ (i : Nat) (d : Tmp), ((ops[i]?).bind (fun x => Oper.dst x)) = some d → a.tmps[d]? = some ((((ops[i]?).bind (fun x => Oper.dst x)).bind (a.tmps[·]?)).getD undef) := by
    intro i d hd
    obtain ⟨v, h1, _⟩ := hF.done i d (hlist i d hd) hd
    rw [hd]
    show _ = some ((a.tmps[d]?).getD undef)
    rw [h1]; rfl
  have key := hfin (fun i => (((ops[i]?).bind (fun x => Oper.dst x)).bind (a.tmps[·]?)).getD undef) u (fun i d hd => by
    obtain ⟨v, h2, h3⟩ := hF.done i d (hlist i d hd) hd
    have h4 := h1 i d hd
    rw [h2] at h4
    exact Option.some.inj h4 ▸ h3) hb
  rw [putFrom_eq (a := a) _ ops.toList 0 a0 (fun j d hj _ => by
    rw [Nat.zero_add]
    exact h1 j d (by simpa using hj)) hF.size.symm hF.defers.symm (fun k hk => (hF.out k hk).symm)] at key
  exact key
/-- An operation that is done, and what is to be shown of it. -/
theorem freeR_step {i : Nat} {o : Oper} {Sem : Nat → Value → World → Prop} {a : Act} {w : World} (ho : ops[i]? = some o) (hw : Region.wanted o (yielded ops a.tmps) = true) (h : ∀ K' : Act → World → Prop, Hid (∀ v u, Sem i v u → R w u → K' (a.put o.dst v) u) → Oper.wp P o a w K' Q) : wpOp P ops Q i (fun b u => ∃ v, b = a.put o.dst v ∧ Sem i v u ∧ R w u) a w :=
  free_op ho hw (h _ (fun v _ hS hb => ⟨v, rfl, hS, hb⟩))
end
/-- What was below n is as it was; of all other blocks the marks alone may have changed. -/
structure Soft (n : Nat) (a b : World) : Prop where
  below : Below n a b
  cells : ∀ (k : Nat) (C : Array Value) (t : TypeId) (m : Nat × Nat), a.heap[k]? = some (.cells C t m) → ∃ m', b.heap[k]? = some (.cells C t m')
theorem Soft.refl (n : Nat) (a : World) : Soft n a a := ⟨Below.refl _ _, fun _ _ _ m h => ⟨m, h⟩⟩
theorem Soft.trans {n : Nat} {a b c : World} (h : Soft n a b) (k : Soft n b c) : Soft n a c := ⟨h.below.trans k.below, fun i C t m hm => by
  obtain ⟨m', h1⟩ := h.cells i C t m hm
  exact k.cells i C t m' h1⟩
theorem Soft.of {n : Nat} {a b : World} (h : Below a.heap.size a b) (hn : n ≤ a.heap.size) : Soft n a b := ⟨h.mono hn, fun k _ _ m hm => ⟨m, (h.block k (Array.getElem?_eq_some_iff.1 hm).1).trans hm⟩⟩
theorem Soft.cell {n : Nat} {a b : World} (h : Soft n a b) {p : Addr} {v : Value} (hv : a.cell? p = some v) : b.cell? p = some v := by
  unfold World.cell? at hv ⊢
  split at hv
  · rename_i C t m hm
    obtain ⟨m', h1⟩ := h.cells _ _ _ _ hm
    rw [h1]
    exact hv
  · cases hv
open Ch in
theorem IsBytes.soft {n : Nat} {w w' : World} {v : Value} {s : ByteArray} (h : IsBytes w v s) (hs : Soft n w w') : IsBytes w' v s := by
  obtain ⟨a, cap, hv, hc, hm, h | ⟨x, ha, h | ⟨b, o, hx, hb, hf⟩⟩⟩ := h
  · exact ⟨a, cap, hv, hc, hm, .inl h⟩
  · exact ⟨a, cap, hv, hc, hm, .inr ⟨x, ha, .inl h⟩⟩
  · exact ⟨a, cap, hv, hc, hm, .inr ⟨x, ha, .inr ⟨b, o, hx, Nat.lt_of_lt_of_le hb hs.below.size, fun i hi => hs.cell (hf i hi)⟩⟩⟩
theorem IsSl.soft {n : Nat} {w w' : World} {v : Value} {ls : List ByteArray} (h : IsSl w v ls) (hs : Soft n w w') : IsSl w' v ls := by
  obtain ⟨a, cap, hv, h | ⟨b, o, h1, h2, h3⟩⟩ := h
  · exact ⟨a, cap, hv, .inl h⟩
  · refine ⟨a, cap, hv, .inr ⟨b, o, h1, Nat.lt_of_lt_of_le h2 hs.below.size, fun i t ht => ?_⟩⟩
    obtain ⟨u, hu, hI⟩ := h3 i t ht
    exact ⟨u, hs.cell hu, hI.soft hs⟩
/-- A conversion of a constant text's row to its own type marks it. -/
theorem run_convert_mark {P : Program} (w : World) (t e : TypeId) (g n c : Nat) (C : Array Value) (m : Nat × Nat) (ht : P.underlying t = some (.slice e)) (he : P.underlying e = some (.int .u8)) (hg : w.heap[g]? = some (.cells C e m)) :
    (convert t t (.slice (some ⟨g, 0, none⟩) n c)).run P w = .ok (.slice (some ⟨g, 0, none⟩) n c) (w.freeze ⟨g, C.size, none⟩ 1) := by
  have hsh : w.shape? g = some (e, C.size) := by
    unfold World.shape?
    rw [hg]
  simp [convert, run_underlying ht, run_underlying he, markStringish, hsh]
theorem soft_freeze {n g k : Nat} (w : World) (hn : n ≤ g) : Soft n w (w.freeze ⟨g, k, none⟩ 1) := by
  refine ⟨⟨rfl, rfl, rfl, ?_, fun i hi => ?_⟩, fun i C t m hm => ?_⟩
  · simp [World.freeze]
  · have : g ≠ i := by omega
    simp [World.freeze, Array.getElem?_modify, this]
  · by_cases e : g = i
    · subst e
      simp [World.freeze, Array.getElem?_modify, hm]
    · exact ⟨m, by simp [World.freeze, Array.getElem?_modify, e, hm]⟩
end Go.Proofs.Ythdoginhbhdmbaa
