/-
  A region that draws its order, whose last operations wait for all others: the others without their orders, the last ones by hand. Of no layer alone.
-/
import Derived.Test.YtbepjlhknmhmeaaDoorHFree
namespace Go.Proofs.YtbepjlhknmhmeaaDoor
open Go.RowKit
set_option maxRecDepth 100000

section
variable {P : Program} {ops : Array Oper} {Q : Exit → Act → World → Prop} {md : Region.Mode}

theorem any_end {listed : Array Bool} {a : Act} {w : World} (hr : Region.ready md ops listed = []) (hQ : Q .normal a w) : ∀ n, wpAny P md ops Q n listed a w
  | 0 => ⟨hr, hQ⟩
  | _ + 1 => ⟨fun _ => hQ, fun i hi => by rw [hr] at hi; cases hi⟩
theorem any_one {listed : Array Bool} {a : Act} {w : World} {i n : Nat} (hr : Region.ready md ops listed = [i]) (h : wpOp P ops Q i (fun b u => wpAny P md ops Q n (listed.setIfInBounds i true) b u) a w) : wpAny P md ops Q (n + 1) listed a w :=
  ⟨fun h0 => (by rw [hr] at h0; cases h0), fun k hk => by
    rw [hr] at hk
    obtain rfl : k = i := by simpa using hk
    exact h⟩
theorem any_op {listed : Array Bool} {a : Act} {w : World} {o : Oper} {n : Nat} (i : Nat) (hr : Region.ready md ops listed = [i]) (ho : ops[i]? = some o) (hw : Region.wanted o (yielded ops a.tmps) = true)
    (h : ∀ K' : Act → World → Prop, Hid (∀ b u, wpAny P md ops Q n (listed.setIfInBounds i true) b u → K' b u) → Oper.wp P o a w K' Q) : wpAny P md ops Q (n + 1) listed a w :=
  any_one hr (free_op ho hw (h _ (fun _ _ h => h)))
/-- Does operation t wait for operation i, by others too? -/
def Region.waitB (md : Region.Mode) (ops : Array Oper) : Nat → Nat → Nat → Bool
  | 0, _, _ => false
  | n + 1, t, i => match ops[t]? with
    | some o => o.after.toList.any fun e => Region.binds md e && (e.on == i || Region.waitB md ops n e.on i)
    | none => false
theorem waitB_listed {listed : Array Bool} (hcl : ∀ j o, ops[j]? = some o → listed.getD j false = true → ∀ e ∈ o.after, Region.binds md e = true → listed.getD e.on false = true) :
    ∀ n t i o, ops[t]? = some o → (∀ e ∈ o.after, Region.binds md e = true → listed.getD e.on false = true) → Region.waitB md ops n t i = true → listed.getD i false = true
  | 0, _, _, _, _, _, h => by cases h
  | n + 1, t, i, o, ho, hall, h => by
    rw [Region.waitB, ho] at h
    obtain ⟨e, he, h3⟩ := List.any_eq_true.1 h
    rw [Bool.and_eq_true, Bool.or_eq_true, beq_iff_eq] at h3
    have he2 : e ∈ o.after := by simpa using he
    have hl := hall e he2 h3.1
    rcases h3.2 with h4 | h4
    · rw [← h4]
      exact hl
    · cases hoe : ops[e.on]? with
      | none =>
        cases n with
        | zero => cases h4
        | succ n =>
          rw [Region.waitB, hoe] at h4
          cases h4
      | some o' => exact waitB_listed hcl n e.on i o' hoe (hcl _ _ hoe hl) h4
/-- Each of the last ones waits for all others, and writes no slot. -/
def Region.tailB (md : Region.Mode) (ops : Array Oper) (L0 : Array Bool) : Bool := (List.range ops.size).all fun t => L0.getD t false || match ops[t]? with
  | some o => o.dst.isNone && (List.range ops.size).all fun i => !L0.getD i false || Region.waitB md ops ops.size t i
  | none => true
theorem tail_waits {L0 : Array Bool} (h : Region.tailB md ops L0 = true) {t i : Nat} {o : Oper} (ho : ops[t]? = some o) (ht : L0.getD t false = false) (hi : L0.getD i false = true) (his : i < ops.size) : Region.waitB md ops ops.size t i = true := by
  have h1 := List.all_eq_true.1 h t (List.mem_range.2 (Array.getElem?_eq_some_iff.1 ho).1)
  rw [ht, Bool.false_or, ho, Bool.and_eq_true] at h1
  have h2 := List.all_eq_true.1 h1.2 i (List.mem_range.2 his)
  rw [hi] at h2
  simpa only [Bool.not_true, Bool.false_or] using h2
theorem tail_none {L0 : Array Bool} (h : Region.tailB md ops L0 = true) {t : Nat} {o : Oper} (ho : ops[t]? = some o) (ht : L0.getD t false = false) : o.dst = none := by
  have h1 := List.all_eq_true.1 h t (List.mem_range.2 (Array.getElem?_eq_some_iff.1 ho).1)
  rw [ht, Bool.false_or, ho, Bool.and_eq_true] at h1
  simpa using h1.1
theorem freeT_any {Sem : Nat → Value → World → Prop} {a0 : Act} {w0 : World} {n0 : Nat} (L0 : Array Bool) (hL : L0.size = ops.size) (htail : Region.tailB md ops L0 = true) (hrow : Region.inRow md ops = true) (hap : Region.apartD ops a0.tmps.size = true)
    (hmono : ∀ i v u u', Sem i v u → Below u.heap.size u u' → Sem i v u')
    (hstep : ∀ i o a w, ops[i]? = some o → L0.getD i false = true → FreeIn md ops Sem a0 o a w → Below n0 w0 w → wpOp P ops Q i (fun b u => ∃ v, b = a.put o.dst v ∧ Sem i v u ∧ Below w.heap.size w u) a w)
    (hfin : ∀ n a w, (leftN ops L0).length ≤ n → FreeAt ops Sem a0 L0 a w → Below n0 w0 w → wpAny P md ops Q n L0 a w) (hn0 : n0 ≤ w0.heap.size) :
    ∀ n listed a w, (leftN ops listed).length ≤ n → (∀ i, listed.getD i false = true → L0.getD i false = true) → (∀ j o, ops[j]? = some o → listed.getD j false = true → ∀ e ∈ o.after, Region.binds md e = true → listed.getD e.on false = true) → FreeAt ops Sem a0 listed a w → Below n0 w0 w → wpAny P md ops Q n listed a w := by
  intro n
  induction n with
  | zero =>
    intro listed a w hn hsub hcl hF hb
    have e : listed = L0 := by
      have h0 : leftN ops listed = [] := List.eq_nil_of_length_eq_zero (by omega)
      apply Array.ext (by rw [hF.lsize, hL])
      intro i h1 h2
      have : i ∉ leftN ops listed := by rw [h0]; exact List.not_mem_nil
      rw [mem_left] at this
      have h3 : listed[i] = true := by
        cases hc : listed[i]
        · exact absurd ⟨by rw [← hF.lsize]; exact h1, by simp [h1, hc]⟩ this
        · rfl
      have h4 := hsub i (by simp [h1, h3])
      rw [h3]
      simpa [h2] using h4.symm
    subst e
    exact hfin 0 a w hn hF hb
  | succ n ih =>
    intro listed a w hn hsub hcl hF hb
    by_cases hall0 : ∀ i, i < ops.size → L0.getD i false = true → listed.getD i false = true
    · have e : listed = L0 := by
        apply Array.ext (by rw [hF.lsize, hL])
        intro i h1 h2
        have h3 := hall0 i (by rw [← hL]; exact h2)
        have h4 := hsub i
        simp only [Array.getD_eq_getD_getElem?, Array.getElem?_eq_getElem h1, Array.getElem?_eq_getElem h2, Option.getD_some] at h3 h4
        cases hc : listed[i] <;> cases hd : L0[i] <;> simp_all
      subst e
      exact hfin _ a w hn hF hb
    · obtain ⟨q, hq⟩ := Classical.not_forall.1 hall0
      obtain ⟨hq1, hq⟩ := Classical.not_imp.1 hq
      obtain ⟨hq2, hq3⟩ := Classical.not_imp.1 hq
      refine ⟨fun hr => absurd (all_listed hrow hF.lsize hr q hq1) hq3, fun i hi => ?_⟩
      obtain ⟨h1, o, ho, hall⟩ := mem_ready.1 hi
      have hio : i < ops.size := (Array.getElem?_eq_some_iff.1 ho).1
      have hil : i < listed.size := by rw [hF.lsize]; exact hio
      have hiL : L0.getD i false = true := by
        cases hc : L0.getD i false
        · exact absurd (waitB_listed hcl _ _ _ _ ho hall (tail_waits htail ho hc hq2 hq1)) hq3
        · rfl
      have hIn : FreeIn md ops Sem a0 o a w := ⟨hF.size, hF.defers, hF.out, fun k d hk hd => by
        obtain ⟨e, he, h2⟩ : ∃ e ∈ o.after, (Region.binds md e && e.on == k) = true := by
          obtain ⟨e, he, h2⟩ := List.any_eq_true.1 hk
          exact ⟨e, by simpa using he, h2⟩
        rw [Bool.and_eq_true, beq_iff_eq] at h2
        obtain ⟨h2, rfl⟩ := h2
        exact hF.done e.on d (hall e he h2) hd⟩
      refine wpOp_mono (fun b u h => ?_) (hstep i o a w ho hiL hIn hb)
      obtain ⟨v, rfl, hS, hbu⟩ := h
      have hsub2 : ∀ j, (listed.setIfInBounds i true).getD j false = true → L0.getD j false = true := by
        intro j hj
        by_cases hji : j = i
        · subst hji
          exact hiL
        · refine hsub j ?_
          have : (listed.setIfInBounds i true)[j]? = listed[j]? := Array.getElem?_setIfInBounds_ne (Ne.symm hji)
          simpa [this] using hj
      have hcl2 : ∀ j o, ops[j]? = some o → (listed.setIfInBounds i true).getD j false = true → ∀ e ∈ o.after, Region.binds md e = true → (listed.setIfInBounds i true).getD e.on false = true := by
        have hup : ∀ k, listed.getD k false = true → (listed.setIfInBounds i true).getD k false = true := by
          intro k hk
          by_cases hki : k = i
          · subst hki
            simp [hil]
          · have : (listed.setIfInBounds i true)[k]? = listed[k]? := Array.getElem?_setIfInBounds_ne (Ne.symm hki)
            simpa [this] using hk
        intro j oj hoj hj e he hbd
        by_cases hji : j = i
        · subst hji
          rw [ho] at hoj
          obtain rfl := Option.some.inj hoj
          exact hup _ (hall e he hbd)
        · refine hup _ (hcl j oj hoj ?_ e he hbd)
          have : (listed.setIfInBounds i true)[j]? = listed[j]? := Array.getElem?_setIfInBounds_ne (Ne.symm hji)
          simpa [this] using hj
      refine ih _ _ _ (by have := leftN_set (mem_left.2 ⟨hio, h1⟩) hF.lsize; omega) hsub2 hcl2 ?_ (hb.trans (hbu.mono (Nat.le_trans hn0 hb.size)))
      have hA := List.all_eq_true.1 hap i (List.mem_range.2 hio)
      rw [Bool.and_eq_true] at hA
      obtain ⟨hA1, hA2⟩ := hA
      rw [ho, Option.bind_some] at hA1
      refine ⟨?_, ?_, by simp [hF.lsize], fun k hk => ?_, fun j d hj hd => ?_⟩
      · unfold Act.put
        split
        · simp [hF.size]
        · exact hF.size
      · unfold Act.put
        split <;> exact hF.defers
      · have := List.all_eq_true.1 hk o (by simpa using Array.mem_of_getElem? ho)
        unfold Act.put
        split
        · rename_i d hd
          rw [hd] at this
          have hdk : d ≠ k := by simpa using this
          show (a.tmps.setIfInBounds d v)[k]? = _
          rw [Array.getElem?_setIfInBounds_ne hdk]
          exact hF.out k hk
        · exact hF.out k hk
      · by_cases hji : j = i
        · subst hji
          rw [ho] at hd
          have hd' : o.dst = some d := hd
          rw [hd'] at hA1
          have hdn : d < a0.tmps.size := by simpa using hA1
          refine ⟨v, ?_, hS⟩
          unfold Act.put
          rw [hd']
          show (a.tmps.setIfInBounds d v)[d]? = _
          rw [Array.getElem?_setIfInBounds_self, if_pos (by rw [hF.size]; exact hdn)]
        · have hj2 : listed.getD j false = true := by
            have : (listed.setIfInBounds i true)[j]? = listed[j]? := Array.getElem?_setIfInBounds_ne (Ne.symm hji)
            simpa [this] using hj
          obtain ⟨v', h5, h6⟩ := hF.done j d hj2 hd
          refine ⟨v', ?_, hmono _ _ _ _ h6 hbu⟩
          unfold Act.put
          split
          · rename_i d' hd'
            have hne : d' ≠ d := by
              have hjo : j < ops.size := by
                apply Classical.byContradiction
                intro h
                rw [Array.getElem?_eq_none (by omega)] at hd
                cases hd
              have h7 := List.all_eq_true.1 hA2 j (List.mem_range.2 hjo)
              rw [ho, hd] at h7
              have hib : (i == j) = false := by simpa using Ne.symm hji
              rw [hib] at h7
              simp only [Option.bind_some, hd', Bool.false_or] at h7
              simpa using h7
            show (a.tmps.setIfInBounds d' v)[d]? = _
            rw [Array.getElem?_setIfInBounds_ne hne]
            exact h5
          · exact h5
/-- A region whose last operations (those that L0 leaves out) are walked by hand. -/
theorem freeT_walk {id : Nat} {Sem : Nat → Value → World → Prop} {a0 : Act} {w : World} (L0 : Array Bool) (hm : P.follows .mixedOrders = true) {n : Nat} (hL : L0.size = ops.size) (htail : Region.tailB .any ops L0 = true) (hrow : Region.inRow .any ops = true) (hsz : a0.tmps.size = n) (hap : Region.apartD ops n = true)
    (hmono : ∀ i v u u', Sem i v u → Below u.heap.size u u' → Sem i v u')
    (hstep : ∀ i o a u, ops[i]? = some o → L0.getD i false = true → FreeIn .any ops Sem a0 o a u → Below w.drew.heap.size w.drew u → wpOp P ops Q i (fun b u' => ∃ v, b = a.put o.dst v ∧ Sem i v u' ∧ Below u.heap.size u u') a u)
    (hfin : ∀ (vs : Nat → Value) u m, (leftN ops L0).length ≤ m → (∀ i d, ((ops[i]?).bind (·.dst)) = some d → Sem i (vs i) u) → Below w.drew.heap.size w.drew u → wpAny P .any ops Q m L0 (putFrom vs a0 ops.toList 0) u) : (Code.region id ops true).wp P Q a0 w := by
  refine wp_region_any hm (freeT_any L0 hL htail hrow (by rw [hsz]; exact hap) hmono hstep (fun m a u hm0 hF hb => ?_) (Nat.le_refl _) _ _ _ _ (by unfold leftN; exact Nat.le_trans (List.length_filter_le _ _) (by simp)) (fun i h => ?_) (fun j o _ h => ?_) ⟨rfl, rfl, by simp, fun _ _ => rfl, fun i d h _ => ?_⟩ (Below.refl _ _))
  · have hin : ∀ (i : Nat) (d : Tmp), ((ops[i]?).bind (fun x => Oper.dst x)) = some d → i < ops.size := by
      intro i d hd
      apply Classical.byContradiction
      intro h
      rw [Array.getElem?_eq_none (by omega)] at hd
      cases hd
    have hlist : ∀ (i : Nat) (d : Tmp), ((ops[i]?).bind (fun x => Oper.dst x)) = some d → L0.getD i false = true := by
      intro i d hd
      cases hc : L0.getD i false
      · have hi := hin i d hd
        have ho : ops[i]? = some ops[i] := by simp [hi]
        rw [ho, Option.bind_some, tail_none htail ho hc] at hd
        cases hd
      · rfl
    have h1 : ∀ (i : Nat) (d : Tmp), ((ops[i]?).bind (fun x => Oper.dst x)) = some d → a.tmps[d]? = some ((((ops[i]?).bind (fun x => Oper.dst x)).bind (a.tmps[·]?)).getD undef) := by
      intro i d hd
      obtain ⟨v, h1, _⟩ := hF.done i d (hlist i d hd) hd
      rw [hd]
      show _ = some ((a.tmps[d]?).getD undef)
      rw [h1]; rfl
    have key := hfin (fun i => (((ops[i]?).bind (fun x => Oper.dst x)).bind (a.tmps[·]?)).getD undef) u m hm0 (fun i d hd => by
      obtain ⟨v, h2, h3⟩ := hF.done i d (hlist i d hd) hd
      have h4 := h1 i d hd
      rw [h2] at h4
      exact Option.some.inj h4 ▸ h3) hb
    rw [putFrom_eq (a := a) _ ops.toList 0 a0 (fun j d hj _ => by
      rw [Nat.zero_add]
      exact h1 j d (by simpa using hj)) hF.size.symm hF.defers.symm (fun k hk => (hF.out k hk).symm)] at key
    exact key
  · simp [Array.getElem?_replicate] at h
    split at h <;> simp_all
  · simp [Array.getElem?_replicate] at h
    split at h <;> simp_all
  · simp [Array.getElem?_replicate] at h
    split at h <;> simp_all
end
end Go.Proofs.YtbepjlhknmhmeaaDoor
