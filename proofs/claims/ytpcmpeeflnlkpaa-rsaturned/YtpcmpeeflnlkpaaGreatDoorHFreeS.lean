
/-
  A region that draws its order, whose last operations wait for all others and may write slots: the others without their orders, the last ones by hand. Of no layer alone.
-/
import Derived.Test.YtpcmpeeflnlkpaaGreatDoorHFreeTEtc
namespace Go.Proofs.YtpcmpeeflnlkpaaGreatDoor
open Go.RowKit
set_option maxRecDepth 100000

section
variable {P : Program} {ops : Array Oper} {Q : Exit → Act → World → Prop} {md : Region.Mode}

/-- The operations, of which only those of L0 write. -/
def maskO (ops : Array Oper) (L0 : Array Bool) : Array Oper := ops.mapIdx fun i o => if L0.getD i false then o else { o with dst := none }
theorem mask_size (ops : Array Oper) (L0 : Array Bool) : (maskO ops L0).size = ops.size := by simp [maskO]
theorem mask_at {L0 : Array Bool} {i : Nat} (h : L0.getD i false = true) : (maskO ops L0)[i]? = ops[i]? := by
  unfold maskO
  rw [Array.getElem?_mapIdx, h]
  simp
theorem mask_not {L0 : Array Bool} {i : Nat} {d : Tmp} (h : (((maskO ops L0)[i]?).bind (fun x => Oper.dst x)) = some d) : L0.getD i false = true := by
  cases hc : L0.getD i false
  · unfold maskO at h
    rw [Array.getElem?_mapIdx, hc] at h
    cases ho : ops[i]? with
    | none => rw [ho] at h; cases h
    | some o => rw [ho] at h; cases h
  · rfl
/-- Each of the last ones waits for all others. -/
def Region.tailS (md : Region.Mode) (ops : Array Oper) (L0 : Array Bool) : Bool := (List.range ops.size).all fun t => L0.getD t false || match ops[t]? with
  | some _ => (List.range ops.size).all fun i => !L0.getD i false || Region.waitB md ops ops.size t i
  | none => true
theorem tailS_waits {L0 : Array Bool} (h : Region.tailS md ops L0 = true) {t i : Nat} {o : Oper} (ho : ops[t]? = some o) (ht : L0.getD t false = false) (hi : L0.getD i false = true) (his : i < ops.size) : Region.waitB md ops ops.size t i = true := by
  have h1 := List.all_eq_true.1 h t (List.mem_range.2 (Array.getElem?_eq_some_iff.1 ho).1)
  rw [ht, Bool.false_or, ho] at h1
  have h2 := List.all_eq_true.1 h1 i (List.mem_range.2 his)
  rw [hi] at h2
  simpa only [Bool.not_true, Bool.false_or] using h2
theorem freeS_any {Sem : Nat → Value → World → Prop} {a0 : Act} {w0 : World} {n0 : Nat} (L0 : Array Bool) (hL : L0.size = ops.size) (htail : Region.tailS md ops L0 = true) (hrow : Region.inRow md ops = true) (hap : Region.apartD (maskO ops L0) a0.tmps.size = true)
    (hmono : ∀ i v u u', Sem i v u → Below u.heap.size u u' → Sem i v u')
    (hstep : ∀ i o a w, ops[i]? = some o → L0.getD i false = true → FreeIn md (maskO ops L0) Sem a0 o a w → Below n0 w0 w → wpOp P ops Q i (fun b u => ∃ v, b = a.put o.dst v ∧ Sem i v u ∧ Below w.heap.size w u) a w)
    (hfin : ∀ n a w, (leftN ops L0).length ≤ n → FreeAt (maskO ops L0) Sem a0 L0 a w → Below n0 w0 w → wpAny P md ops Q n L0 a w) (hn0 : n0 ≤ w0.heap.size) :
    ∀ n listed a w, (leftN ops listed).length ≤ n → (∀ i, listed.getD i false = true → L0.getD i false = true) → (∀ j o, ops[j]? = some o → listed.getD j false = true → ∀ e ∈ o.after, Region.binds md e = true → listed.getD e.on false = true) → FreeAt (maskO ops L0) Sem a0 listed a w → Below n0 w0 w → wpAny P md ops Q n listed a w := by
  intro n
  induction n with
  | zero =>
    intro listed a w hn hsub hcl hF hb
    have e : listed = L0 := by
      have h0 : leftN ops listed = [] := List.eq_nil_of_length_eq_zero (by omega)
      apply Array.ext (by rw [hF.lsize, mask_size, hL])
      intro i h1 h2
      have : i ∉ leftN ops listed := by rw [h0]; exact List.not_mem_nil
      rw [mem_left] at this
      have h3 : listed[i] = true := by
        cases hc : listed[i]
        · exact absurd ⟨by rw [← mask_size ops L0, ← hF.lsize]; exact h1, by simp [h1, hc]⟩ this
        · rfl
      have h4 := hsub i (by simp [h1, h3])
      rw [h3]
      simpa [h2] using h4.symm
    subst e
    exact hfin 0 a w hn hF hb
  | succ n ih =>
    intro listed a w hn hsub hcl hF hb
    by_cases hall0 : ∀ i, i < ops.size → L0.getD i false = true → listed.getD i false = true
    · have e : listed = L0 := by
        apply Array.ext (by rw [hF.lsize, mask_size, hL])
        intro i h1 h2
        have h3 := hall0 i (by rw [← hL]; exact h2)
        have h4 := hsub i
        simp only [Array.getD_eq_getD_getElem?, Array.getElem?_eq_getElem h1, Array.getElem?_eq_getElem h2, Option.getD_some] at h3 h4
        cases hc : listed[i] <;> cases hd : L0[i] <;> simp_all
      subst e
      exact hfin _ a w hn hF hb
    · obtain ⟨q, hq⟩ := Classical.not_forall.1 hall0
      obtain ⟨hq1, hq⟩ := Classical.not_imp.1 hq
      obtain ⟨hq2, hq3⟩ := Classical.not_imp.1 hq
      refine ⟨fun hr => absurd (all_listed hrow (hF.lsize.trans (mask_size ops L0)) hr q hq1) hq3, fun i hi => ?_⟩
      obtain ⟨h1, o, ho, hall⟩ := mem_ready.1 hi
      have hio : i < ops.size := (Array.getElem?_eq_some_iff.1 ho).1
      have hil : i < listed.size := by rw [hF.lsize, mask_size]; exact hio
      have hiL : L0.getD i false = true := by
        cases hc : L0.getD i false
        · exact absurd (waitB_listed hcl _ _ _ _ ho hall (tailS_waits htail ho hc hq2 hq1)) hq3
        · rfl
      have hom : (maskO ops L0)[i]? = some o := (mask_at hiL).trans ho
      have hIn : FreeIn md (maskO ops L0) Sem a0 o a w := ⟨hF.size, hF.defers, hF.out, fun k d hk hd => by
        obtain ⟨e, he, h2⟩ : ∃ e ∈ o.after, (Region.binds md e && e.on == k) = true := by
          obtain ⟨e, he, h2⟩ := List.any_eq_true.1 hk
          exact ⟨e, by simpa using he, h2⟩
        rw [Bool.and_eq_true, beq_iff_eq] at h2
        obtain ⟨h2, rfl⟩ := h2
        exact hF.done e.on d (hall e he h2) hd⟩
      refine wpOp_mono (fun b u h => ?_) (hstep i o a w ho hiL hIn hb)
      obtain ⟨v, rfl, hS, hbu⟩ := h
      have hsub2 : ∀ j, (listed.setIfInBounds i true).getD j false = true → L0.getD j false = true := by
        intro j hj
        by_cases hji : j = i
        · subst hji
          exact hiL
        · refine hsub j ?_
          have : (listed.setIfInBounds i true)[j]? = listed[j]? := Array.getElem?_setIfInBounds_ne (Ne.symm hji)
          simpa [this] using hj
      have hcl2 : ∀ j o, ops[j]? = some o → (listed.setIfInBounds i true).getD j false = true → ∀ e ∈ o.after, Region.binds md e = true → (listed.setIfInBounds i true).getD e.on false = true := by
        have hup : ∀ k, listed.getD k false = true → (listed.setIfInBounds i true).getD k false = true := by
          intro k hk
          by_cases hki : k = i
          · subst hki
            simp [hil]
          · have : (listed.setIfInBounds i true)[k]? = listed[k]? := Array.getElem?_setIfInBounds_ne (Ne.symm hki)
            simpa [this] using hk
        intro j oj hoj hj e he hbd
        by_cases hji : j = i
        · subst hji
          rw [ho] at hoj
          obtain rfl := Option.some.inj hoj
          exact hup _ (hall e he hbd)
        · refine hup _ (hcl j oj hoj ?_ e he hbd)
          have : (listed.setIfInBounds i true)[j]? = listed[j]? := Array.getElem?_setIfInBounds_ne (Ne.symm hji)
          simpa [this] using hj
      refine ih _ _ _ (by have := leftN_set (mem_left.2 ⟨hio, h1⟩) (hF.lsize.trans (mask_size ops L0)); omega) hsub2 hcl2 ?_ (hb.trans (hbu.mono (Nat.le_trans hn0 hb.size)))
      have hA := List.all_eq_true.1 hap i (List.mem_range.2 (by rw [mask_size]; exact hio))
      rw [Bool.and_eq_true] at hA
      obtain ⟨hA1, hA2⟩ := hA
      rw [hom, Option.bind_some] at hA1
      refine ⟨?_, ?_, by simp [hF.lsize], fun k hk => ?_, fun j d hj hd => ?_⟩
      · unfold Act.put
        split
        · simp [hF.size]
        · exact hF.size
      · unfold Act.put
        split <;> exact hF.defers
      · have := List.all_eq_true.1 hk o (by simpa using Array.mem_of_getElem? hom)
        unfold Act.put
        split
        · rename_i d hd
          rw [hd] at this
          have hdk : d ≠ k := by simpa using this
          show (a.tmps.setIfInBounds d v)[k]? = _
          rw [Array.getElem?_setIfInBounds_ne hdk]
          exact hF.out k hk
        · exact hF.out k hk
      · by_cases hji : j = i
        · subst hji
          rw [hom] at hd
          have hd' : o.dst = some d := hd
          rw [hd'] at hA1
          have hdn : d < a0.tmps.size := by simpa using hA1
          refine ⟨v, ?_, hS⟩
          unfold Act.put
          rw [hd']
          show (a.tmps.setIfInBounds d v)[d]? = _
          rw [Array.getElem?_setIfInBounds_self, if_pos (by rw [hF.size]; exact hdn)]
        · have hj2 : listed.getD j false = true := by
            have : (listed.setIfInBounds i true)[j]? = listed[j]? := Array.getElem?_setIfInBounds_ne (Ne.symm hji)
            simpa [this] using hj
          obtain ⟨v', h5, h6⟩ := hF.done j d hj2 hd
          refine ⟨v', ?_, hmono _ _ _ _ h6 hbu⟩
          unfold Act.put
          split
          · rename_i d' hd'
            have hne : d' ≠ d := by
              have hjo : j < (maskO ops L0).size := by
                apply Classical.byContradiction
                intro h
                rw [Array.getElem?_eq_none (by omega)] at hd
                cases hd
              have h7 := List.all_eq_true.1 hA2 j (List.mem_range.2 hjo)
              rw [hom, hd] at h7
              have hib : (i == j) = false := by simpa using Ne.symm hji
              rw [hib] at h7
              simp only [Option.bind_some, hd', Bool.false_or] at h7
              simpa using h7
            show (a.tmps.setIfInBounds d' v)[d]? = _
            rw [Array.getElem?_setIfInBounds_ne hne]
            exact h5
          · exact h5
/-- The slots written one behind the other, by their numbers. -/
def putD (vs : Nat → Value) : Act → List (Option Tmp) → Nat → Act
  | a, [], _ => a
  | a, d :: ds, i => putD vs (a.put d (vs i)) ds (i + 1)
theorem putD_eq (vs : Nat → Value) : ∀ (os : List Oper) (a : Act) (i : Nat), putFrom vs a os i = putD vs a (os.map Oper.dst) i
  | [], _, _ => rfl
  | o :: os, a, i => by
    rw [putFrom, List.map_cons, putD]
    exact putD_eq vs os _ _
/-- A region whose last operations (those that L0 leaves out) are walked by hand. -/
theorem freeS_walk {id : Nat} {Sem : Nat → Value → World → Prop} {a0 : Act} {w : World} (L0 : Array Bool) (ds : List (Option Tmp)) (hm : P.follows .mixedOrders = true) {n : Nat} (hds : (maskO ops L0).toList.map Oper.dst = ds) (hL : L0.size = ops.size) (htail : Region.tailS .any ops L0 = true) (hrow : Region.inRow .any ops = true) (hsz : a0.tmps.size = n) (hap : Region.apartD (maskO ops L0) n = true)
    (hmono : ∀ i v u u', Sem i v u → Below u.heap.size u u' → Sem i v u')
    (hstep : ∀ i o a u, ops[i]? = some o → L0.getD i false = true → FreeIn .any (maskO ops L0) Sem a0 o a u → Below w.drew.heap.size w.drew u → wpOp P ops Q i (fun b u' => ∃ v, b = a.put o.dst v ∧ Sem i v u' ∧ Below u.heap.size u u') a u)
    (hfin : ∀ (vs : Nat → Value) u m, (leftN ops L0).length ≤ m → (∀ i d, ds[i]? = some (some d) → Sem i (vs i) u) → Below w.drew.heap.size w.drew u → wpAny P .any ops Q m L0 (putD vs a0 ds 0) u) : (Code.region id ops true).wp P Q a0 w := by
  refine wp_region_any hm (freeS_any L0 hL htail hrow (by rw [hsz]; exact hap) hmono hstep (fun m a u hm0 hF hb => ?_) (Nat.le_refl _) _ _ _ _ (by unfold leftN; exact Nat.le_trans (List.length_filter_le _ _) (by simp)) (fun i h => ?_) (fun j o _ h => ?_) ⟨rfl, rfl, by simp [mask_size], fun _ _ => rfl, fun i d h _ => ?_⟩ (Below.refl _ _))
  · have hlist : ∀ (i : Nat) (d : Tmp), (((maskO ops L0)[i]?).bind (fun x => Oper.dst x)) = some d → L0.getD i false = true := fun i d hd => mask_not hd
    have h1 : ∀ (i : Nat) (d : Tmp), (((maskO ops L0)[i]?).bind (fun x => Oper.dst x)) = some d → a.tmps[d]? = some (((((maskO ops L0)[i]?).bind (fun x => Oper.dst x)).bind (a.tmps[·]?)).getD undef) := by
      intro i d hd
      obtain ⟨v, h1, _⟩ := hF.done i d (hlist i d hd) hd
      rw [hd]
      show _ = some ((a.tmps[d]?).getD undef)
      rw [h1]; rfl
    have key := hfin (fun i => ((((maskO ops L0)[i]?).bind (fun x => Oper.dst x)).bind (a.tmps[·]?)).getD undef) u m hm0 (fun i d hd => by
      have hd' : (((maskO ops L0)[i]?).bind (fun x => Oper.dst x)) = some d := by
        rw [← hds, List.getElem?_map, Array.getElem?_toList] at hd
        cases ho : (maskO ops L0)[i]? with
        | none => rw [ho] at hd; cases hd
        | some o => rw [ho] at hd; exact Option.some.inj hd
      obtain ⟨v, h2, h3⟩ := hF.done i d (hlist i d hd') hd'
      have h4 := h1 i d hd'
      rw [h2] at h4
      exact Option.some.inj h4 ▸ h3) hb
    rw [← hds, ← putD_eq, putFrom_eq (a := a) _ (maskO ops L0).toList 0 a0 (fun j d hj _ => by
      rw [Nat.zero_add]
      exact h1 j d (by simpa using hj)) hF.size.symm hF.defers.symm (fun k hk => (hF.out k hk).symm)] at key
    exact key
  · simp [Array.getElem?_replicate] at h
    split at h <;> simp_all
  · simp [Array.getElem?_replicate] at h
    split at h <;> simp_all
  · simp [Array.getElem?_replicate] at h
    split at h <;> simp_all
end
end Go.Proofs.YtpcmpeeflnlkpaaGreatDoor
