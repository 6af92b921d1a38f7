/-
  A region that draws its order, whose last operations wait for all others and may write slots: the others without their orders, the last ones by hand. Of no layer alone.
  The document's Div: a slice of slices of digits.
-/
import Derived.Test.YtpcmpeeflnlkpaaDoorHFreeTEtc
import Derived.Test.YtpcmpeeflnlkpaaDoorQSoundEtc
namespace Go.Proofs.YtpcmpeeflnlkpaaDoor
open Go.RowKit
set_option maxRecDepth 100000

section
variable {P : Program} {ops : Array Oper} {Q : Exit → Act → World → Prop} {md : Region.Mode}

/-- The operations, of which only those of L0 write. -/
def maskO (ops : Array Oper) (L0 : Array Bool) : Array Oper := ops.mapIdx fun i o => if L0.getD i false then o else { o with dst := none }
theorem mask_size (ops : Array Oper) (L0 : Array Bool) : (maskO ops L0).size = ops.size := by simp [maskO]
theorem mask_at {L0 : Array Bool} {i : Nat} (h : L0.getD i false = true) : (maskO ops L0)[i]? = ops[i]? := by
  unfold maskO
  rw [Array.getElem?_mapIdx, h]
  simp
theorem mask_not {L0 : Array Bool} {i : Nat} {d : Tmp} (h : (((maskO ops L0)[i]?).bind (fun x => Oper.dst x)) = some d) : L0.getD i false = true := by
  cases hc : L0.getD i false
  · unfold maskO at h
    rw [Array.getElem?_mapIdx, hc] at h
    cases ho : ops[i]? with
    | none => rw [ho] at h; cases h
    | some o => rw [ho] at h; cases h
  · rfl
/-- Each of the last ones waits for all others. -/
def Region.tailS (md : Region.Mode) (ops : Array Oper) (L0 : Array Bool) : Bool := (List.range ops.size).all fun t => L0.getD t false || match ops[t]? with
  | some _ => (List.range ops.size).all fun i => !L0.getD i false || Region.waitB md ops ops.size t i
  | none => true
theorem tailS_waits {L0 : Array Bool} (h : Region.tailS md ops L0 = true) {t i : Nat} {o : Oper} (ho : ops[t]? = some o) (ht : L0.getD t false = false) (hi : L0.getD i false = true) (his : i < ops.size) : Region.waitB md ops ops.size t i = true := by
  have h1 := List.all_eq_true.1 h t (List.mem_range.2 (Array.getElem?_eq_some_iff.1 ho).1)
  rw [ht, Bool.false_or, ho] at h1
  have h2 := List.all_eq_true.1 h1 i (List.mem_range.2 his)
  rw [hi] at h2
  simpa only [Bool.not_true, Bool.false_or] using h2
theorem freeS_any {Sem : Nat → Value → World → Prop} {a0 : Act} {w0 : World} {n0 : Nat} (L0 : Array Bool) (hL : L0.size = ops.size) (htail : Region.tailS md ops L0 = true) (hrow : Region.inRow md ops = true) (hap : Region.apartD (maskO ops L0) a0.tmps.size = true)
    (hmono : ∀ i v u u', Sem i v u → Below u.heap.size u u' → Sem i v u')
    (hstep : ∀ i o a w, ops[i]? = some o → L0.getD i false = true → FreeIn md (maskO ops L0) Sem a0 o a w → Below n0 w0 w → wpOp P ops Q i (fun b u => ∃ v, b = a.put o.dst v ∧ Sem i v u ∧ Below w.heap.size w u) a w)
    (hfin : ∀ n a w, (leftN ops L0).length ≤ n → FreeAt (maskO ops L0) Sem a0 L0 a w → Below n0 w0 w → wpAny P md ops Q n L0 a w) (hn0 : n0 ≤ w0.heap.size) :
    ∀ n listed a w, (leftN ops listed).length ≤ n → (∀ i, listed.getD i false = true → L0.getD i false = true) → (∀ j o, ops[j]? = some o → listed.getD j false = true → ∀ e ∈ o.after, Region.binds md e = true → listed.getD e.on false = true) → FreeAt (maskO ops L0) Sem a0 listed a w → Below n0 w0 w → wpAny P md ops Q n listed a w := by
  intro n
  induction n with
  | zero =>
    intro listed a w hn hsub hcl hF hb
    have e : listed = L0 := by
      have h0 : leftN ops listed = [] := List.eq_nil_of_length_eq_zero (by omega)
      apply Array.ext (by rw [hF.lsize, mask_size, hL])
      intro i h1 h2
      have : i ∉ leftN ops listed := by rw [h0]; exact List.not_mem_nil
      rw [mem_left] at this
      have h3 : listed[i] = true := by
        cases hc : listed[i]
        · exact absurd ⟨by rw [← mask_size ops L0, ← hF.lsize]; exact h1, by simp [h1, hc]⟩ this
        · rfl
      have h4 := hsub i (by simp [h1, h3])
      rw [h3]
      simpa [h2] using h4.symm
    subst e
    exact hfin 0 a w hn hF hb
  | succ n ih =>
    intro listed a w hn hsub hcl hF hb
    by_cases hall0 : ∀ i, i < ops.size → L0.getD i false = true → listed.getD i false = true
    · have e : listed = L0 := by
        apply Array.ext (by rw [hF.lsize, mask_size, hL])
        intro i h1 h2
        have h3 := hall0 i (by rw [← hL]; exact h2)
        have h4 := hsub i
        simp only [Array.getD_eq_getD_getElem?, Array.getElem?_eq_getElem h1, Array.getElem?_eq_getElem h2, Option.getD_some] at h3 h4
        cases hc : listed[i] <;> cases hd : L0[i] <;> simp_all
      subst e
      exact hfin _ a w hn hF hb
    · obtain ⟨q, hq⟩ := Classical.not_forall.1 hall0
      obtain ⟨hq1, hq⟩ := Classical.not_imp.1 hq
      obtain ⟨hq2, hq3⟩ := Classical.not_imp.1 hq
      refine ⟨fun hr => absurd (all_listed hrow (hF.lsize.trans (mask_size ops L0)) hr q hq1) hq3, fun i hi => ?_⟩
      obtain ⟨h1, o, ho, hall⟩ := mem_ready.1 hi
      have hio : i < ops.size := (Array.getElem?_eq_some_iff.1 ho).1
      have hil : i < listed.size := by rw [hF.lsize, mask_size]; exact hio
      have hiL : L0.getD i false = true := by
        cases hc : L0.getD i false
        · exact absurd (waitB_listed hcl _ _ _ _ ho hall (tailS_waits htail ho hc hq2 hq1)) hq3
        · rfl
      have hom : (maskO ops L0)[i]? = some o := (mask_at hiL).trans ho
      have hIn : FreeIn md (maskO ops L0) Sem a0 o a w := ⟨hF.size, hF.defers, hF.out, fun k d hk hd => by
        obtain ⟨e, he, h2⟩ : ∃ e ∈ o.after, (Region.binds md e && e.on == k) = true := by
          obtain ⟨e, he, h2⟩ := List.any_eq_true.1 hk
          exact ⟨e, by simpa using he, h2⟩
        rw [Bool.and_eq_true, beq_iff_eq] at h2
        obtain ⟨h2, rfl⟩ := h2
        exact hF.done e.on d (hall e he h2) hd⟩
      refine wpOp_mono (fun b u h => ?_) (hstep i o a w ho hiL hIn hb)
      obtain ⟨v, rfl, hS, hbu⟩ := h
      have hsub2 : ∀ j, (listed.setIfInBounds i true).getD j false = true → L0.getD j false = true := by
        intro j hj
        by_cases hji : j = i
        · subst hji
          exact hiL
        · refine hsub j ?_
          have : (listed.setIfInBounds i true)[j]? = listed[j]? := Array.getElem?_setIfInBounds_ne (Ne.symm hji)
          simpa [this] using hj
      have hcl2 : ∀ j o, ops[j]? = some o → (listed.setIfInBounds i true).getD j false = true → ∀ e ∈ o.after, Region.binds md e = true → (listed.setIfInBounds i true).getD e.on false = true := by
        have hup : ∀ k, listed.getD k false = true → (listed.setIfInBounds i true).getD k false = true := by
          intro k hk
          by_cases hki : k = i
          · subst hki
            simp [hil]
          · have : (listed.setIfInBounds i true)[k]? = listed[k]? := Array.getElem?_setIfInBounds_ne (Ne.symm hki)
            simpa [this] using hk
        intro j oj hoj hj e he hbd
        by_cases hji : j = i
        · subst hji
          rw [ho] at hoj
          obtain rfl := Option.some.inj hoj
          exact hup _ (hall e he hbd)
        · refine hup _ (hcl j oj hoj ?_ e he hbd)
          have : (listed.setIfInBounds i true)[j]? = listed[j]? := Array.getElem?_setIfInBounds_ne (Ne.symm hji)
          simpa [this] using hj
      refine ih _ _ _ (by have := leftN_set (mem_left.2 ⟨hio, h1⟩) (hF.lsize.trans (mask_size ops L0)); omega) hsub2 hcl2 ?_ (hb.trans (hbu.mono (Nat.le_trans hn0 hb.size)))
      have hA := List.all_eq_true.1 hap i (List.mem_range.2 (by rw [mask_size]; exact hio))
      rw [Bool.and_eq_true] at hA
      obtain ⟨hA1, hA2⟩ := hA
      rw [hom, Option.bind_some] at hA1
      refine ⟨?_, ?_, by simp [hF.lsize], fun k hk => ?_, fun j d hj hd => ?_⟩
      · unfold Act.put
        split
        · simp [hF.size]
        · exact hF.size
      · unfold Act.put
        split <;> exact hF.defers
      · have := List.all_eq_true.1 hk o (by simpa using Array.mem_of_getElem? hom)
        unfold Act.put
        split
        · rename_i d hd
          rw [hd] at this
          have hdk : d ≠ k := by simpa using this
          show (a.tmps.setIfInBounds d v)[k]? = _
          rw [Array.getElem?_setIfInBounds_ne hdk]
          exact hF.out k hk
        · exact hF.out k hk
      · by_cases hji : j = i
        · subst hji
          rw [hom] at hd
          have hd' : o.dst = some d := hd
          rw [hd'] at hA1
          have hdn : d < a0.tmps.size := by simpa using hA1
          refine ⟨v, ?_, hS⟩
          unfold Act.put
          rw [hd']
          show (a.tmps.setIfInBounds d v)[d]? = _
          rw [Array.getElem?_setIfInBounds_self, if_pos (by rw [hF.size]; exact hdn)]
        · have hj2 : listed.getD j false = true := by
            have : (listed.setIfInBounds i true)[j]? = listed[j]? := Array.getElem?_setIfInBounds_ne (Ne.symm hji)
            simpa [this] using hj
          obtain ⟨v', h5, h6⟩ := hF.done j d hj2 hd
          refine ⟨v', ?_, hmono _ _ _ _ h6 hbu⟩
          unfold Act.put
          split
          · rename_i d' hd'
            have hne : d' ≠ d := by
              have hjo : j < (maskO ops L0).size := by
                apply Classical.byContradiction
                intro h
                rw [Array.getElem?_eq_none (by omega)] at hd
                cases hd
              have h7 := List.all_eq_true.1 hA2 j (List.mem_range.2 hjo)
              rw [hom, hd] at h7
              have hib : (i == j) = false := by simpa using Ne.symm hji
              rw [hib] at h7
              simp only [Option.bind_some, hd', Bool.false_or] at h7
              simpa using h7
            show (a.tmps.setIfInBounds d' v)[d]? = _
            rw [Array.getElem?_setIfInBounds_ne hne]
            exact h5
          · exact h5
/-- The slots written one behind the other, by their numbers. -/
def putD (vs : Nat → Value) : Act → List (Option Tmp) → Nat → Act
  | a, [], _ => a
  | a, d :: ds, i => putD vs (a.put d (vs i)) ds (i + 1)
theorem putD_eq (vs : Nat → Value) : ∀ (os : List Oper) (a : Act) (i : Nat), putFrom vs a os i = putD vs a (os.map Oper.dst) i
  | [], _, _ => rfl
  | o :: os, a, i => by
    rw [putFrom, List.map_cons, putD]
    exact putD_eq vs os _ _
/-- A region whose last operations (those that L0 leaves out) are walked by hand. -/
theorem freeS_walk {id : Nat} {Sem : Nat → Value → World → Prop} {a0 : Act} {w : World} (L0 : Array Bool) (ds : List (Option Tmp)) (hm : P.follows .mixedOrders = true) {n : Nat} (hds : (maskO ops L0).toList.map Oper.dst = ds) (hL : L0.size = ops.size) (htail : Region.tailS .any ops L0 = true) (hrow : Region.inRow .any ops = true) (hsz : a0.tmps.size = n) (hap : Region.apartD (maskO ops L0) n = true)
    (hmono : ∀ i v u u', Sem i v u → Below u.heap.size u u' → Sem i v u')
    (hstep : ∀ i o a u, ops[i]? = some o → L0.getD i false = true → FreeIn .any (maskO ops L0) Sem a0 o a u → Below w.drew.heap.size w.drew u → wpOp P ops Q i (fun b u' => ∃ v, b = a.put o.dst v ∧ Sem i v u' ∧ Below u.heap.size u u') a u)
    (hfin : ∀ (vs : Nat → Value) u m, (leftN ops L0).length ≤ m → (∀ i d, ds[i]? = some (some d) → Sem i (vs i) u) → Below w.drew.heap.size w.drew u → wpAny P .any ops Q m L0 (putD vs a0 ds 0) u) : (Code.region id ops true).wp P Q a0 w := by
  refine wp_region_any hm (freeS_any L0 hL htail hrow (by rw [hsz]; exact hap) hmono hstep (fun m a u hm0 hF hb => ?_) (Nat.le_refl _) _ _ _ _ (by unfold leftN; exact Nat.le_trans (List.length_filter_le _ _) (by simp)) (fun i h => ?_) (fun j o _ h => ?_) ⟨rfl, rfl, by simp [mask_size], fun _ _ => rfl, fun i d h _ => ?_⟩ (Below.refl _ _))
  · have hlist : ∀ (i : Nat) (d : Tmp), (((maskO ops L0)[i]?).bind (fun x => Oper.dst x)) = some d → L0.getD i false = true := fun i d hd => mask_not hd
    have h1 : ∀ (i : Nat) (d : Tmp), (((maskO ops L0)[i]?).bind (fun x => Oper.dst x)) = some d → a.tmps[d]? = some (((((maskO ops L0)[i]?).bind (fun x => Oper.dst x)).bind (a.tmps[·]?)).getD undef) := by
      intro i d hd
      obtain ⟨v, h1, _⟩ := hF.done i d (hlist i d hd) hd
      rw [hd]
      show _ = some ((a.tmps[d]?).getD undef)
      rw [h1]; rfl
    have key := hfin (fun i => ((((maskO ops L0)[i]?).bind (fun x => Oper.dst x)).bind (a.tmps[·]?)).getD undef) u m hm0 (fun i d hd => by
      have hd' : (((maskO ops L0)[i]?).bind (fun x => Oper.dst x)) = some d := by
        rw [← hds, List.getElem?_map, Array.getElem?_toList] at hd
        cases ho : (maskO ops L0)[i]? with
        | none => rw [ho] at hd; cases hd
        | some o => rw [ho] at hd; exact Option.some.inj hd
      obtain ⟨v, h2, h3⟩ := hF.done i d (hlist i d hd') hd'
      have h4 := h1 i d hd'
      rw [h2] at h4
      exact Option.some.inj h4 ▸ h3) hb
    rw [← hds, ← putD_eq, putFrom_eq (a := a) _ (maskO ops L0).toList 0 a0 (fun j d hj _ => by
      rw [Nat.zero_add]
      exact h1 j d (by simpa using hj)) hF.size.symm hF.defers.symm (fun k hk => (hF.out k hk).symm)] at key
    exact key
  · simp [Array.getElem?_replicate] at h
    split at h <;> simp_all
  · simp [Array.getElem?_replicate] at h
    split at h <;> simp_all
  · simp [Array.getElem?_replicate] at h
    split at h <;> simp_all
end
end Go.Proofs.YtpcmpeeflnlkpaaDoor

namespace Go.Proofs.YtpcmpeeflnlkpaaDoor
open Go.RowKit Ch
set_option maxRecDepth 100000

/-- Digits that lie in this block. -/
def IsDb (n : Nat) (w : World) (v : Value) (N b : Nat) : Prop := ∃ o c L, v = .slice (some ⟨b, o, none⟩) L.length c ∧ IsN .i64 w v L ∧ AllD L ∧ Tidy L ∧ numD L = N ∧ L.length ≤ n ∧ b < w.heap.size
theorem IsDb.isD {n b : Nat} {w : World} {v : Value} {N : Nat} (h : IsDb n w v N b) : IsD n w v N := by
  obtain ⟨o, c, L, h1, h2, h3, h4, h5, h6, _⟩ := h
  exact ⟨_, c, L, h1, h2, h3, h4, h5, h6⟩
theorem IsD.db {n : Nat} {w : World} {v : Value} {N : Nat} (h : IsD n w v N) (hN : N ≠ 0) : ∃ b, IsDb n w v N b := by
  obtain ⟨y, c, L, rfl, h2, h3, h4, h5, h6⟩ := h
  have h0 : 0 < L.length := by
    apply Nat.pos_of_ne_zero
    intro e
    rw [List.eq_nil_of_length_eq_zero e] at h5
    exact hN h5.symm
  obtain ⟨_, b, o, rfl, hb, _⟩ := IsN.cellAt h2 (i := 0) (n := L[0]) (List.getElem?_eq_getElem h0)
  exact ⟨b, o, c, L, rfl, h2, h3, h4, h5, h6, hb⟩
theorem IsDb.later {n b : Nat} {w w' : World} {v : Value} {N : Nat} (h : IsDb n w v N b) (hb : Below w.heap.size w w') : IsDb n w' v N b := by
  obtain ⟨o, c, L, h1, h2, h3, h4, h5, h6, h7⟩ := h
  exact ⟨o, c, L, h1, h2.later hb, h3, h4, h5, h6, Nat.lt_of_lt_of_le h7 hb.size⟩
theorem IsDb.grown {n b g : Nat} {w w' : World} {v : Value} {N : Nat} (h : IsDb n w v N b) (hg : w.grownBy w' (some g)) (hne : b ≠ g) : IsDb n w' v N b := by
  obtain ⟨o, c, L, rfl, h2, h3, h4, h5, h6, h7⟩ := h
  exact ⟨o, c, L, rfl, h2.grown hg hne, h3, h4, h5, h6, Nat.lt_of_lt_of_le h7 hg.size⟩
theorem IsDb.fresh {n b B : Nat} {w : World} {v : Value} {N : Nat} (h : IsDb n w v N b) (hf : FreshS B v) : B ≤ b := by
  obtain ⟨o, c, L, rfl, _⟩ := h
  exact hf _ _ _ _ rfl
/-- Digits are as they were where another block is written. -/
theorem IsD.set {n g i : Nat} {w : World} {v u : Value} {N : Nat} (h : IsD n w v N) (hf : FreshS (g + 1) v) : IsD n (w.setCell ⟨g, i, none⟩ u) v N := by
  have hg := grown_cell w ⟨g, i, none⟩ u
  obtain ⟨y, c, L, rfl, h2, h3⟩ := h
  refine ⟨y, c, L, rfl, ?_, h3⟩
  rcases y with _ | ⟨b, o, q⟩
  · obtain ⟨a, cap, hv, hc, hm, h4⟩ := h2
    refine ⟨a, cap, hv, hc, hm, ?_⟩
    rcases h4 with h4 | ⟨x, h5, _⟩
    · exact .inl h4
    · simp only [Value.slice.injEq] at hv
      rw [← hv.1] at h5
      cases h5
  · rcases q with _ | q
    · exact h2.grown hg (by have := hf _ _ _ _ rfl; show b ≠ g; omega)
    · obtain ⟨a, cap, hv, hc, hm, h4⟩ := h2
      refine ⟨a, cap, hv, hc, hm, ?_⟩
      rcases h4 with h4 | ⟨x, h5, h6⟩
      · exact .inl h4
      · refine .inr ⟨x, h5, ?_⟩
        rcases h6 with h6 | ⟨b', o', h6, _⟩
        · exact .inl h6
        · simp only [Value.slice.injEq] at hv
          rw [← hv.1] at h5
          rw [h6] at h5
          cases h5
/-- The multiples by 1, 2, 4 ..: as many as there are. -/
def Tw (base : Nat) (w : World) (g kk ck : Nat) (Vs : List Value) (d N : Nat) : Prop :=
  w.ownsRow base 29 1 (.slice (some ⟨g, 0, none⟩) kk ck) kk Vs ∧ g < w.heap.size ∧ ∀ j x, Vs[j]? = some x → ∃ b, b ≠ g ∧ IsDb (d + j) w x (N * 2 ^ j) b
theorem Tw.len {base : Nat} {w : World} {g kk ck : Nat} {Vs : List Value} {d N : Nat} (h : Tw base w g kk ck Vs d N) : Vs.length = kk := by have := h.1.1; omega
theorem own_keep {w w' : World} {base n : Nat} {e : TypeId} {v : Value} {xs : List Value} (h : w.ownsRow base e 1 v n xs) (hb : Below w.heap.size w w') : w'.ownsRow base e 1 v n xs := by
  refine ⟨h.1, ?_⟩
  rcases h.2 with h2 | ⟨g, cap, cur, hv, hg2, hh, r⟩
  · exact .inl h2
  · exact .inr ⟨g, cap, cur, hv, hg2, (hb.block g (block_lt hh)).trans hh, r⟩
theorem Tw.later {base : Nat} {w w' : World} {g kk ck : Nat} {Vs : List Value} {d N : Nat} (h : Tw base w g kk ck Vs d N) (hb : Below w.heap.size w w') : Tw base w' g kk ck Vs d N := by
  refine ⟨own_keep h.1 hb, Nat.lt_of_lt_of_le h.2.1 hb.size, fun j x hx => ?_⟩
  obtain ⟨b, h1, h2⟩ := h.2.2 j x hx
  exact ⟨b, h1, h2.later hb⟩
theorem Tw.cell {base : Nat} {w : World} {g kk ck : Nat} {Vs : List Value} {d N j : Nat} {x : Value} (h : Tw base w g kk ck Vs d N) (hj : Vs[j]? = some x) : w.cell? ⟨g, j, none⟩ = some x := by
  have := World.ownsRow.cells h.1 (g := g) rfl j x hj
  have e : (⟨g, 0, none⟩ : Addr).add j = ⟨g, j, none⟩ := by unfold Addr.add; split <;> simp_all
  rw [e] at this
  exact this
theorem slice_one {n : Nat} {w : World} {v : Value} {N : Nat} (h : IsD n w v N) : v.oneCell' = true := by
  obtain ⟨y, c, L, rfl, _⟩ := h
  rfl
/-- append of one slice, at an operation of a region that draws. -/
theorem wp_append_tw {o : Oper} {a : Act} {u : World} {K : Act → World → Prop} {Q : Exit → Act → World → Prop} (so x : Operand) (ho : o.op = .call { callee := .builtin .append, args := #[so, x], argTypes := #[52, 52] })
    (base g kk ck : Nat) (Vs : List Value) (hs : a.eval so = .slice (some ⟨g, 0, none⟩) kk ck) (hown : u.ownsRow base 29 1 (.slice (some ⟨g, 0, none⟩) kk ck) kk Vs) (p : Nat) (hx : a.eval x = .slice (some ⟨p, 0, none⟩) 1 1) (X : Value) (hc : u.cell? ⟨p, 0, none⟩ = some X) (h1 : X.oneCell' = true)
    (hk : kk ≤ 100) (hbase : base ≤ u.heap.size)
    (h : ∀ g' ck' u', u'.ownsRow base 29 1 (.slice (some ⟨g', 0, none⟩) (kk + 1) ck') (kk + 1) (Vs ++ [X]) → u.grownBy u' (some g) → (g' = g ∨ g' = u.heap.size) → K (a.put o.dst (.slice (some ⟨g', 0, none⟩) (kk + 1) ck')) u') : o.wp Tryd.prog a u K Q := by
  have hu : Tryd.prog.underlying 52 = some (.slice 29) := by kernel_rfl
  have hi0 : (Tryd.prog.info? 29).map (fun i => (i.zero, i.size, i.bytes)) = some (some (.slice none 0 0), 1, 24) := by kernel_rfl
  obtain ⟨i0, hi, hz0, hz1, hz2⟩ := info_parts hi0
  obtain ⟨v', w', hr, h2, h3, h4⟩ := run_append_where (P := Tryd.prog) u base 52 o.type 29 i0 (.slice none 0 0) 24 hu hi hz0 hz1 hz2 rfl _ kk Vs hown ⟨p, 0, none⟩ 1 1 [X] rfl (by
    intro j q hj
    rcases j with _ | j
    · simp only [List.getElem?_cons_zero, Option.some.injEq] at hj
      rw [← hj]
      exact hc
    · cases hj) (by intro q hq; simp at hq; subst hq; exact h1) (by unfold maxLen; omega) (by omega) hbase (by decide)
  unfold Oper.wp execOp
  simp only [ho, resolve, invoke, builtin, Sem.run_bind, Sem.run_pure, Result.andThen_ok, List.map_toArray, List.map_cons, List.map_nil, hs, hx, hr]
  rcases h2.2 with ⟨_, h5⟩ | ⟨g', ck', cur, hv, h5⟩
  · omega
  · subst hv
    refine h g' ck' w' h2 h3 ?_
    rcases h4 with h4 | h4
    · exact .inl (Option.some.inj h4)
    · exact .inr (Option.some.inj h4)
theorem FreshS.mono {B C : Nat} {v : Value} (h : FreshS B v) (hc : C ≤ B) : FreshS C v := fun b o n c hv => Nat.le_trans hc (h b o n c hv)
theorem tw_more {base : Nat} {u u1 u2 : World} {g kk ck g' ck' d N : Nat} {Vs : List Value} {x : Value} (hT : Tw base u g kk ck Vs d N) (hN0 : N ≠ 0) (hb1 : Below u.heap.size u u1) (hx : IsD (d + kk) u1 x (N * 2 ^ kk)) (hfx : FreshS u.heap.size x)
    (ho : u2.ownsRow base 29 1 (.slice (some ⟨g', 0, none⟩) (kk + 1) ck') (kk + 1) (Vs ++ [x])) (hg : u1.grownBy u2 (some g)) (hw : g' = g ∨ g' = u1.heap.size) : Tw base u2 g' (kk + 1) ck' (Vs ++ [x]) d N := by
  have hT1 := hT.later hb1
  refine ⟨ho, ?_, fun j y hy => ?_⟩
  · rcases ho.2 with ⟨h1, _⟩ | ⟨g2, cap, cur, h1, _, hh, _⟩
    · cases h1
    · simp only [Value.slice.injEq, Option.some.injEq, Addr.mk.injEq, and_true] at h1
      rw [h1.1]
      exact block_lt hh
  · by_cases hj : j < Vs.length
    · rw [List.getElem?_append_left hj] at hy
      obtain ⟨b, h1, h2⟩ := hT1.2.2 j y hy
      have h3 := h2.grown hg h1
      refine ⟨b, ?_, h3⟩
      obtain ⟨_, _, _, _, _, _, _, _, _, h7⟩ := h2
      rcases hw with rfl | rfl
      · exact h1
      · omega
    · rw [List.getElem?_append_right (by omega)] at hy
      have hj2 : j - Vs.length = 0 := by
        have := (List.getElem?_eq_some_iff.1 hy).1
        simp at this
        omega
      rw [hj2] at hy
      simp only [List.getElem?_cons_zero, Option.some.injEq] at hy
      subst hy
      have hjk : j = kk := by have := hT.len; omega
      subst hjk
      obtain ⟨b, hb⟩ := hx.db (Nat.mul_ne_zero hN0 (Nat.ne_of_gt (Nat.pow_pos (by decide))))
      have h8 := hb.fresh hfx
      have h9 := hT.2.1
      have hbl : b < u1.heap.size := by
        obtain ⟨_, _, _, _, _, _, _, _, _, h7⟩ := hb
        exact h7
      refine ⟨b, ?_, hb.grown hg (by omega)⟩
      rcases hw with rfl | rfl
      · omega
      · omega
theorem below_tw {base : Nat} {w u1 u2 : World} {g : Nat} (hb : Below base w u1) (hbase : base ≤ u1.heap.size) (hg : u1.grownBy u2 (some g)) (hgb : base ≤ g) : Below base w u2 :=
  hb.grown hg hbase (fun b h => by obtain rfl := Option.some.inj h; exact hgb)
/-- A slice of one slice of digits. -/
def IsBx (n B : Nat) (w : World) (v : Value) (N : Nat) : Prop := ∃ p x, v = .slice (some ⟨p, 0, none⟩) 1 1 ∧ p < w.heap.size ∧ w.cell? ⟨p, 0, none⟩ = some x ∧ IsD n w x N ∧ FreshS B x
theorem IsBx.later {n B : Nat} {w w' : World} {v : Value} {N : Nat} (h : IsBx n B w v N) (hb : Below w.heap.size w w') : IsBx n B w' v N := by
  obtain ⟨p, x, h1, h2, h3, h4, h5⟩ := h
  exact ⟨p, x, h1, Nat.lt_of_lt_of_le h2 hb.size, (hb.cell (p := ⟨p, 0, none⟩) h2).trans h3, h4.later hb, h5⟩
theorem isBx_new {n B : Nat} {w : World} {x : Value} {N : Nat} (h : IsD n w x N) (hf : FreshS B x) : IsBx n B (w.alloc (.cells #[x] 29)) (.slice (some ⟨w.heap.size, 0, none⟩) 1 1) N :=
  ⟨w.heap.size, x, rfl, by simp, block_cell 0 (heap_push_at w _) rfl, h.later ((Below.refl _ w).alloc (Nat.le_refl _) _), hf⟩
theorem Tw.ge {base : Nat} {w : World} {g kk ck : Nat} {Vs : List Value} {d N : Nat} (h : Tw base w g kk ck Vs d N) : base ≤ g := by
  rcases h.1.2 with ⟨h1, _⟩ | ⟨g2, cap, cur, h1, hb, _⟩
  · cases h1
  · simp only [Value.slice.injEq, Option.some.injEq, Addr.mk.injEq, and_true] at h1
    rw [h1.1]
    exact hb
theorem tw_first (w : World) (d N b : Nat) (v : Value) (h : IsDb d w v N b) : Tw w.heap.size (w.alloc (.cells #[v] 29)) w.heap.size 1 1 [v] d N := by
  refine ⟨⟨rfl, .inr ⟨w.heap.size, 1, #[v], rfl, Nat.le_refl _, heap_push_at w _, Nat.le_refl _, by unfold maxLen; omega, rfl, rfl⟩⟩, by simp, fun j x hx => ?_⟩
  rcases j with _ | j
  · simp only [List.getElem?_cons_zero, Option.some.injEq] at hx
    subst hx
    refine ⟨b, ?_, ?_⟩
    · obtain ⟨_, _, _, _, _, _, _, _, _, h7⟩ := h
      omega
    · rw [Nat.pow_zero, Nat.mul_one, Nat.add_zero]
      exact h.later ((Below.refl _ w).alloc (Nat.le_refl _) _)
  · cases hx
theorem own_oneN (R : KR) (w : World) (n : Nat) : (w.alloc (.cells #[.int R.k (n : Int)] R.e)).ownsRow w.heap.size R.e 1 (.slice (some ⟨w.heap.size, 0, none⟩) 1 1) [n].length (kc R.k [n]) :=
  ⟨rfl, .inr ⟨w.heap.size, 1, #[.int R.k (n : Int)], rfl, Nat.le_refl _, heap_push_at w _, Nat.le_refl _, by unfold maxLen; omega, rfl, rfl⟩⟩
end Go.Proofs.YtpcmpeeflnlkpaaDoor
