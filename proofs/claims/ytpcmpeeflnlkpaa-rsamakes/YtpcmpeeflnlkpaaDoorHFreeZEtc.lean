/-
  A region that draws its order, one operation of which (z) writes into a row that is owned (an append): without its orders. Of no layer alone.
  A block that begins with words, written in place. Of no layer alone.
-/
import Derived.Test.YtpcmpeeflnlkpaaDoorHFree
import Derived.Test.YtpcmpeeflnlkpaaDoorNPl
namespace Go.Proofs.YtpcmpeeflnlkpaaDoor
open Go.RowKit
set_option maxRecDepth 100000

theorem grown_refl (w : World) (row : Option Nat) : w.grownBy w row := ⟨rfl, rfl, rfl, Nat.le_refl _, fun _ _ _ => rfl⟩
theorem grown_trans {a b c : World} {row : Option Nat} (h : a.grownBy b row) (h2 : b.grownBy c row) : a.grownBy c row :=
  ⟨h2.os.trans h.os, h2.tape.trans h.tape, h2.output.trans h.output, Nat.le_trans h.size h2.size, fun k hk hn => (h2.block k (Nat.lt_of_lt_of_le hk h.size) hn).trans (h.block k hk hn)⟩
theorem grown_of_below {a b : World} {row : Option Nat} (h : Below a.heap.size a b) : a.grownBy b row := ⟨h.os, h.tape, h.output, h.size, fun k hk _ => h.block k hk⟩

section
variable {P : Program} {ops : Array Oper} {Q : Exit → Act → World → Prop} {md : Region.Mode}
/-- Does operation z wait for the first of these, that for the next, ..? -/
def Region.path (md : Region.Mode) (ops : Array Oper) : Nat → List Nat → Bool
  | _, [] => true
  | z, y :: ys => (match ops[z]? with
    | some o => o.after.toList.any fun e => Region.binds md e && e.on == y
    | none => false) && Region.path md ops y ys
/-- What is listed has what it waits for listed. -/
def ClosedL (md : Region.Mode) (ops : Array Oper) (listed : Array Bool) : Prop := ∀ (i : Nat) (o : Oper), ops[i]? = some o → listed.getD i false = true → ∀ e ∈ o.after, Region.binds md e = true → listed.getD e.on false = true
theorem path_listed {listed : Array Bool} (hc : ClosedL md ops listed) : ∀ (l : List Nat) (z : Nat), Region.path md ops z l = true → listed.getD z false = true → ∀ i ∈ l, listed.getD i false = true := by
  intro l
  induction l with
  | nil => intro _ _ _ i hi; cases hi
  | cons y ys ih =>
    intro z h hz i hi
    rw [Region.path, Bool.and_eq_true] at h
    obtain ⟨h1, h2⟩ := h
    split at h1
    · rename_i o ho
      obtain ⟨e, he, h3⟩ := List.any_eq_true.1 h1
      rw [Bool.and_eq_true, beq_iff_eq] at h3
      have hy := hc z o ho hz e (by simpa using he) h3.1
      rw [h3.2] at hy
      rcases List.mem_cons.1 hi with rfl | h
      · exact hy
      · exact ih y h2 hy i h
    · cases h1
/-- What isn't written yet is as it was. -/
def KeepU (ops : Array Oper) (a0 : Act) (listed : Array Bool) (a : Act) : Prop := ∀ (j : Nat) (d : Tmp), listed.getD j true = false → ((ops[j]?).bind (fun x => Oper.dst x)) = some d → a.tmps[d]? = a0.tmps[d]?
theorem freeZ_any {Sem : Nat → Value → World → Prop} {J : World → Prop} {z : Nat} {late : Nat → Bool} {row : Option Nat} {a0 : Act} {w0 : World} (hrow : Region.inRow md ops = true) (hap : Region.apartD ops a0.tmps.size = true)
    (hlate : ∀ j, late j = true → j = z ∨ ∃ l, Region.path md ops j (l ++ [z]) = true) (hmono : ∀ i v u u', late i = false → Sem i v u → u.grownBy u' row → Sem i v u') (hmonoL : ∀ i v u u', late i = true → Sem i v u → Below u.heap.size u u' → Sem i v u') (hJ : ∀ u u', J u → Below u.heap.size u u' → J u')
    (hstep : ∀ i o a w, ops[i]? = some o → i ≠ z → FreeIn md ops Sem a0 o a w → w0.grownBy w row → (∀ l, Region.path md ops z (l ++ [i]) = true → J w) → (∀ (j : Nat) (d : Tmp) (l : List Nat), ((ops[j]?).bind (fun x => Oper.dst x)) = some d → Region.path md ops j (l ++ [i]) = true → a.tmps[d]? = a0.tmps[d]?) → wpOp P ops Q i (fun b u => ∃ v, b = a.put o.dst v ∧ Sem i v u ∧ Below w.heap.size w u) a w)
    (hz : ∀ o a w, ops[z]? = some o → FreeIn md ops Sem a0 o a w → w0.grownBy w row → J w → (∀ (j : Nat) (d : Tmp) (l : List Nat), ((ops[j]?).bind (fun x => Oper.dst x)) = some d → Region.path md ops j (l ++ [z]) = true → a.tmps[d]? = a0.tmps[d]?) → wpOp P ops Q z (fun b u => ∃ v, b = a.put o.dst v ∧ Sem z v u ∧ w.grownBy u row) a w)
    (hfin : ∀ a w, FreeAt ops Sem a0 (Array.replicate ops.size true) a w → w0.grownBy w row → (∃ v, Sem z v w) → Q .normal a w) (hlz : late z = true) :
    ∀ n listed a w, (leftN ops listed).length ≤ n → FreeAt ops Sem a0 listed a w → w0.grownBy w row → (listed.getD z true = false → J w) → (listed.getD z false = true → ∃ v, Sem z v w) → z < ops.size → ClosedL md ops listed → KeepU ops a0 listed a → wpAny P md ops Q n listed a w := by
  have hend : ∀ listed a w, Region.ready md ops listed = [] → FreeAt ops Sem a0 listed a w → w0.grownBy w row → (listed.getD z false = true → ∃ v, Sem z v w) → z < ops.size → Q .normal a w := by
    intro listed a w hr hF hb hZ hzo
    refine hfin a w ⟨hF.size, hF.defers, by simp, hF.out, fun i d _ hd => hF.done i d ?_ hd⟩ hb (hZ (all_listed hrow hF.lsize hr z hzo))
    refine all_listed hrow hF.lsize hr i ?_
    apply Classical.byContradiction
    intro h
    rw [Array.getElem?_eq_none (by omega)] at hd
    cases hd
  intro n
  induction n with
  | zero =>
    intro listed a w hn hF hb _ hZ hzo _ _
    have hr : Region.ready md ops listed = [] := by
      apply List.eq_nil_iff_forall_not_mem.2
      intro i hi
      obtain ⟨h1, o, ho, _⟩ := mem_ready.1 hi
      have : i ∈ leftN ops listed := mem_left.2 ⟨(Array.getElem?_eq_some_iff.1 ho).1, h1⟩
      have h0 : leftN ops listed = [] := List.eq_nil_of_length_eq_zero (by omega)
      rw [h0] at this
      cases this
    exact ⟨hr, hend _ _ _ hr hF hb hZ hzo⟩
  | succ n ih =>
    intro listed a w hn hF hb hJw hZ hzo hcl hku
    refine ⟨fun hr => hend _ _ _ hr hF hb hZ hzo, fun i hi => ?_⟩
    obtain ⟨h1, o, ho, hall⟩ := mem_ready.1 hi
    have hio : i < ops.size := (Array.getElem?_eq_some_iff.1 ho).1
    have hIn : FreeIn md ops Sem a0 o a w := ⟨hF.size, hF.defers, hF.out, fun k d hk hd => by
      obtain ⟨e, he, h2⟩ : ∃ e ∈ o.after, (Region.binds md e && e.on == k) = true := by
        obtain ⟨e, he, h2⟩ := List.any_eq_true.1 hk
        exact ⟨e, by simpa using he, h2⟩
      rw [Bool.and_eq_true, beq_iff_eq] at h2
      obtain ⟨h2, rfl⟩ := h2
      exact hF.done e.on d (hall e he h2) hd⟩
    have hwait : ∀ (j : Nat) (d : Tmp) (l : List Nat), ((ops[j]?).bind (fun x => Oper.dst x)) = some d → Region.path md ops j (l ++ [i]) = true → a.tmps[d]? = a0.tmps[d]? := by
      intro j d l hd hp
      refine hku j d ?_ hd
      apply Classical.byContradiction
      intro hnl
      have hjo : j < ops.size := by
        apply Classical.byContradiction
        intro h
        rw [Array.getElem?_eq_none (by omega)] at hd
        cases hd
      have hjs : j < listed.size := by rw [hF.lsize]; exact hjo
      have hj1 : listed.getD j false = true := by
        simp [hjs] at hnl ⊢
        exact hnl
      have h9 := path_listed hcl _ _ hp hj1 i (by simp)
      have his : i < listed.size := by rw [hF.lsize]; exact hio
      simp [his] at h1 h9
      rw [h1] at h9
      cases h9
    -- what is known behind an operation
    have key : ∀ v u, Sem i v u → w.grownBy u row → (i ≠ z → Below w.heap.size w u) → wpAny P md ops Q n (listed.setIfInBounds i true) (a.put o.dst v) u := by
      intro v u hS hgu hbu
      refine ih _ _ _ (by have := leftN_set (mem_left.2 ⟨hio, h1⟩) hF.lsize; omega) ?_ (grown_trans hb hgu) ?_ ?_ hzo ?_ ?_
      · have hA := List.all_eq_true.1 hap i (List.mem_range.2 hio)
        rw [Bool.and_eq_true] at hA
        obtain ⟨hA1, hA2⟩ := hA
        rw [ho, Option.bind_some] at hA1
        refine ⟨?_, ?_, by simp [hF.lsize], fun k hk => ?_, fun j d hj hd => ?_⟩
        · unfold Act.put
          split
          · simp [hF.size]
          · exact hF.size
        · unfold Act.put
          split <;> exact hF.defers
        · have := List.all_eq_true.1 hk o (by simpa using Array.mem_of_getElem? ho)
          unfold Act.put
          split
          · rename_i d hd
            rw [hd] at this
            have hdk : d ≠ k := by simpa using this
            show (a.tmps.setIfInBounds d v)[k]? = _
            rw [Array.getElem?_setIfInBounds_ne hdk]
            exact hF.out k hk
          · exact hF.out k hk
        · by_cases hji : j = i
          · subst hji
            rw [ho] at hd
            have hd' : o.dst = some d := hd
            rw [hd'] at hA1
            have hdn : d < a0.tmps.size := by simpa using hA1
            refine ⟨v, ?_, hS⟩
            unfold Act.put
            rw [hd']
            show (a.tmps.setIfInBounds d v)[d]? = _
            rw [Array.getElem?_setIfInBounds_self, if_pos (by rw [hF.size]; exact hdn)]
          · have hj2 : listed.getD j false = true := by
              have : (listed.setIfInBounds i true)[j]? = listed[j]? := Array.getElem?_setIfInBounds_ne (Ne.symm hji)
              simpa [this] using hj
            obtain ⟨v', h5, h6⟩ := hF.done j d hj2 hd
            refine ⟨v', ?_, ?_⟩
            rotate_left
            · by_cases hl : late j = true
              · by_cases hiz : i = z
                · exfalso
                  subst hiz
                  have hzl : listed.getD i false = true := by
                    rcases hlate j hl with h | ⟨l, hp⟩
                    · exact absurd h hji
                    · exact path_listed hcl _ _ hp hj2 i (by simp)
                  have his : i < listed.size := by rw [hF.lsize]; exact hio
                  simp [his] at h1 hzl
                  rw [h1] at hzl
                  cases hzl
                · exact hmonoL _ _ _ _ hl h6 (hbu hiz)
              · exact hmono _ _ _ _ (by simpa using hl) h6 hgu
            unfold Act.put
            split
            · rename_i d' hd'
              have hne : d' ≠ d := by
                have hjo : j < ops.size := by
                  apply Classical.byContradiction
                  intro h
                  rw [Array.getElem?_eq_none (by omega)] at hd
                  cases hd
                have h7 := List.all_eq_true.1 hA2 j (List.mem_range.2 hjo)
                rw [ho, hd] at h7
                have hib : (i == j) = false := by simpa using Ne.symm hji
                rw [hib] at h7
                simp only [Option.bind_some, hd', Bool.false_or] at h7
                simpa using h7
              show (a.tmps.setIfInBounds d' v)[d]? = _
              rw [Array.getElem?_setIfInBounds_ne hne]
              exact h5
            · exact h5
      · intro hlz
        by_cases hiz : i = z
        · subst hiz
          have : i < listed.size := by rw [hF.lsize]; exact hio
          simp [this] at hlz
        · have h9 : listed.getD z true = false := by
            have : (listed.setIfInBounds i true)[z]? = listed[z]? := Array.getElem?_setIfInBounds_ne hiz
            simpa [this] using hlz
          exact hJ _ _ (hJw h9) (hbu hiz)
      · intro hlz2
        by_cases hiz : i = z
        · subst hiz
          exact ⟨v, hS⟩
        · have h9 : listed.getD z false = true := by
            have : (listed.setIfInBounds i true)[z]? = listed[z]? := Array.getElem?_setIfInBounds_ne hiz
            simpa [this] using hlz2
          obtain ⟨v', h10⟩ := hZ h9
          exact ⟨v', hmonoL _ _ _ _ hlz h10 (hbu hiz)⟩
      · intro j oj hj hlj e he hbe
        have hset : ∀ k, k ≠ i → (listed.setIfInBounds i true).getD k false = listed.getD k false := fun k hk => by
          have : (listed.setIfInBounds i true)[k]? = listed[k]? := Array.getElem?_setIfInBounds_ne (Ne.symm hk)
          simp [this]
        have hold : listed.getD e.on false = true := by
          by_cases hji : j = i
          · subst hji
            rw [ho] at hj
            obtain rfl := Option.some.inj hj
            exact hall e he hbe
          · rw [hset j hji] at hlj
            exact hcl j oj hj hlj e he hbe
        by_cases hei : e.on = i
        · have : i < listed.size := by rw [hF.lsize]; exact hio
          rw [hei]
          simp [this]
        · rw [hset e.on hei]; exact hold
      · intro j d hlj hd
        have hA := List.all_eq_true.1 hap i (List.mem_range.2 hio)
        rw [Bool.and_eq_true] at hA
        have hji : j ≠ i := by
          intro h
          subst h
          have : j < listed.size := by rw [hF.lsize]; exact hio
          simp [this] at hlj
        have hl2 : listed.getD j true = false := by
          have : (listed.setIfInBounds i true)[j]? = listed[j]? := Array.getElem?_setIfInBounds_ne (Ne.symm hji)
          simpa [this] using hlj
        unfold Act.put
        split
        · rename_i d' hd'
          have hne : d' ≠ d := by
            have hjo : j < ops.size := by
              apply Classical.byContradiction
              intro h
              rw [Array.getElem?_eq_none (by omega)] at hd
              cases hd
            have h7 := List.all_eq_true.1 hA.2 j (List.mem_range.2 hjo)
            rw [ho, hd] at h7
            have hib : (i == j) = false := by simpa using Ne.symm hji
            rw [hib] at h7
            simp only [Option.bind_some, hd', Bool.false_or] at h7
            simpa using h7
          show (a.tmps.setIfInBounds d' v)[d]? = _
          rw [Array.getElem?_setIfInBounds_ne hne]
          exact hku j d hl2 hd
        · exact hku j d hl2 hd
    by_cases hiz : i = z
    · subst hiz
      refine wpOp_mono (fun b u h => ?_) (hz o a w ho hIn hb (hJw h1) hwait)
      obtain ⟨v, rfl, hS, hgu⟩ := h
      exact key v u hS hgu (fun h => absurd rfl h)
    · refine wpOp_mono (fun b u h => ?_) (hstep i o a w ho hiz hIn hb (fun l hanc => hJw (by
        apply Classical.byContradiction
        intro hzl
        have hzs : z < listed.size := by rw [hF.lsize]; exact hzo
        have hz1 : listed.getD z false = true := by
          simp [hzs] at hzl ⊢
          exact hzl
        have h9 := path_listed hcl _ _ hanc hz1 i (by simp)
        have his : i < listed.size := by rw [hF.lsize]; exact hio
        simp [his] at h1 h9
        rw [h1] at h9
        cases h9)) hwait)
      obtain ⟨v, rfl, hS, hbu⟩ := h
      exact key v u hS (grown_of_below hbu) (fun _ => hbu)
/-- The region, with a letter a slot at its end. -/
theorem freeZ_walk {id : Nat} {Sem : Nat → Value → World → Prop} {J : World → Prop} (z : Nat) (late : Nat → Bool) (row : Option Nat) {a0 : Act} {w : World} (hm : P.follows .mixedOrders = true) {n : Nat} (hrow : Region.inRow .any ops = true) (hsz : a0.tmps.size = n) (hap : Region.apartD ops n = true)
    (hJ0 : J w.drew) (hlate : ∀ j, late j = true → j = z ∨ ∃ l, Region.path .any ops j (l ++ [z]) = true) (hmono : ∀ i v u u', late i = false → Sem i v u → u.grownBy u' row → Sem i v u') (hmonoL : ∀ i v u u', late i = true → Sem i v u → Below u.heap.size u u' → Sem i v u') (hJ : ∀ u u', J u → Below u.heap.size u u' → J u')
    (hzo : z < ops.size) (hstep : ∀ i o a u, ops[i]? = some o → i ≠ z → FreeIn .any ops Sem a0 o a u → w.drew.grownBy u row → (∀ l, Region.path .any ops z (l ++ [i]) = true → J u) → (∀ (j : Nat) (d : Tmp) (l : List Nat), ((ops[j]?).bind (fun x => Oper.dst x)) = some d → Region.path .any ops j (l ++ [i]) = true → a.tmps[d]? = a0.tmps[d]?) → wpOp P ops Q i (fun b u' => ∃ v, b = a.put o.dst v ∧ Sem i v u' ∧ Below u.heap.size u u') a u)
    (hz : ∀ o a u, ops[z]? = some o → FreeIn .any ops Sem a0 o a u → w.drew.grownBy u row → J u → (∀ (j : Nat) (d : Tmp) (l : List Nat), ((ops[j]?).bind (fun x => Oper.dst x)) = some d → Region.path .any ops j (l ++ [z]) = true → a.tmps[d]? = a0.tmps[d]?) → wpOp P ops Q z (fun b u' => ∃ v, b = a.put o.dst v ∧ Sem z v u' ∧ u.grownBy u' row) a u)
    (hlz : late z = true) (hfin : ∀ (vs : Nat → Value) u, (∀ i d, ((ops[i]?).bind (·.dst)) = some d → Sem i (vs i) u) → w.drew.grownBy u row → (∃ v, Sem z v u) → Q .normal (putFrom vs a0 ops.toList 0) u) : (Code.region id ops true).wp P Q a0 w := by
  refine wp_region_any hm (freeZ_any hrow (by rw [hsz]; exact hap) hlate hmono hmonoL hJ hstep hz ?_ hlz _ _ _ _ (by unfold leftN; exact Nat.le_trans (List.length_filter_le _ _) (by simp)) ⟨rfl, rfl, by simp, fun _ _ => rfl, fun i d h _ => by
    simp [Array.getElem?_replicate] at h
    split at h <;> simp_all⟩ (grown_refl _ _) (fun _ => hJ0) (fun h => by
    simp [Array.getElem?_replicate] at h
    split at h <;> simp_all) hzo (fun i o _ h => by
    simp [Array.getElem?_replicate] at h
    split at h <;> simp_all) (fun _ _ _ _ => rfl))
  intro a u hF hb hZu
  have hin : ∀ (i : Nat) (d : Tmp), ((ops[i]?).bind (fun x => Oper.dst x)) = some d → i < ops.size := by
    intro i d hd
    apply Classical.byContradiction
    intro h
    rw [Array.getElem?_eq_none (by omega)] at hd
    cases hd
  have hlist : ∀ (i : Nat) (d : Tmp), ((ops[i]?).bind (fun x => Oper.dst x)) = some d → (Array.replicate ops.size true).getD i false = true := by
    intro i d hd
    simp [hin i d hd]
  have h1 : ∀ (i : Nat) (d : Tmp), ((ops[i]?).bind (fun x => Oper.dst x)) = some d → a.tmps[d]? = some ((((ops[i]?).bind (fun x => Oper.dst x)).bind (a.tmps[·]?)).getD undef) := by
    intro i d hd
    obtain ⟨v, h1, _⟩ := hF.done i d (hlist i d hd) hd
    rw [hd]
    show _ = some ((a.tmps[d]?).getD undef)
    rw [h1]; rfl
  have key := hfin (fun i => (((ops[i]?).bind (fun x => Oper.dst x)).bind (a.tmps[·]?)).getD undef) u (fun i d hd => by
    obtain ⟨v, h2, h3⟩ := hF.done i d (hlist i d hd) hd
    have h4 := h1 i d hd
    rw [h2] at h4
    exact Option.some.inj h4 ▸ h3) hb hZu
  rw [putFrom_eq (a := a) _ ops.toList 0 a0 (fun j d hj _ => by
    rw [Nat.zero_add]
    exact h1 j d (by simpa using hj)) hF.size.symm hF.defers.symm (fun k hk => (hF.out k hk).symm)] at key
  exact key
/-- The operation z, and what is to be shown of it. -/
theorem freeZ_step {i : Nat} {o : Oper} {Sem : Nat → Value → World → Prop} {row : Option Nat} {a : Act} {w : World} (ho : ops[i]? = some o) (hw : Region.wanted o (yielded ops a.tmps) = true) (h : ∀ K' : Act → World → Prop, Hid (∀ v u, Sem i v u → w.grownBy u row → K' (a.put o.dst v) u) → Oper.wp P o a w K' Q) : wpOp P ops Q i (fun b u => ∃ v, b = a.put o.dst v ∧ Sem i v u ∧ w.grownBy u row) a w :=
  free_op ho hw (h _ (fun v _ hS hb => ⟨v, rfl, hS, hb⟩))
end
end Go.Proofs.YtpcmpeeflnlkpaaDoor

namespace Go.Proofs.YtpcmpeeflnlkpaaDoor
open Go.RowKit Ch
set_option maxRecDepth 100000

def RowN (k : IntKind) (w : World) (g : Nat) (L : List Nat) : Prop := ∃ xs t, w.heap[g]? = some (.cells (kc k L ++ xs).toArray t (0, 0))
theorem RowN.lt {k : IntKind} {w : World} {g : Nat} {L : List Nat} (h : RowN k w g L) : g < w.heap.size := by
  obtain ⟨xs, t, h⟩ := h
  exact block_lt h
theorem kc_in {k : IntKind} {L : List Nat} {xs : List Value} {i n : Nat} (hn : L[i]? = some n) : (kc k L ++ xs).toArray[i]? = some (.int k (n : Int)) := by
  have := (List.getElem?_eq_some_iff.1 hn).1
  rw [List.getElem?_toArray, List.getElem?_append_left (by rw [kc_length]; exact this)]
  exact kc_at hn
theorem RowN.cell {k : IntKind} {w : World} {g : Nat} {L : List Nat} (h : RowN k w g L) {i n : Nat} (hn : L[i]? = some n) : w.cell? ⟨g, i, none⟩ = some (.int k (n : Int)) := by
  obtain ⟨xs, t, h⟩ := h
  exact block_cell i h (kc_in hn)
theorem RowN.free {k : IntKind} {w : World} {g : Nat} {L : List Nat} (h : RowN k w g L) (i : Nat) : w.frozen? ⟨g, i, none⟩ = false := by
  obtain ⟨xs, t, h⟩ := h
  exact block_free i h
theorem RowN.set {k : IntKind} {w : World} {g : Nat} {L : List Nat} (h : RowN k w g L) {i n : Nat} (hn : L[i]? = some n) (m : Nat) : RowN k (w.setCell ⟨g, i, none⟩ (.int k (m : Int))) g (L.set i m) := by
  obtain ⟨xs, t, h⟩ := h
  refine ⟨xs, t, ?_⟩
  rw [setCell_block h]
  congr 2
  apply Array.ext'
  have hi := (List.getElem?_eq_some_iff.1 hn).1
  rw [Array.toList_setIfInBounds, List.toList_toArray, List.toList_toArray, List.set_append_left _ _ (by rw [kc_length]; exact hi), kc_set]
theorem RowN.grown {k : IntKind} {w w' : World} {g : Nat} {L : List Nat} {row : Option Nat} (h : RowN k w g L) (hg : w.grownBy w' row) (hne : row ≠ some g) : RowN k w' g L := by
  obtain ⟨xs, t, h⟩ := h
  exact ⟨xs, t, block_grown h hg hne⟩
theorem RowN.later {k : IntKind} {w w' : World} {g : Nat} {L : List Nat} (h : RowN k w g L) (hb : Below w.heap.size w w') : RowN k w' g L := by
  obtain ⟨xs, t, h⟩ := h
  exact ⟨xs, t, (hb.block g (block_lt h)).trans h⟩
theorem RowN.keep {k : IntKind} {w w' : World} {g B : Nat} {L : List Nat} (h : RowN k w g L) (hb : Below B w w') (hB : g < B) : RowN k w' g L := by
  obtain ⟨xs, t, h⟩ := h
  exact ⟨xs, t, (hb.block g hB).trans h⟩
theorem RowN.isN {k : IntKind} {w : World} {g o n c : Nat} {L : List Nat} (h : RowN k w g L) (ho : o + n ≤ L.length) (hc : n ≤ c) (hm : c ≤ 1000000000) : IsN k w (.slice (some ⟨g, o, none⟩) n c) ((L.drop o).take n) := by
  have hl : ((L.drop o).take n).length = n := by rw [List.length_take, List.length_drop]; omega
  refine ⟨some ⟨g, o, none⟩, c, by rw [hl], by rw [hl]; exact hc, by unfold maxLen; omega, .inr ⟨_, rfl, .inr ⟨g, o, rfl, h.lt, fun i m hi => ?_⟩⟩⟩
  rw [pv_at] at hi
  split at hi
  · exact h.cell hi
  · cases hi
theorem RowN.own {k : IntKind} {w : World} {base g n c : Nat} {e : TypeId} {L : List Nat} (h : w.ownsRow base e 1 (.slice (some ⟨g, 0, none⟩) n c) L.length (kc k L)) : RowN k w g L ∧ base ≤ g := by
  rcases h.2 with ⟨hv, _⟩ | ⟨g', cap, cur, hv, hb, hh, _, _, _, hcur⟩
  · cases hv
  · simp only [Value.slice.injEq, Option.some.injEq, Addr.mk.injEq, and_true] at hv
    obtain ⟨rfl, _, _⟩ := hv
    refine ⟨⟨cur.toList.drop (L.length * 1), e, ?_⟩, hb⟩
    rw [hh]
    congr 2
    apply Array.ext'
    rw [List.toList_toArray, ← hcur, List.take_append_drop]
theorem grown_cell (w : World) (p : Addr) (u : Value) : w.grownBy (w.setCell p u) (some p.block) :=
  ⟨rfl, rfl, rfl, by rw [setCell_size]; exact Nat.le_refl _, fun k _ hn => Below.heap_setCell _ _ _ _ (fun e => hn (by rw [e]))⟩
/-- A slice elsewhere is as it was. -/
theorem IsN.grown {k : IntKind} {w w' : World} {b o n c g : Nat} {L : List Nat} (h : IsN k w (.slice (some ⟨b, o, none⟩) n c) L) (hg : w.grownBy w' (some g)) (hne : b ≠ g) : IsN k w' (.slice (some ⟨b, o, none⟩) n c) L := by
  obtain ⟨a, cap, hv, hc, hm, hr⟩ := h
  refine ⟨a, cap, hv, hc, hm, ?_⟩
  simp only [Value.slice.injEq] at hv
  obtain ⟨rfl, _, _⟩ := hv
  rcases hr with ⟨h1, _⟩ | ⟨x, h1, h2⟩
  · cases h1
  · obtain rfl := Option.some.inj h1
    refine .inr ⟨_, rfl, ?_⟩
    rcases h2 with h2 | ⟨b', o', h2, h3, h4⟩
    · exact .inl h2
    · refine .inr ⟨b', o', h2, Nat.lt_of_lt_of_le h3 hg.size, fun i m hi => ?_⟩
      simp only [Addr.mk.injEq, and_true] at h2
      obtain ⟨rfl, rfl⟩ := h2
      exact hg.cell (h4 i m hi) (by intro h; exact hne (Option.some.inj h))
end Go.Proofs.YtpcmpeeflnlkpaaDoor
