/-
  A region that draws its order, without its orders: what each operation leaves is said once (Sem), of whatever world comes later; no order is walked. Of no layer alone.
-/
import Derived.Test.YtbepjlhknmhmeaaDoorGen2
import Derived.OrdersHeld
import Derived.StillTail
import Derived.Deep.RegionWith
namespace Go.Proofs.YtbepjlhknmhmeaaDoor
open Go.RowKit
set_option maxRecDepth 100000

section
variable {P : Program} {ops : Array Oper} {Q : Exit → Act → World → Prop} {md : Region.Mode}

/-- What is known ahead of operation i: the slots that no operation writes are as they were; those of the operations that it waits for are told by Sem. -/
structure FreeIn (md : Region.Mode) (ops : Array Oper) (Sem : Nat → Value → World → Prop) (a0 : Act) (o : Oper) (a : Act) (w : World) : Prop where
  size : a.tmps.size = a0.tmps.size
  defers : a.defers = a0.defers
  out : ∀ k, (ops.toList.all fun o => !(o.dst == some k)) = true → a.tmps[k]? = a0.tmps[k]?
  dep : ∀ i d, (o.after.toList.any fun e => Region.binds md e && e.on == i) = true → ((ops[i]?).bind (·.dst)) = some d → ∃ v, a.tmps[d]? = some v ∧ Sem i v w
/-- What is known of a region under way. -/
structure FreeAt (ops : Array Oper) (Sem : Nat → Value → World → Prop) (a0 : Act) (listed : Array Bool) (a : Act) (w : World) : Prop where
  size : a.tmps.size = a0.tmps.size
  defers : a.defers = a0.defers
  lsize : listed.size = ops.size
  out : ∀ k, (ops.toList.all fun o => !(o.dst == some k)) = true → a.tmps[k]? = a0.tmps[k]?
  done : ∀ i d, listed.getD i false = true → ((ops[i]?).bind (·.dst)) = some d → ∃ v, a.tmps[d]? = some v ∧ Sem i v w
def leftN (ops : Array Oper) (listed : Array Bool) : List Nat := (List.range ops.size).filter fun i => !listed.getD i true
theorem leftN_set {listed : Array Bool} {i : Nat} (h : i ∈ leftN ops listed) (hl : listed.size = ops.size) : (leftN ops (listed.setIfInBounds i true)).length < (leftN ops listed).length := by
  have e : leftN ops (listed.setIfInBounds i true) = (leftN ops listed).filter fun k => k != i := by
    unfold leftN
    rw [List.filter_filter]
    apply List.filter_congr
    intro k _
    by_cases hk : k = i
    · subst hk
      have : k < listed.size := by
        have := (List.mem_filter.1 h).1
        rw [List.mem_range] at this
        omega
      simp [this]
    · have : (k != i) = true := by simpa using hk
      rw [this]
      simp [Ne.symm hk]
  rw [e]
  refine (List.length_filter_lt_length_iff_exists).2 ⟨i, h, by simp⟩
theorem mem_left {listed : Array Bool} {i : Nat} : i ∈ leftN ops listed ↔ i < ops.size ∧ listed.getD i true = false := by
  unfold leftN
  rw [List.mem_filter, List.mem_range]
  simp
/-- No operation waits for a later one. -/
def Region.inRow (md : Region.Mode) (ops : Array Oper) : Bool := (List.range ops.size).all fun i => match ops[i]? with
  | some o => o.after.toList.all fun e => !Region.binds md e || decide (e.on < i)
  | none => true
theorem all_listed (hrow : Region.inRow md ops = true) {listed : Array Bool} (hl : listed.size = ops.size) (hr : Region.ready md ops listed = []) : ∀ i, i < ops.size → listed.getD i false = true := by
  intro i
  induction i using Nat.strongRecOn with
  | _ i ih =>
    intro hi
    apply Classical.byContradiction
    intro hn
    have hf : listed.getD i true = false := by
      have : i < listed.size := by omega
      simp [this] at hn ⊢
      exact hn
    have : i ∈ Region.ready md ops listed := by
      rw [mem_ready]
      refine ⟨hf, ops[i], by simp [hi], fun e he hb => ?_⟩
      have h1 := List.all_eq_true.1 hrow i (List.mem_range.2 hi)
      rw [show ops[i]? = some ops[i] by simp [hi]] at h1
      have h2 := List.all_eq_true.1 h1 e (by simpa using he)
      rw [hb] at h2
      have h3 : e.on < i := by simpa using h2
      have := ih e.on h3 (by omega)
      exact this
    rw [hr] at this
    cases this
/-- No two operations write one slot; all slots are there. -/
def Region.apartD (ops : Array Oper) (n : Nat) : Bool := (List.range ops.size).all fun i => (match (ops[i]?).bind (·.dst) with
  | some d => decide (d < n)
  | none => true) && (List.range ops.size).all fun j => i == j || match (ops[i]?).bind (·.dst), (ops[j]?).bind (·.dst) with
  | some d, some e => !(d == e)
  | _, _ => true
theorem free_any {Sem : Nat → Value → World → Prop} {a0 : Act} {w0 : World} {n0 : Nat} (hrow : Region.inRow md ops = true) (hap : Region.apartD ops a0.tmps.size = true)
    (hmono : ∀ i v u u', Sem i v u → Below u.heap.size u u' → Sem i v u')
    (hstep : ∀ i o a w, ops[i]? = some o → FreeIn md ops Sem a0 o a w → Below n0 w0 w → wpOp P ops Q i (fun b u => ∃ v, b = a.put o.dst v ∧ Sem i v u ∧ Below w.heap.size w u) a w)
    (hfin : ∀ a w, FreeAt ops Sem a0 (Array.replicate ops.size true) a w → Below n0 w0 w → Q .normal a w) (hn0 : n0 ≤ w0.heap.size) :
    ∀ n listed a w, (leftN ops listed).length ≤ n → FreeAt ops Sem a0 listed a w → Below n0 w0 w → wpAny P md ops Q n listed a w := by
  have hend : ∀ listed a w, Region.ready md ops listed = [] → FreeAt ops Sem a0 listed a w → Below n0 w0 w → Q .normal a w := by
    intro listed a w hr hF hb
    refine hfin a w ⟨hF.size, hF.defers, by simp, hF.out, fun i d _ hd => hF.done i d ?_ hd⟩ hb
    refine all_listed hrow hF.lsize hr i ?_
    apply Classical.byContradiction
    intro h
    rw [Array.getElem?_eq_none (by omega)] at hd
    cases hd
  intro n
  induction n with
  | zero =>
    intro listed a w hn hF hb
    have hr : Region.ready md ops listed = [] := by
      apply List.eq_nil_iff_forall_not_mem.2
      intro i hi
      obtain ⟨h1, o, ho, _⟩ := mem_ready.1 hi
      have : i ∈ leftN ops listed := mem_left.2 ⟨(Array.getElem?_eq_some_iff.1 ho).1, h1⟩
      have h0 : leftN ops listed = [] := List.eq_nil_of_length_eq_zero (by omega)
      rw [h0] at this
      cases this
    exact ⟨hr, hend _ _ _ hr hF hb⟩
  | succ n ih =>
    intro listed a w hn hF hb
    refine ⟨fun hr => hend _ _ _ hr hF hb, fun i hi => ?_⟩
    obtain ⟨h1, o, ho, hall⟩ := mem_ready.1 hi
    have hio : i < ops.size := (Array.getElem?_eq_some_iff.1 ho).1
    have hil : i < listed.size := by rw [hF.lsize]; exact hio
    have hIn : FreeIn md ops Sem a0 o a w := ⟨hF.size, hF.defers, hF.out, fun k d hk hd => by
      obtain ⟨e, he, h2⟩ : ∃ e ∈ o.after, (Region.binds md e && e.on == k) = true := by
        obtain ⟨e, he, h2⟩ := List.any_eq_true.1 hk
        exact ⟨e, by simpa using he, h2⟩
      rw [Bool.and_eq_true, beq_iff_eq] at h2
      obtain ⟨h2, rfl⟩ := h2
      exact hF.done e.on d (hall e he h2) hd⟩
    refine wpOp_mono (fun b u h => ?_) (hstep i o a w ho hIn hb)
    obtain ⟨v, rfl, hS, hbu⟩ := h
    refine ih _ _ _ (by have := leftN_set (mem_left.2 ⟨hio, h1⟩) hF.lsize; omega) ?_ (hb.trans (hbu.mono (Nat.le_trans hn0 hb.size)))
    have hA := List.all_eq_true.1 hap i (List.mem_range.2 hio)
    rw [Bool.and_eq_true] at hA
    obtain ⟨hA1, hA2⟩ := hA
    rw [ho, Option.bind_some] at hA1
    refine ⟨?_, ?_, by simp [hF.lsize], fun k hk => ?_, fun j d hj hd => ?_⟩
    · unfold Act.put
      split
      · simp [hF.size]
      · exact hF.size
    · unfold Act.put
      split <;> exact hF.defers
    · have := List.all_eq_true.1 hk o (by simpa using Array.mem_of_getElem? ho)
      unfold Act.put
      split
      · rename_i d hd
        rw [hd] at this
        have hdk : d ≠ k := by simpa using this
        show (a.tmps.setIfInBounds d v)[k]? = _
        rw [Array.getElem?_setIfInBounds_ne hdk]
        exact hF.out k hk
      · exact hF.out k hk
    · by_cases hji : j = i
      · subst hji
        rw [ho] at hd
        have hd' : o.dst = some d := hd
        rw [hd'] at hA1
        have hdn : d < a0.tmps.size := by simpa using hA1
        refine ⟨v, ?_, hS⟩
        unfold Act.put
        rw [hd']
        show (a.tmps.setIfInBounds d v)[d]? = _
        rw [Array.getElem?_setIfInBounds_self, if_pos (by rw [hF.size]; exact hdn)]
      · have hj2 : listed.getD j false = true := by
          have : (listed.setIfInBounds i true)[j]? = listed[j]? := Array.getElem?_setIfInBounds_ne (Ne.symm hji)
          simpa [this] using hj
        obtain ⟨v', h5, h6⟩ := hF.done j d hj2 hd
        refine ⟨v', ?_, hmono _ _ _ _ h6 hbu⟩
        unfold Act.put
        split
        · rename_i d' hd'
          have hne : d' ≠ d := by
            have hjo : j < ops.size := by
              apply Classical.byContradiction
              intro h
              rw [Array.getElem?_eq_none (by omega)] at hd
              cases hd
            have h7 := List.all_eq_true.1 hA2 j (List.mem_range.2 hjo)
            rw [ho, hd] at h7
            have hib : (i == j) = false := by simpa using Ne.symm hji
            rw [hib] at h7
            simp only [Option.bind_some, hd', Bool.false_or] at h7
            simpa using h7
          show (a.tmps.setIfInBounds d' v)[d]? = _
          rw [Array.getElem?_setIfInBounds_ne hne]
          exact h5
        · exact h5
theorem free_region {id : Nat} {Sem : Nat → Value → World → Prop} {a0 : Act} {w : World} (hm : P.follows .mixedOrders = true) {n : Nat} (hrow : Region.inRow .any ops = true) (hsz : a0.tmps.size = n) (hap : Region.apartD ops n = true)
    (hmono : ∀ i v u u', Sem i v u → Below u.heap.size u u' → Sem i v u')
    (hstep : ∀ i o a u, ops[i]? = some o → FreeIn .any ops Sem a0 o a u → Below w.drew.heap.size w.drew u → wpOp P ops Q i (fun b u' => ∃ v, b = a.put o.dst v ∧ Sem i v u' ∧ Below u.heap.size u u') a u)
    (hfin : ∀ a u, FreeAt ops Sem a0 (Array.replicate ops.size true) a u → Below w.drew.heap.size w.drew u → Q .normal a u) : (Code.region id ops true).wp P Q a0 w :=
  wp_region_any hm (free_any hrow (by rw [hsz]; exact hap) hmono hstep hfin (Nat.le_refl _) _ _ _ _ (by unfold leftN; exact Nat.le_trans (List.length_filter_le _ _) (by simp)) ⟨rfl, rfl, by simp, fun _ _ => rfl, fun i d h _ => by
    simp [Array.getElem?_replicate] at h
    split at h <;> simp_all⟩ (Below.refl _ _))
/-- The slots written one behind the other. -/
def putFrom (vs : Nat → Value) : Act → List Oper → Nat → Act
  | a, [], _ => a
  | a, o :: os, i => putFrom vs (a.put o.dst (vs i)) os (i + 1)
theorem putFrom_eq {a : Act} (vs : Nat → Value) : ∀ (os : List Oper) (i : Nat) (b : Act), (∀ j d, ((os[j]?).bind (·.dst)) = some d → d < a.tmps.size → a.tmps[d]? = some (vs (i + j))) → b.tmps.size = a.tmps.size → b.defers = a.defers →
    (∀ k, (os.all fun o => !(o.dst == some k)) = true → b.tmps[k]? = a.tmps[k]?) → putFrom vs b os i = a
  | [], i, b, _, h1, h2, h3 => by
    have : b.tmps = a.tmps := Array.ext_getElem? fun k => h3 k rfl
    cases a; cases b
    simp only at this h2
    rw [putFrom, this, h2]
  | o :: os, i, b, hv, h1, h2, h3 => by
    rw [putFrom]
    refine putFrom_eq vs os (i + 1) _ (fun j d hj hd => ?_) ?_ ?_ (fun k hk => ?_)
    · have := hv (j + 1) d (by simpa using hj) hd
      rw [this, show i + (j + 1) = i + 1 + j by omega]
    · unfold Act.put
      split
      · simp [h1]
      · exact h1
    · unfold Act.put
      split <;> exact h2
    · unfold Act.put
      split
      · rename_i d hd
        show (b.tmps.setIfInBounds d (vs i))[k]? = _
        by_cases hdk : d = k
        · subst hdk
          by_cases hds : d < a.tmps.size
          · rw [Array.getElem?_setIfInBounds_self, if_pos (by rw [h1]; exact hds)]
            have := hv 0 d (by simpa using hd) hds
            rw [this]; rfl
          · rw [Array.getElem?_eq_none (by rw [Array.size_setIfInBounds, h1]; exact Nat.not_lt.1 hds), Array.getElem?_eq_none (Nat.not_lt.1 hds)]
        · rw [Array.getElem?_setIfInBounds_ne hdk]
          refine h3 k ?_
          simp only [List.all_cons, hk, Bool.and_true, hd]
          simpa using hdk
      · rename_i hd
        refine h3 k ?_
        simp only [List.all_cons, hk, Bool.and_true, hd]
        rfl
/-- A region whose orders are left alone: its end, with a letter a slot. -/
theorem free_walk {id : Nat} {Sem : Nat → Value → World → Prop} {a0 : Act} {w : World} (hm : P.follows .mixedOrders = true) {n : Nat} (hrow : Region.inRow .any ops = true) (hsz : a0.tmps.size = n) (hap : Region.apartD ops n = true)
    (hmono : ∀ i v u u', Sem i v u → Below u.heap.size u u' → Sem i v u')
    (hstep : ∀ i o a u, ops[i]? = some o → FreeIn .any ops Sem a0 o a u → Below w.drew.heap.size w.drew u → wpOp P ops Q i (fun b u' => ∃ v, b = a.put o.dst v ∧ Sem i v u' ∧ Below u.heap.size u u') a u)
    (hfin : ∀ (vs : Nat → Value) u, (∀ i d, ((ops[i]?).bind (·.dst)) = some d → Sem i (vs i) u) → Below w.drew.heap.size w.drew u → Q .normal (putFrom vs a0 ops.toList 0) u) : (Code.region id ops true).wp P Q a0 w := by
  refine free_region hm hrow hsz hap hmono hstep (fun a u hF hb => ?_)
  have hin : ∀ (i : Nat) (d : Tmp), ((ops[i]?).bind (fun x => Oper.dst x)) = some d → i < ops.size := by
    intro i d hd
    apply Classical.byContradiction
    intro h
    rw [Array.getElem?_eq_none (by omega)] at hd
    cases hd
  have hlist : ∀ (i : Nat) (d : Tmp), ((ops[i]?).bind (fun x => Oper.dst x)) = some d → (Array.replicate ops.size true).getD i false = true := by
    intro i d hd
    simp [hin i d hd]
  have h1 : ∀ (i : Nat) (d : Tmp), ((ops[i]?).bind (fun x => Oper.dst x)) = some d → a.tmps[d]? = some ((((ops[i]?).bind (fun x => Oper.dst x)).bind (a.tmps[·]?)).getD undef) := by
    intro i d hd
    obtain ⟨v, h1, _⟩ := hF.done i d (hlist i d hd) hd
    rw [hd]
    show _ = some ((a.tmps[d]?).getD undef)
    rw [h1]; rfl
  have key := hfin (fun i => (((ops[i]?).bind (fun x => Oper.dst x)).bind (a.tmps[·]?)).getD undef) u (fun i d hd => by
    obtain ⟨v, h2, h3⟩ := hF.done i d (hlist i d hd) hd
    have h4 := h1 i d hd
    rw [h2] at h4
    exact Option.some.inj h4 ▸ h3) hb
  rw [putFrom_eq (a := a) _ ops.toList 0 a0 (fun j d hj _ => by
    rw [Nat.zero_add]
    exact h1 j d (by simpa using hj)) hF.size.symm hF.defers.symm (fun k hk => (hF.out k hk).symm)] at key
  exact key
/-- An operation that is done, with the world that it leaves. -/
theorem free_op {i : Nat} {o : Oper} {K : Act → World → Prop} {a : Act} {w : World} (ho : ops[i]? = some o) (hw : Region.wanted o (yielded ops a.tmps) = true) (h : Oper.wp P o a w K Q) : wpOp P ops Q i K a w :=
  wpOp_step ho (fun K' hK => by rw [if_pos hw]; exact Oper.wp_mono hK h)
theorem free_not {i : Nat} {o : Oper} {K : Act → World → Prop} {a : Act} {w : World} (ho : ops[i]? = some o) (hw : Region.wanted o (yielded ops a.tmps) = false) (h : K (a.put o.dst undef) w) : wpOp P ops Q i K a w :=
  wpOp_step ho (fun K' hK => by rw [if_neg (by rw [hw]; simp)]; exact hK _ _ h)
/-- An operation that is done, and what is to be shown of it. -/
theorem free_step {i : Nat} {o : Oper} {Sem : Nat → Value → World → Prop} {a : Act} {w : World} (ho : ops[i]? = some o) (hw : Region.wanted o (yielded ops a.tmps) = true) (h : ∀ K' : Act → World → Prop, Hid (∀ v u, Sem i v u → Below w.heap.size w u → K' (a.put o.dst v) u) → Oper.wp P o a w K' Q) : wpOp P ops Q i (fun b u => ∃ v, b = a.put o.dst v ∧ Sem i v u ∧ Below w.heap.size w u) a w :=
  free_op ho hw (h _ (fun v _ hS hb => ⟨v, rfl, hS, hb⟩))
/-- One that is passed over. -/
theorem free_skip {i : Nat} {o : Oper} {Sem : Nat → Value → World → Prop} {a : Act} {w : World} (ho : ops[i]? = some o) (hw : Region.wanted o (yielded ops a.tmps) = false) (hS : Sem i undef w) : wpOp P ops Q i (fun b u => ∃ v, b = a.put o.dst v ∧ Sem i v u ∧ Below w.heap.size w u) a w :=
  free_not ho hw ⟨undef, rfl, hS, Below.refl _ _⟩
end
end Go.Proofs.YtbepjlhknmhmeaaDoor
