/-
  A region that draws its order, one operation of which (z) writes into memory that is new since the region began: without its orders. Of no layer alone.
  Appends onto a slice of no room (the literal of no elements): nothing that was there is touched. Of no layer alone.
  Package hash: a keyed digest's two beginnings.
-/
import Derived.Test.YtgehgcnaoapbbaaDoorKPadEtc
import Derived.Test.YtgehgcnaoapbbaaDoorUGen
import Derived.Test.YtgehgcnaoapbbaaDoorHGen
import Derived.Great.FillDense
namespace Go.Proofs.YtgehgcnaoapbbaaDoor
open Go.RowKit
set_option maxRecDepth 100000

section
variable {P : Program} {ops : Array Oper} {Q : Exit → Act → World → Prop} {md : Region.Mode}
/-- What is known ahead of operation i: what z waits for (dead) is told as long as z is not done. -/
structure FreeInD (md : Region.Mode) (ops : Array Oper) (Sem : Nat → Value → World → Prop) (dead early : Nat → Bool) (a0 : Act) (i : Nat) (o : Oper) (a : Act) (w : World) : Prop where
  size : a.tmps.size = a0.tmps.size
  defers : a.defers = a0.defers
  out : ∀ k, (ops.toList.all fun o => !(o.dst == some k)) = true → a.tmps[k]? = a0.tmps[k]?
  dep : ∀ k d, (o.after.toList.any fun e => Region.binds md e && e.on == k) = true → ((ops[k]?).bind (·.dst)) = some d → (dead k = true → early i = true) → ∃ v, a.tmps[d]? = some v ∧ Sem k v w
structure FreeAtD (ops : Array Oper) (Sem : Nat → Value → World → Prop) (dead : Nat → Bool) (z : Nat) (a0 : Act) (listed : Array Bool) (a : Act) (w : World) : Prop where
  size : a.tmps.size = a0.tmps.size
  defers : a.defers = a0.defers
  lsize : listed.size = ops.size
  out : ∀ k, (ops.toList.all fun o => !(o.dst == some k)) = true → a.tmps[k]? = a0.tmps[k]?
  done : ∀ i d, listed.getD i false = true → ((ops[i]?).bind (·.dst)) = some d → ∃ v, a.tmps[d]? = some v ∧ ((dead i = true → listed.getD z true = false) → Sem i v w)
theorem freeD_any {Sem : Nat → Value → World → Prop} {dead early late : Nat → Bool} {z : Nat} {a0 : Act} {w0 : World} {n0 : Nat} (hrow : Region.inRow md ops = true) (hap : Region.apartD ops a0.tmps.size = true)
    (hearly : ∀ j, early j = true → j = z ∨ ∃ l, Region.path md ops z (l ++ [j]) = true) (hlate : ∀ j, late j = true → j = z ∨ ∃ l, Region.path md ops j (l ++ [z]) = true) (hmono : ∀ i v u u', Sem i v u → Below u.heap.size u u' → Sem i v u') (hmonoZ : ∀ i v u u', late i = false → dead i = false → Sem i v u → Below n0 u u' → n0 ≤ u.heap.size → Sem i v u')
    (hstep : ∀ i o a w, ops[i]? = some o → FreeInD md ops Sem dead early a0 i o a w → Below n0 w0 w → wpOp P ops Q i (fun b u => ∃ v, b = a.put o.dst v ∧ Sem i v u ∧ Below n0 w u ∧ (i ≠ z → Below w.heap.size w u)) a w)
    (hfin : ∀ a w, FreeAtD ops Sem dead z a0 (Array.replicate ops.size true) a w → Below n0 w0 w → Q .normal a w) (hn0 : n0 ≤ w0.heap.size) :
    ∀ n listed a w, (leftN ops listed).length ≤ n → FreeAtD ops Sem dead z a0 listed a w → Below n0 w0 w → ClosedL md ops listed → z < ops.size → wpAny P md ops Q n listed a w := by
  have hend : ∀ listed a w, Region.ready md ops listed = [] → FreeAtD ops Sem dead z a0 listed a w → Below n0 w0 w → z < ops.size → Q .normal a w := by
    intro listed a w hr hF hb hzo
    refine hfin a w ⟨hF.size, hF.defers, by simp, hF.out, fun i d _ hd => ?_⟩ hb
    have hin : listed.getD i false = true := ?hin
    · obtain ⟨v, h1, h2⟩ := hF.done i d hin hd
      refine ⟨v, h1, fun h3 => h2 (fun h4 => ?_)⟩
      have := h3 h4
      simp [hzo] at this
    refine all_listed hrow hF.lsize hr i ?_
    apply Classical.byContradiction
    intro h
    rw [Array.getElem?_eq_none (by omega)] at hd
    cases hd
  intro n
  induction n with
  | zero =>
    intro listed a w hn hF hb _ hzo
    have hr : Region.ready md ops listed = [] := by
      apply List.eq_nil_iff_forall_not_mem.2
      intro i hi
      obtain ⟨h1, o, ho, _⟩ := mem_ready.1 hi
      have : i ∈ leftN ops listed := mem_left.2 ⟨(Array.getElem?_eq_some_iff.1 ho).1, h1⟩
      have h0 : leftN ops listed = [] := List.eq_nil_of_length_eq_zero (by omega)
      rw [h0] at this
      cases this
    exact ⟨hr, hend _ _ _ hr hF hb hzo⟩
  | succ n ih =>
    intro listed a w hn hF hb hcl hzo
    refine ⟨fun hr => hend _ _ _ hr hF hb hzo, fun i hi => ?_⟩
    obtain ⟨h1, o, ho, hall⟩ := mem_ready.1 hi
    have hio : i < ops.size := (Array.getElem?_eq_some_iff.1 ho).1
    have hil : i < listed.size := by rw [hF.lsize]; exact hio
    have hznot : early i = true → listed.getD z true = false := by
      intro he
      rcases hearly i he with h | ⟨l, hp⟩
      · rw [← h]; exact h1
      · apply Classical.byContradiction
        intro hzl
        have hzs : z < listed.size := by rw [hF.lsize]; exact hzo
        have hz1 : listed.getD z false = true := by
          simp [hzs] at hzl ⊢
          exact hzl
        have h9 := path_listed hcl _ _ hp hz1 i (by simp)
        simp [hil] at h1 h9
        rw [h1] at h9
        cases h9
    have hIn : FreeInD md ops Sem dead early a0 i o a w := ⟨hF.size, hF.defers, hF.out, fun k d hk hd hde => by
      obtain ⟨e, he, h2⟩ : ∃ e ∈ o.after, (Region.binds md e && e.on == k) = true := by
        obtain ⟨e, he, h2⟩ := List.any_eq_true.1 hk
        exact ⟨e, by simpa using he, h2⟩
      rw [Bool.and_eq_true, beq_iff_eq] at h2
      obtain ⟨h2, rfl⟩ := h2
      obtain ⟨v, h5, h6⟩ := hF.done e.on d (hall e he h2) hd
      exact ⟨v, h5, h6 (fun h => hznot (hde h))⟩⟩
    refine wpOp_mono (fun b u h => ?_) (hstep i o a w ho hIn hb)
    obtain ⟨v, rfl, hS, hbn, hbu⟩ := h
    have hn0w : n0 ≤ w.heap.size := Nat.le_trans hn0 hb.size
    refine ih _ _ _ (by have := leftN_set (mem_left.2 ⟨hio, h1⟩) hF.lsize; omega) ?_ (hb.trans hbn) ?_ hzo
    rotate_left
    · intro j oj hj hlj e he hbe
      have hset : ∀ k, k ≠ i → (listed.setIfInBounds i true).getD k false = listed.getD k false := fun k hk => by
        have : (listed.setIfInBounds i true)[k]? = listed[k]? := Array.getElem?_setIfInBounds_ne (Ne.symm hk)
        simp [this]
      have hold : listed.getD e.on false = true := by
        by_cases hji : j = i
        · subst hji
          rw [ho] at hj
          obtain rfl := Option.some.inj hj
          exact hall e he hbe
        · rw [hset j hji] at hlj
          exact hcl j oj hj hlj e he hbe
      by_cases hei : e.on = i
      · rw [hei]
        simp [hil]
      · rw [hset e.on hei]; exact hold
    have hA := List.all_eq_true.1 hap i (List.mem_range.2 hio)
    rw [Bool.and_eq_true] at hA
    obtain ⟨hA1, hA2⟩ := hA
    rw [ho, Option.bind_some] at hA1
    refine ⟨?_, ?_, by simp [hF.lsize], fun k hk => ?_, fun j d hj hd => ?_⟩
    · unfold Act.put
      split
      · simp [hF.size]
      · exact hF.size
    · unfold Act.put
      split <;> exact hF.defers
    · have := List.all_eq_true.1 hk o (by simpa using Array.mem_of_getElem? ho)
      unfold Act.put
      split
      · rename_i d hd
        rw [hd] at this
        have hdk : d ≠ k := by simpa using this
        show (a.tmps.setIfInBounds d v)[k]? = _
        rw [Array.getElem?_setIfInBounds_ne hdk]
        exact hF.out k hk
      · exact hF.out k hk
    · by_cases hji : j = i
      · subst hji
        rw [ho] at hd
        have hd' : o.dst = some d := hd
        rw [hd'] at hA1
        have hdn : d < a0.tmps.size := by simpa using hA1
        refine ⟨v, ?_, fun _ => hS⟩
        unfold Act.put
        rw [hd']
        show (a.tmps.setIfInBounds d v)[d]? = _
        rw [Array.getElem?_setIfInBounds_self, if_pos (by rw [hF.size]; exact hdn)]
      · have hj2 : listed.getD j false = true := by
          have : (listed.setIfInBounds i true)[j]? = listed[j]? := Array.getElem?_setIfInBounds_ne (Ne.symm hji)
          simpa [this] using hj
        obtain ⟨v', h5, h6⟩ := hF.done j d hj2 hd
        refine ⟨v', ?_, fun hde => ?_⟩
        rotate_left
        · by_cases hiz : i = z
          · subst hiz
            have hdj : dead j = false := by
              apply Classical.byContradiction
              intro hd'
              have := hde (by simpa using hd')
              simp [hil] at this
            have hlj : late j = false := by
              apply Classical.byContradiction
              intro hl
              rcases hlate j (by simpa using hl) with h | ⟨l, hp⟩
              · exact hji h
              · have h9 := path_listed hcl _ _ hp hj2 i (by simp)
                simp [hil] at h1 h9
                rw [h1] at h9
                cases h9
            exact hmonoZ _ _ _ _ hlj hdj (h6 (fun h => by rw [hdj] at h; cases h)) hbn hn0w
          · refine hmono _ _ _ _ (h6 (fun h => ?_)) (hbu hiz)
            have := hde h
            have h9 : (listed.setIfInBounds i true)[z]? = listed[z]? := Array.getElem?_setIfInBounds_ne hiz
            simpa [h9] using this
        unfold Act.put
        split
        · rename_i d' hd'
          have hne : d' ≠ d := by
            have hjo : j < ops.size := by
              apply Classical.byContradiction
              intro h
              rw [Array.getElem?_eq_none (by omega)] at hd
              cases hd
            have h7 := List.all_eq_true.1 hA2 j (List.mem_range.2 hjo)
            rw [ho, hd] at h7
            have hib : (i == j) = false := by simpa using Ne.symm hji
            rw [hib] at h7
            simp only [Option.bind_some, hd', Bool.false_or] at h7
            simpa using h7
          show (a.tmps.setIfInBounds d' v)[d]? = _
          rw [Array.getElem?_setIfInBounds_ne hne]
          exact h5
        · exact h5
/-- The region, with a letter a slot at its end. -/
theorem freeD_walk {id : Nat} {Sem : Nat → Value → World → Prop} (z : Nat) (dead early late : Nat → Bool) {a0 : Act} {w : World} (hm : P.follows .mixedOrders = true) {n : Nat} (hrow : Region.inRow .any ops = true) (hsz : a0.tmps.size = n) (hap : Region.apartD ops n = true)
    (hearly : ∀ j, early j = true → j = z ∨ ∃ l, Region.path .any ops z (l ++ [j]) = true) (hlate : ∀ j, late j = true → j = z ∨ ∃ l, Region.path .any ops j (l ++ [z]) = true) (hzo : z < ops.size)
    (hmono : ∀ i v u u', Sem i v u → Below u.heap.size u u' → Sem i v u') (hmonoZ : ∀ i v u u', late i = false → dead i = false → Sem i v u → Below w.drew.heap.size u u' → w.drew.heap.size ≤ u.heap.size → Sem i v u')
    (hstep : ∀ i o a u, ops[i]? = some o → FreeInD .any ops Sem dead early a0 i o a u → Below w.drew.heap.size w.drew u → wpOp P ops Q i (fun b u' => ∃ v, b = a.put o.dst v ∧ Sem i v u' ∧ Below w.drew.heap.size u u' ∧ (i ≠ z → Below u.heap.size u u')) a u)
    (hfin : ∀ (vs : Nat → Value) u, (∀ i d, ((ops[i]?).bind (·.dst)) = some d → dead i = false → Sem i (vs i) u) → Below w.drew.heap.size w.drew u → Q .normal (putFrom vs a0 ops.toList 0) u) : (Code.region id ops true).wp P Q a0 w := by
  refine wp_region_any hm (freeD_any hrow (by rw [hsz]; exact hap) hearly hlate hmono hmonoZ hstep ?_ (Nat.le_refl _) _ _ _ _ (by unfold leftN; exact Nat.le_trans (List.length_filter_le _ _) (by simp)) ⟨rfl, rfl, by simp, fun _ _ => rfl, fun i d h _ => by
    simp [Array.getElem?_replicate] at h
    split at h <;> simp_all⟩ (Below.refl _ _) (fun i o _ h => by
    simp [Array.getElem?_replicate] at h
    split at h <;> simp_all) hzo)
  intro a u hF hb
  have hin : ∀ (i : Nat) (d : Tmp), ((ops[i]?).bind (fun x => Oper.dst x)) = some d → i < ops.size := by
    intro i d hd
    apply Classical.byContradiction
    intro h
    rw [Array.getElem?_eq_none (by omega)] at hd
    cases hd
  have hlist : ∀ (i : Nat) (d : Tmp), ((ops[i]?).bind (fun x => Oper.dst x)) = some d → (Array.replicate ops.size true).getD i false = true := by
    intro i d hd
    simp [hin i d hd]
  have h1 : ∀ (i : Nat) (d : Tmp), ((ops[i]?).bind (fun x => Oper.dst x)) = some d → a.tmps[d]? = some ((((ops[i]?).bind (fun x => Oper.dst x)).bind (a.tmps[·]?)).getD undef) := by
    intro i d hd
    obtain ⟨v, h1, _⟩ := hF.done i d (hlist i d hd) hd
    rw [hd]
    show _ = some ((a.tmps[d]?).getD undef)
    rw [h1]; rfl
  have key := hfin (fun i => (((ops[i]?).bind (fun x => Oper.dst x)).bind (a.tmps[·]?)).getD undef) u (fun i d hd hdd => by
    obtain ⟨v, h2, h3⟩ := hF.done i d (hlist i d hd) hd
    have h4 := h1 i d hd
    rw [h2] at h4
    exact Option.some.inj h4 ▸ h3 (fun h => by rw [hdd] at h; cases h)) hb
  rw [putFrom_eq (a := a) _ ops.toList 0 a0 (fun j d hj _ => by
    rw [Nat.zero_add]
    exact h1 j d (by simpa using hj)) hF.size.symm hF.defers.symm (fun k hk => (hF.out k hk).symm)] at key
  exact key
/-- An operation but z. -/
theorem freeD_step {i z : Nat} {n0 : Nat} {o : Oper} {Sem : Nat → Value → World → Prop} {a : Act} {w : World} (hn : n0 ≤ w.heap.size) (ho : ops[i]? = some o) (hw : Region.wanted o (yielded ops a.tmps) = true) (h : ∀ K' : Act → World → Prop, Hid (∀ v u, Sem i v u → Below w.heap.size w u → K' (a.put o.dst v) u) → Oper.wp P o a w K' Q) : wpOp P ops Q i (fun b u => ∃ v, b = a.put o.dst v ∧ Sem i v u ∧ Below n0 w u ∧ (i ≠ z → Below w.heap.size w u)) a w :=
  free_op ho hw (h _ (fun v _ hS hb => ⟨v, rfl, hS, hb.mono hn, fun _ => hb⟩))
/-- z. -/
theorem freeD_stepZ {i : Nat} {n0 : Nat} {o : Oper} {Sem : Nat → Value → World → Prop} {a : Act} {w : World} (ho : ops[i]? = some o) (hw : Region.wanted o (yielded ops a.tmps) = true) (h : ∀ K' : Act → World → Prop, Hid (∀ v u, Sem i v u → Below n0 w u → K' (a.put o.dst v) u) → Oper.wp P o a w K' Q) : wpOp P ops Q i (fun b u => ∃ v, b = a.put o.dst v ∧ Sem i v u ∧ Below n0 w u ∧ (i ≠ i → Below w.heap.size w u)) a w :=
  free_op ho hw (h _ (fun v _ hS hb => ⟨v, rfl, hS, hb, fun h => absurd rfl h⟩))
end
end Go.Proofs.YtgehgcnaoapbbaaDoor

namespace Go.Proofs.YtgehgcnaoapbbaaDoor
open Go.RowKit Ch
set_option maxRecDepth 100000

theorem run_append_fresh {P : Program} (w : World) (base : Nat) (t ty e : TypeId) (i : TypeInfo) (z : Value) (bytes : Nat) (ht : P.underlying t = some (.slice e)) (hi : P.info? e = some i) (hz : i.zero = some z)
    (hsize : i.size = 1) (hby : i.bytes = bytes) (hzs : z.cells.size = 1)
    (g : Nat) (hown : w.ownsRow base e 1 (.slice (some ⟨g, 0, none⟩) 0 0) 0 [])
    (a : Addr) (m c : Nat) (news : List Value) (hl : news.length = m * 1) (hnews : ∀ j u, news[j]? = some u → w.cell? (a.add j) = some u) (h1 : ∀ u ∈ news, u.oneCell' = true)
    (h63 : m ≤ maxLen) (hbytes : m * bytes ≤ 140737488355328) (hbase : base ≤ w.heap.size) :
    ∃ v' w', (Builtin.append_ #[t, t] ty #[.slice (some ⟨g, 0, none⟩) 0 0, .slice (some a) m c]).run P w = .ok v' w' ∧ w'.ownsRow base e 1 v' m news ∧ Below w.heap.size w w' := by
  obtain ⟨v', w', hr, h2, h3, _⟩ := run_append_own (P := P) w base t ty e i z 1 bytes ht hi hz hsize hby hzs (by decide) _ 0 [] hown a m c news hl hnews h1 (by omega) (by rw [Nat.zero_add]; exact hbytes) hbase
  rw [Nat.zero_add, List.nil_append] at h2
  refine ⟨v', w', hr, h2, ?_⟩
  have hl' : news.length = m * i.size := by rw [hsize]; exact hl
  have hsmall : m ≤ 9223372036854775807 := by simp only [maxLen] at h63; omega
  have hbytes' : (0 + m) * i.bytes ≤ 140737488355328 := by rw [hby, Nat.zero_add]; exact hbytes
  rcases hown.2 with ⟨hv, _⟩ | ⟨g', cap, cur, hv, hbg, hg, hnc, hcm, hcs, htake⟩
  · cases hv
  · simp only [Value.slice.injEq, Option.some.injEq, Addr.mk.injEq, and_true] at hv
    obtain ⟨h5, _, h4⟩ := hv
    subst h4
    subst h5
    have hcur : cur = #[] := Array.eq_empty_of_size_eq_zero (by omega)
    subst hcur
    by_cases hm : m = 0
    · have hn : news = [] := List.eq_nil_of_length_eq_zero (by omega)
      subst hn
      subst hm
      have hr2 := run_append_room (P := P) w t ty e i ht hi g 0 0 #[] hg a 0 c [] hl' hnews h1 (by omega) (by simp)
      rw [hr] at hr2
      simp only [Result.ok.injEq] at hr2
      rw [hr2.2]
      refine ⟨rfl, rfl, rfl, by simp, fun k _ => ?_⟩
      by_cases hk : k = g
      · subst hk
        rw [hg]
        have := setRow_heap w k #[] (List.take (0 * i.size) ([] : List Value) ++ [] ++ List.drop (0 * i.size + ([] : List Value).length) []).toArray e (0, 0) hg
        rw [this]
        simp
      · show (w.heap.modify g _)[k]? = _
        rw [Array.getElem?_modify, if_neg (Ne.symm hk)]
    · have hr2 := run_append_grow (P := P) w t ty e i z ht hi hz ⟨g, 0, none⟩ 0 0 [] (by simp) (fun j u hu => by cases hu) a m c news hl' hnews (by omega) (by omega) (growslice_fits (by omega) hbytes')
      rw [hr] at hr2
      simp only [Result.ok.injEq] at hr2
      rw [hr2.2]
      exact ⟨rfl, rfl, rfl, by simp, fun k hk => heap_push_old w.drew _ hk⟩
/-- append of bytes onto a slice of no room, at an operation of a region that draws. -/
theorem wp_append_freshb {w : World} {o : Oper} {a : Act} {K : Act → World → Prop} {Q : Exit → Act → World → Prop} (so x : Operand)
    (ho : o.op = .call { callee := .builtin .append, args := #[so, x], argTypes := #[23, 23] })
    (base g : Nat) (hs : a.eval so = .slice (some ⟨g, 0, none⟩) 0 0) (hown : w.ownsRow base 5 1 (.slice (some ⟨g, 0, none⟩) 0 0) 0 [])
    (u : Value) (t : ByteArray) (hx : a.eval x = u) (hu : IsBytes w u t) (hsz : t.size ≤ 1000000) (hbase : base ≤ w.heap.size)
    (h : ∀ v' w', w'.ownsRow base 5 1 v' t.data.toList.length (Lib.byteCells t.data.toList) → Below w.heap.size w w' → K (a.put o.dst v') w') : o.wp Tryd.prog a w K Q := by
  obtain ⟨i0, hi, hz0, hz1, hz2⟩ := info5
  obtain ⟨b, cap, rfl, hc, hm, hrest⟩ := hu
  match b, hrest with
  | none, hrest =>
    have h0 : t.size = 0 ∧ cap = 0 := by
      rcases hrest with ⟨_, h0, h1⟩ | ⟨_, h0, _⟩
      · exact ⟨h0, h1⟩
      · cases h0
    have ht : t.data.toList = [] := List.eq_nil_of_length_eq_zero (by rw [len_eq]; exact h0.1)
    rw [h0.1, h0.2] at hx
    have hrun := run_append_owned_none (P := Tryd.prog) (w := w) base 23 o.type 5 i0 1 Tryd.underlying23 hi _ 0 _ hown
    have := h (.slice (some ⟨g, 0, none⟩) 0 0) w
    rw [ht] at this
    have := this hown (Below.refl _ _)
    unfold Oper.wp
    simp [execOp, ho, resolve, invoke, builtin, hs, hx, hrun, Result.andThen]
    exact this
  | some y, hrest =>
    obtain ⟨v', w', hr, h2, h3⟩ := run_append_fresh (P := Tryd.prog) w base 23 o.type 5 i0 (.int .u8 0) 1 Tryd.underlying23 hi hz0 hz1 hz2 rfl g hown y t.size cap (byteVals t) (by rw [byteVals_length]; omega) (IsBytes.news (n := t.size) (cap := cap) ⟨some y, cap, rfl, hc, hm, hrest⟩) (byteVals_one t) (by unfold maxLen; omega) (by omega) hbase
    have := h v' w' (by rw [len_eq]; exact h2) h3
    unfold Oper.wp execOp
    simp only [ho, resolve, invoke, builtin, Sem.run_bind, Sem.run_pure, Result.andThen_ok, List.map_toArray, List.map_cons, List.map_nil, hs, hx, hr]
    exact this
/-- append of bytes onto an owned row, at an operation of a region that draws. -/
theorem wp_append_list {w : World} {o : Oper} {a : Act} {K : Act → World → Prop} {Q : Exit → Act → World → Prop} (hgd : o.guard = none) (so x : Operand)
    (ho : o.op = .call { callee := .builtin .append, args := #[so, x], argTypes := #[23, 23] })
    (base : Nat) (v : Value) (acc : List UInt8) (hs : a.eval so = v) (hown : w.ownsRow base 5 1 v acc.length (Lib.byteCells acc))
    (u : Value) (t : ByteArray) (hx : a.eval x = u) (hu : IsBytes w u t) (hsz : acc.length + t.size ≤ 1000000) (hbase : base ≤ w.heap.size) (r : List UInt8) (hr : Hid (acc ++ t.data.toList = r))
    (h : ∀ a' cap' w', w'.ownsRow base 5 1 (.slice a' r.length cap') r.length (Lib.byteCells r) → Below base w w' → K (a.put o.dst (.slice a' r.length cap')) w') : o.wp Tryd.prog a w K Q := by
  have hw : Region.wanted o (yielded #[] a.tmps) = true := by simp [Region.wanted, hgd]
  have := step_append_list (ops := #[]) (Q := Q) (E := True) hgd so x ho base v acc hs hown u t hx hu hsz hbase r hr h
  rwa [if_pos hw] at this
end Go.Proofs.YtgehgcnaoapbbaaDoor

namespace Go.Proofs.YtgehgcnaoapbbaaDoor
open Go.RowKit Ch
set_option maxRecDepth 100000

def zeroKey : Array Value := zeroDig ++ zeroDig
theorem infoKey : (Tryd.prog.info? 60).map (fun i => (i.zero, i.size)) = some (some (.agg zeroKey), 148) := by kernel_rfl
theorem built_keyed (D1 D2 : Array Value) (h1 : D1.size = 74) (h2 : D2.size = 74) : Tryd.prog.built 60 [(0, .agg D1), (1, .agg D2)] = some (D1 ++ D2) := by
  have e : Tryd.prog.built 60 [(0, .agg D1), (1, .agg D2)] = Instr.fill (fun i => some (i * 74, 74)) zeroKey [(0, .agg D1), (1, .agg D2)] := by kernel_rfl
  have hw := Go.Great.fill_whole (s := 74) (by omega) [.agg D1, .agg D2] zeroKey (by intro v hv; simp only [List.mem_cons, List.not_mem_nil, or_false] at hv; rcases hv with rfl | rfl; exact h1; exact h2) (by show 2 * 74 = zeroKey.size; unfold zeroKey; rw [Array.size_append, show zeroDig.size = 74 from rfl])
  rw [e]
  refine hw.trans ?_
  congr 1
  apply Array.toList_inj.1
  rw [List.toList_toArray, Array.toList_append]
  show D1.toList ++ (D2.toList ++ []) = _
  rw [List.append_nil]
set_option maxHeartbeats 1000000 in
theorem kNewKeyed_any (x : Option Addr) (cap : Nat) (s : ByteArray) (w : World) (hs : s.size ≤ 900000) (hB : IsBytes w (.slice x s.size cap) s) (hK : KTab w) :
    Calls Tryd.prog 25 #[.slice x s.size cap] w fun e w' => (∃ D1 D2, e = .returned (.agg (D1 ++ D2)) ∧ DgV D1 (padK (keyB s.data.toList) 54) 64 ∧ DgV D2 (padK (keyB s.data.toList) 92) 64) ∧ Below w.heap.size w w' := by
  obtain ⟨hz, hi⟩ := zero_of_info infoKey
  have hN0 := heap_push_at w (.cells zeroKey 60)
  have hb0 : Below w.heap.size w (w.alloc (.cells zeroKey 60)) := (Below.refl _ w).alloc (Nat.le_refl _) _
  have hz148 : zeroKey.size = 148 := by unfold zeroKey; rw [Array.size_append, show zeroDig.size = 74 from rfl]
  have e54 : ((54 : Nat) : Int) = 54 := rfl
  have e92 : ((92 : Nat) : Int) = 92 := rfl
  by_cases hlong : 64 < s.size
  · have hl2 : (64 : Int) < (s.size : Int) := by omega
    go_enter Tryd.func25, Tryd.ntmps25
    go_wp2_with fail
    have hb1 : Below w.heap.size w ((w.alloc (.cells zeroKey 60)).alloc (.cells #[.slice x s.size cap] 23)) := hb0.alloc (by simp) _
    have hSl := IsSl.one (hB.later hb0)
    have hsz0 : (w.alloc (.cells zeroKey 60)).heap.size = w.heap.size + 1 := by simp
    rw [hsz0] at hSl
    have hfl : flatB [s] = s.data.toList := by simp [flatB]
    have hSum := kSum_any (.slice (some ⟨w.heap.size + 1, 0, none⟩) 1 1) [s] _ hSl (hK.later hb1) (by rw [hfl, len_eq]; exact hs) (by simp)
    rw [hfl] at hSum
    have hR1 := block_alloc (.cells #[.slice x s.size cap] 23) hN0
    generalize (w.alloc (.cells zeroKey 60)).alloc (.cells #[.slice x s.size cap] 23) = W1 at *
    refine hSum.mono ?_
    rintro e w2 ⟨⟨B, rfl, _, hIB⟩, hb2⟩
    have hkey : keyB s.data.toList = shaL s.data.toList := by unfold keyB; rw [if_pos (by rw [len_eq]; exact hlong)]
    have hsl := shaL_length s.data.toList
    obtain ⟨SH, hSH⟩ : ∃ SH, shaL s.data.toList = SH := ⟨_, rfl⟩
    rw [hSH] at hkey hsl hIB
    have HKEY := show Hid (keyB s.data.toList = SH) from hkey
    have hzS : (⟨SH.toArray⟩ : ByteArray).size = 32 := by rw [size_of_list]; exact hsl
    have hR2 := (hb2.block w.heap.size (block_lt hR1)).trans hR1
    have hbw2 : Below w.heap.size w w2 := hb1.trans (hb2.mono hb1.size)
    have hIB2 : IsBytes w2 (.slice (some ⟨B, 0, none⟩) (⟨SH.toArray⟩ : ByteArray).size 32) ⟨SH.toArray⟩ := by rw [hzS]; exact hIB
    have hK2 := hK.later hbw2
    clear hSum hkey hSH hSl
    go_wp2_with fail
    have hP1 := kPadded_any (some ⟨B, 0, none⟩) 32 ⟨SH.toArray⟩ 54 w2 (by omega) (by omega) hIB2 hK2
    rw [e54, hzS] at hP1
    refine hP1.mono ?_
    rintro e wa ⟨⟨D1, rfl, hD1⟩, hba⟩
    have hP2 := kPadded_any (some ⟨B, 0, none⟩) 32 ⟨SH.toArray⟩ 92 wa (by omega) (by omega) ((hIB2).later hba) ((hK2).later hba)
    rw [e92, hzS] at hP2
    clear hP1
    go_wp2_with fail
    refine hP2.mono ?_
    rintro e wb ⟨⟨D2, rfl, hD2⟩, hbb⟩
    have hRb := (hbb.block w.heap.size (by have := hba.size; have := block_lt hR2; omega)).trans ((hba.block w.heap.size (block_lt hR2)).trans hR2)
    have hbl := built_keyed D1 D2 hD1.1 hD2.1
    have hsz : (D1 ++ D2).size = 148 := by rw [Array.size_append, hD1.1, hD2.1]
    have hi148 : (Tryd.prog.info? 60).map (·.size) = some (D1 ++ D2).size := by rw [hsz]; exact hi
    have hone : (D1 ++ D2).all (·.oneCell') = true := by rw [Array.all_append, hD1.2.1, hD2.2.1]; rfl
    have hzk : zeroKey.size = (D1 ++ D2).size := by rw [hsz, hz148]
    have hbf : Below w.heap.size w wb := ((hbw2).trans (hba.mono (hbw2).size)).trans (hbb.mono (Nat.le_trans (hbw2).size hba.size))
    have HV := show Hid (DgV D1 (padK (⟨SH.toArray⟩ : ByteArray).data.toList 54) 64 ∧ DgV D2 (padK (⟨SH.toArray⟩ : ByteArray).data.toList 92) 64) from ⟨hD1, hD2⟩
    clear hP2 hD1 hD2
    go_wp2_with (first
      | refine wpList_build rfl 60 _ rfl (by simp [Act.eval, hbl]) ?_
      | refine wpList_store_row rfl 60 _ _ rfl w.heap.size (D1 ++ D2) rfl (by simp [Act.eval, Act.put, hbl]) _ _ hRb hi148 hzk hone ?_)
    refine bodyPost_ret (v := .agg (D1 ++ D2)) ?_ rfl ⟨⟨D1, D2, rfl, by rw [HKEY.out]; exact HV.out.1, by rw [HKEY.out]; exact HV.out.2⟩, below_setRow hbf (Nat.le_refl _) _⟩
    exact results_cell_row rfl _ _ w.heap.size _ _ _ _ rfl (setRow_block hRb) Tryd.underlying60 rfl hi148
  · have hl2 : ¬ (64 : Int) < (s.size : Int) := by omega
    have hkey : keyB s.data.toList = s.data.toList := by unfold keyB; rw [if_neg (by rw [len_eq]; exact hlong)]
    rw [hkey]
    go_enter Tryd.func25, Tryd.ntmps25
    go_wp2_with fail
    have hP1 := kPadded_any x cap s 54 (w.alloc (.cells zeroKey 60)) (by omega) (by omega) (hB.later hb0) (hK.later hb0)
    rw [e54] at hP1
    refine hP1.mono ?_
    rintro e wa ⟨⟨D1, rfl, hD1⟩, hba⟩
    have hP2 := kPadded_any x cap s 92 wa (by omega) (by omega) (((hB.later hb0)).later hba) (((hK.later hb0)).later hba)
    rw [e92] at hP2
    clear hP1
    go_wp2_with fail
    refine hP2.mono ?_
    rintro e wb ⟨⟨D2, rfl, hD2⟩, hbb⟩
    have hRb := (hbb.block w.heap.size (by have := hba.size; have := block_lt hN0; omega)).trans ((hba.block w.heap.size (block_lt hN0)).trans hN0)
    have hbl := built_keyed D1 D2 hD1.1 hD2.1
    have hsz : (D1 ++ D2).size = 148 := by rw [Array.size_append, hD1.1, hD2.1]
    have hi148 : (Tryd.prog.info? 60).map (·.size) = some (D1 ++ D2).size := by rw [hsz]; exact hi
    have hone : (D1 ++ D2).all (·.oneCell') = true := by rw [Array.all_append, hD1.2.1, hD2.2.1]; rfl
    have hzk : zeroKey.size = (D1 ++ D2).size := by rw [hsz, hz148]
    have hbf : Below w.heap.size w wb := ((hb0).trans (hba.mono (hb0).size)).trans (hbb.mono (Nat.le_trans (hb0).size hba.size))
    have HV := show Hid (DgV D1 (padK (s).data.toList 54) 64 ∧ DgV D2 (padK (s).data.toList 92) 64) from ⟨hD1, hD2⟩
    clear hP2 hD1 hD2
    go_wp2_with (first
      | refine wpList_build rfl 60 _ rfl (by simp [Act.eval, hbl]) ?_
      | refine wpList_store_row rfl 60 _ _ rfl w.heap.size (D1 ++ D2) rfl (by simp [Act.eval, Act.put, hbl]) _ _ hRb hi148 hzk hone ?_)
    refine bodyPost_ret (v := .agg (D1 ++ D2)) ?_ rfl ⟨⟨D1, D2, rfl, HV.out.1, HV.out.2⟩, below_setRow hbf (Nat.le_refl _) _⟩
    exact results_cell_row rfl _ _ w.heap.size _ _ _ _ rfl (setRow_block hRb) Tryd.underlying60 rfl hi148
end Go.Proofs.YtgehgcnaoapbbaaDoor
