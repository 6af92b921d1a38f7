/-
  A region that draws its order, whose last operations wait for all others: the others without their orders, the last ones by hand. Of no layer alone.
  Package nat: the closure of Inverse.
-/
import Derived.Test.YtpcmpeeflnlkpaaDoorHFree
import Derived.Test.YtpcmpeeflnlkpaaDoorNSubEtc
namespace Go.Proofs.YtpcmpeeflnlkpaaDoor
open Go.RowKit
set_option maxRecDepth 100000

section
variable {P : Program} {ops : Array Oper} {Q : Exit → Act → World → Prop} {md : Region.Mode}

theorem any_end {listed : Array Bool} {a : Act} {w : World} (hr : Region.ready md ops listed = []) (hQ : Q .normal a w) : ∀ n, wpAny P md ops Q n listed a w
  | 0 => ⟨hr, hQ⟩
  | _ + 1 => ⟨fun _ => hQ, fun i hi => by rw [hr] at hi; cases hi⟩
theorem any_one {listed : Array Bool} {a : Act} {w : World} {i n : Nat} (hr : Region.ready md ops listed = [i]) (h : wpOp P ops Q i (fun b u => wpAny P md ops Q n (listed.setIfInBounds i true) b u) a w) : wpAny P md ops Q (n + 1) listed a w :=
  ⟨fun h0 => (by rw [hr] at h0; cases h0), fun k hk => by
    rw [hr] at hk
    obtain rfl : k = i := by simpa using hk
    exact h⟩
theorem any_op {listed : Array Bool} {a : Act} {w : World} {o : Oper} {n : Nat} (i : Nat) (hr : Region.ready md ops listed = [i]) (ho : ops[i]? = some o) (hw : Region.wanted o (yielded ops a.tmps) = true)
    (h : ∀ K' : Act → World → Prop, Hid (∀ b u, wpAny P md ops Q n (listed.setIfInBounds i true) b u → K' b u) → Oper.wp P o a w K' Q) : wpAny P md ops Q (n + 1) listed a w :=
  any_one hr (free_op ho hw (h _ (fun _ _ h => h)))
/-- Does operation t wait for operation i, by others too? -/
def Region.waitB (md : Region.Mode) (ops : Array Oper) : Nat → Nat → Nat → Bool
  | 0, _, _ => false
  | n + 1, t, i => match ops[t]? with
    | some o => o.after.toList.any fun e => Region.binds md e && (e.on == i || Region.waitB md ops n e.on i)
    | none => false
theorem waitB_listed {listed : Array Bool} (hcl : ∀ j o, ops[j]? = some o → listed.getD j false = true → ∀ e ∈ o.after, Region.binds md e = true → listed.getD e.on false = true) :
    ∀ n t i o, ops[t]? = some o → (∀ e ∈ o.after, Region.binds md e = true → listed.getD e.on false = true) → Region.waitB md ops n t i = true → listed.getD i false = true
  | 0, _, _, _, _, _, h => by cases h
  | n + 1, t, i, o, ho, hall, h => by
    rw [Region.waitB, ho] at h
    obtain ⟨e, he, h3⟩ := List.any_eq_true.1 h
    rw [Bool.and_eq_true, Bool.or_eq_true, beq_iff_eq] at h3
    have he2 : e ∈ o.after := by simpa using he
    have hl := hall e he2 h3.1
    rcases h3.2 with h4 | h4
    · rw [← h4]
      exact hl
    · cases hoe : ops[e.on]? with
      | none =>
        cases n with
        | zero => cases h4
        | succ n =>
          rw [Region.waitB, hoe] at h4
          cases h4
      | some o' => exact waitB_listed hcl n e.on i o' hoe (hcl _ _ hoe hl) h4
/-- Each of the last ones waits for all others, and writes no slot. -/
def Region.tailB (md : Region.Mode) (ops : Array Oper) (L0 : Array Bool) : Bool := (List.range ops.size).all fun t => L0.getD t false || match ops[t]? with
  | some o => o.dst.isNone && (List.range ops.size).all fun i => !L0.getD i false || Region.waitB md ops ops.size t i
  | none => true
theorem tail_waits {L0 : Array Bool} (h : Region.tailB md ops L0 = true) {t i : Nat} {o : Oper} (ho : ops[t]? = some o) (ht : L0.getD t false = false) (hi : L0.getD i false = true) (his : i < ops.size) : Region.waitB md ops ops.size t i = true := by
  have h1 := List.all_eq_true.1 h t (List.mem_range.2 (Array.getElem?_eq_some_iff.1 ho).1)
  rw [ht, Bool.false_or, ho, Bool.and_eq_true] at h1
  have h2 := List.all_eq_true.1 h1.2 i (List.mem_range.2 his)
  rw [hi] at h2
  simpa only [Bool.not_true, Bool.false_or] using h2
theorem tail_none {L0 : Array Bool} (h : Region.tailB md ops L0 = true) {t : Nat} {o : Oper} (ho : ops[t]? = some o) (ht : L0.getD t false = false) : o.dst = none := by
  have h1 := List.all_eq_true.1 h t (List.mem_range.2 (Array.getElem?_eq_some_iff.1 ho).1)
  rw [ht, Bool.false_or, ho, Bool.and_eq_true] at h1
  simpa using h1.1
theorem freeT_any {Sem : Nat → Value → World → Prop} {a0 : Act} {w0 : World} {n0 : Nat} (L0 : Array Bool) (hL : L0.size = ops.size) (htail : Region.tailB md ops L0 = true) (hrow : Region.inRow md ops = true) (hap : Region.apartD ops a0.tmps.size = true)
    (hmono : ∀ i v u u', Sem i v u → Below u.heap.size u u' → Sem i v u')
    (hstep : ∀ i o a w, ops[i]? = some o → L0.getD i false = true → FreeIn md ops Sem a0 o a w → Below n0 w0 w → wpOp P ops Q i (fun b u => ∃ v, b = a.put o.dst v ∧ Sem i v u ∧ Below w.heap.size w u) a w)
    (hfin : ∀ n a w, (leftN ops L0).length ≤ n → FreeAt ops Sem a0 L0 a w → Below n0 w0 w → wpAny P md ops Q n L0 a w) (hn0 : n0 ≤ w0.heap.size) :
    ∀ n listed a w, (leftN ops listed).length ≤ n → (∀ i, listed.getD i false = true → L0.getD i false = true) → (∀ j o, ops[j]? = some o → listed.getD j false = true → ∀ e ∈ o.after, Region.binds md e = true → listed.getD e.on false = true) → FreeAt ops Sem a0 listed a w → Below n0 w0 w → wpAny P md ops Q n listed a w := by
  intro n
  induction n with
  | zero =>
    intro listed a w hn hsub hcl hF hb
    have e : listed = L0 := by
      have h0 : leftN ops listed = [] := List.eq_nil_of_length_eq_zero (by omega)
      apply Array.ext (by rw [hF.lsize, hL])
      intro i h1 h2
      have : i ∉ leftN ops listed := by rw [h0]; exact List.not_mem_nil
      rw [mem_left] at this
      have h3 : listed[i] = true := by
        cases hc : listed[i]
        · exact absurd ⟨by rw [← hF.lsize]; exact h1, by simp [h1, hc]⟩ this
        · rfl
      have h4 := hsub i (by simp [h1, h3])
      rw [h3]
      simpa [h2] using h4.symm
    subst e
    exact hfin 0 a w hn hF hb
  | succ n ih =>
    intro listed a w hn hsub hcl hF hb
    by_cases hall0 : ∀ i, i < ops.size → L0.getD i false = true → listed.getD i false = true
    · have e : listed = L0 := by
        apply Array.ext (by rw [hF.lsize, hL])
        intro i h1 h2
        have h3 := hall0 i (by rw [← hL]; exact h2)
        have h4 := hsub i
        simp only [Array.getD_eq_getD_getElem?, Array.getElem?_eq_getElem h1, Array.getElem?_eq_getElem h2, Option.getD_some] at h3 h4
        cases hc : listed[i] <;> cases hd : L0[i] <;> simp_all
      subst e
      exact hfin _ a w hn hF hb
    · obtain ⟨q, hq⟩ := Classical.not_forall.1 hall0
      obtain ⟨hq1, hq⟩ := Classical.not_imp.1 hq
      obtain ⟨hq2, hq3⟩ := Classical.not_imp.1 hq
      refine ⟨fun hr => absurd (all_listed hrow hF.lsize hr q hq1) hq3, fun i hi => ?_⟩
      obtain ⟨h1, o, ho, hall⟩ := mem_ready.1 hi
      have hio : i < ops.size := (Array.getElem?_eq_some_iff.1 ho).1
      have hil : i < listed.size := by rw [hF.lsize]; exact hio
      have hiL : L0.getD i false = true := by
        cases hc : L0.getD i false
        · exact absurd (waitB_listed hcl _ _ _ _ ho hall (tail_waits htail ho hc hq2 hq1)) hq3
        · rfl
      have hIn : FreeIn md ops Sem a0 o a w := ⟨hF.size, hF.defers, hF.out, fun k d hk hd => by
        obtain ⟨e, he, h2⟩ : ∃ e ∈ o.after, (Region.binds md e && e.on == k) = true := by
          obtain ⟨e, he, h2⟩ := List.any_eq_true.1 hk
          exact ⟨e, by simpa using he, h2⟩
        rw [Bool.and_eq_true, beq_iff_eq] at h2
        obtain ⟨h2, rfl⟩ := h2
        exact hF.done e.on d (hall e he h2) hd⟩
      refine wpOp_mono (fun b u h => ?_) (hstep i o a w ho hiL hIn hb)
      obtain ⟨v, rfl, hS, hbu⟩ := h
      have hsub2 : ∀ j, (listed.setIfInBounds i true).getD j false = true → L0.getD j false = true := by
        intro j hj
        by_cases hji : j = i
        · subst hji
          exact hiL
        · refine hsub j ?_
          have : (listed.setIfInBounds i true)[j]? = listed[j]? := Array.getElem?_setIfInBounds_ne (Ne.symm hji)
          simpa [this] using hj
      have hcl2 : ∀ j o, ops[j]? = some o → (listed.setIfInBounds i true).getD j false = true → ∀ e ∈ o.after, Region.binds md e = true → (listed.setIfInBounds i true).getD e.on false = true := by
        have hup : ∀ k, listed.getD k false = true → (listed.setIfInBounds i true).getD k false = true := by
          intro k hk
          by_cases hki : k = i
          · subst hki
            simp [hil]
          · have : (listed.setIfInBounds i true)[k]? = listed[k]? := Array.getElem?_setIfInBounds_ne (Ne.symm hki)
            simpa [this] using hk
        intro j oj hoj hj e he hbd
        by_cases hji : j = i
        · subst hji
          rw [ho] at hoj
          obtain rfl := Option.some.inj hoj
          exact hup _ (hall e he hbd)
        · refine hup _ (hcl j oj hoj ?_ e he hbd)
          have : (listed.setIfInBounds i true)[j]? = listed[j]? := Array.getElem?_setIfInBounds_ne (Ne.symm hji)
          simpa [this] using hj
      refine ih _ _ _ (by have := leftN_set (mem_left.2 ⟨hio, h1⟩) hF.lsize; omega) hsub2 hcl2 ?_ (hb.trans (hbu.mono (Nat.le_trans hn0 hb.size)))
      have hA := List.all_eq_true.1 hap i (List.mem_range.2 hio)
      rw [Bool.and_eq_true] at hA
      obtain ⟨hA1, hA2⟩ := hA
      rw [ho, Option.bind_some] at hA1
      refine ⟨?_, ?_, by simp [hF.lsize], fun k hk => ?_, fun j d hj hd => ?_⟩
      · unfold Act.put
        split
        · simp [hF.size]
        · exact hF.size
      · unfold Act.put
        split <;> exact hF.defers
      · have := List.all_eq_true.1 hk o (by simpa using Array.mem_of_getElem? ho)
        unfold Act.put
        split
        · rename_i d hd
          rw [hd] at this
          have hdk : d ≠ k := by simpa using this
          show (a.tmps.setIfInBounds d v)[k]? = _
          rw [Array.getElem?_setIfInBounds_ne hdk]
          exact hF.out k hk
        · exact hF.out k hk
      · by_cases hji : j = i
        · subst hji
          rw [ho] at hd
          have hd' : o.dst = some d := hd
          rw [hd'] at hA1
          have hdn : d < a0.tmps.size := by simpa using hA1
          refine ⟨v, ?_, hS⟩
          unfold Act.put
          rw [hd']
          show (a.tmps.setIfInBounds d v)[d]? = _
          rw [Array.getElem?_setIfInBounds_self, if_pos (by rw [hF.size]; exact hdn)]
        · have hj2 : listed.getD j false = true := by
            have : (listed.setIfInBounds i true)[j]? = listed[j]? := Array.getElem?_setIfInBounds_ne (Ne.symm hji)
            simpa [this] using hj
          obtain ⟨v', h5, h6⟩ := hF.done j d hj2 hd
          refine ⟨v', ?_, hmono _ _ _ _ h6 hbu⟩
          unfold Act.put
          split
          · rename_i d' hd'
            have hne : d' ≠ d := by
              have hjo : j < ops.size := by
                apply Classical.byContradiction
                intro h
                rw [Array.getElem?_eq_none (by omega)] at hd
                cases hd
              have h7 := List.all_eq_true.1 hA2 j (List.mem_range.2 hjo)
              rw [ho, hd] at h7
              have hib : (i == j) = false := by simpa using Ne.symm hji
              rw [hib] at h7
              simp only [Option.bind_some, hd', Bool.false_or] at h7
              simpa using h7
            show (a.tmps.setIfInBounds d' v)[d]? = _
            rw [Array.getElem?_setIfInBounds_ne hne]
            exact h5
          · exact h5
/-- A region whose last operations (those that L0 leaves out) are walked by hand. -/
theorem freeT_walk {id : Nat} {Sem : Nat → Value → World → Prop} {a0 : Act} {w : World} (L0 : Array Bool) (hm : P.follows .mixedOrders = true) {n : Nat} (hL : L0.size = ops.size) (htail : Region.tailB .any ops L0 = true) (hrow : Region.inRow .any ops = true) (hsz : a0.tmps.size = n) (hap : Region.apartD ops n = true)
    (hmono : ∀ i v u u', Sem i v u → Below u.heap.size u u' → Sem i v u')
    (hstep : ∀ i o a u, ops[i]? = some o → L0.getD i false = true → FreeIn .any ops Sem a0 o a u → Below w.drew.heap.size w.drew u → wpOp P ops Q i (fun b u' => ∃ v, b = a.put o.dst v ∧ Sem i v u' ∧ Below u.heap.size u u') a u)
    (hfin : ∀ (vs : Nat → Value) u m, (leftN ops L0).length ≤ m → (∀ i d, ((ops[i]?).bind (·.dst)) = some d → Sem i (vs i) u) → Below w.drew.heap.size w.drew u → wpAny P .any ops Q m L0 (putFrom vs a0 ops.toList 0) u) : (Code.region id ops true).wp P Q a0 w := by
  refine wp_region_any hm (freeT_any L0 hL htail hrow (by rw [hsz]; exact hap) hmono hstep (fun m a u hm0 hF hb => ?_) (Nat.le_refl _) _ _ _ _ (by unfold leftN; exact Nat.le_trans (List.length_filter_le _ _) (by simp)) (fun i h => ?_) (fun j o _ h => ?_) ⟨rfl, rfl, by simp, fun _ _ => rfl, fun i d h _ => ?_⟩ (Below.refl _ _))
  · have hin : ∀ (i : Nat) (d : Tmp), ((ops[i]?).bind (fun x => Oper.dst x)) = some d → i < ops.size := by
      intro i d hd
      apply Classical.byContradiction
      intro h
      rw [Array.getElem?_eq_none (by omega)] at hd
      cases hd
    have hlist : ∀ (i : Nat) (d : Tmp), ((ops[i]?).bind (fun x => Oper.dst x)) = some d → L0.getD i false = true := by
      intro i d hd
      cases hc : L0.getD i false
      · have hi := hin i d hd
        have ho : ops[i]? = some ops[i] := by simp [hi]
        rw [ho, Option.bind_some, tail_none htail ho hc] at hd
        cases hd
      · rfl
    have h1 : ∀ (i : Nat) (d : Tmp), ((ops[i]?).bind (fun x => Oper.dst x)) = some d → a.tmps[d]? = some ((((ops[i]?).bind (fun x => Oper.dst x)).bind (a.tmps[·]?)).getD undef) := by
      intro i d hd
      obtain ⟨v, h1, _⟩ := hF.done i d (hlist i d hd) hd
      rw [hd]
      show _ = some ((a.tmps[d]?).getD undef)
      rw [h1]; rfl
    have key := hfin (fun i => (((ops[i]?).bind (fun x => Oper.dst x)).bind (a.tmps[·]?)).getD undef) u m hm0 (fun i d hd => by
      obtain ⟨v, h2, h3⟩ := hF.done i d (hlist i d hd) hd
      have h4 := h1 i d hd
      rw [h2] at h4
      exact Option.some.inj h4 ▸ h3) hb
    rw [putFrom_eq (a := a) _ ops.toList 0 a0 (fun j d hj _ => by
      rw [Nat.zero_add]
      exact h1 j d (by simpa using hj)) hF.size.symm hF.defers.symm (fun k hk => (hF.out k hk).symm)] at key
    exact key
  · simp [Array.getElem?_replicate] at h
    split at h <;> simp_all
  · simp [Array.getElem?_replicate] at h
    split at h <;> simp_all
  · simp [Array.getElem?_replicate] at h
    split at h <;> simp_all
end
end Go.Proofs.YtpcmpeeflnlkpaaDoor

namespace Go.Proofs.YtpcmpeeflnlkpaaDoor
open Go.RowKit Ch
set_option maxRecDepth 100000

theorem keptX_set {ps : List Nat} {p : Nat} {v : Value} (w : World) (h : p ∈ ps) : KeptX ps w (w.setCell ⟨p, 0, none⟩ v) := by
  have hb : Below (w.heap.size) w w := Below.refl _ _
  refine ⟨rfl, rfl, rfl, by simp, fun k hk hn => ?_⟩
  exact Below.heap_setCell _ _ _ _ (fun e => hn (e ▸ h))
theorem IsW.narrow {n k : Nat} {w : World} {v : Value} {N : Nat} (h : IsW n w v N) (hN : N < 18446744073709551616 ^ k) : IsW k w v N := by
  obtain ⟨y, c, L, h1, h2, h3, h4, h5, h6⟩ := h
  refine ⟨y, c, L, h1, h2, h3, h4, h5, ?_⟩
  by_cases h0 : L = []
  · subst h0
    exact Nat.zero_le _
  · have h7 := tidy_ge h4 h0
    rw [h5] at h7
    have h8 := (Nat.pow_lt_pow_iff_right (a := 18446744073709551616) (by decide)).1 (Nat.lt_of_le_of_lt h7 hN)
    omega
theorem IsW.noInt {n : Nat} {w : World} {v : Value} {N : Nat} (h : IsW n w v N) : ∀ k z, v ≠ .int k z := by
  obtain ⟨y, l, c, rfl, _, _⟩ := h.shape
  intro k z e
  cases e
def semIv (gq gf : Value) (ys : Option Addr) (ls cs q s f : Nat) : Nat → Value → World → Prop := fun ix v u => match ix with
  | 0 => v = (.slice ys ls cs)
  | 1 => v = gf
  | 2 => v = gq
  | 3 => v = (.slice ys ls cs)
  | 4 => IsW 256 u v (q * s)
  | 5 => IsW 400 u v (f + q * s)
  | 6 => v = v
  | 7 => v = v
  | _ => True
set_option maxHeartbeats 2000000 in
theorem nInvS_any (p1 p2 p3 : Nat) (gq gf : Value) (ys : Option Addr) (ls cs q s f : Nat) (neg : Bool) (w : World) (h12 : p1 ≠ p2) (h31 : p3 ≠ p1) (h32 : p3 ≠ p2)
    (hB1 : w.heap[p1]? = some (.cells #[(.slice ys ls cs)] 61 (0, 0))) (hB2 : w.heap[p2]? = some (.cells #[gf] 61 (0, 0))) (hB3 : w.heap[p3]? = some (.cells #[.bool neg] 4 (0, 0)))
    (hq : IsW 128 w gq q) (hs : IsW 128 w (.slice ys ls cs) s) (hf : IsW 128 w gf f) :
    Calls Tryd.prog 50 #[gq, .pointer (some ⟨p1, 0, none⟩), .pointer (some ⟨p2, 0, none⟩), .pointer (some ⟨p3, 0, none⟩)] w fun e w' => e = .returned (.tuple #[]) ∧
      (∃ v, w'.heap[p1]? = some (.cells #[v] 61 (0, 0)) ∧ IsW 400 w' v (f + q * s)) ∧ w'.heap[p2]? = some (.cells #[(.slice ys ls cs)] 61 (0, 0)) ∧ w'.heap[p3]? = some (.cells #[.bool (!neg)] 4 (0, 0)) ∧ KeptX [p1, p2, p3] w w' := by
  have hv1 := hs.noInt
  have hv2 := hf.noInt
  have hd : Below w.heap.size w w.drew := (Below.refl _ _).drew
  have HU := show Hid (∀ u, Below w.drew.heap.size w.drew u → u.cell? ⟨p1, 0, none⟩ = some (.slice ys ls cs) ∧ u.cell? ⟨p2, 0, none⟩ = some gf ∧ IsW 128 u gq q ∧ IsW 128 u (.slice ys ls cs) s ∧ IsW 128 u gf f) from fun u hb => by
    have hbu : Below w.heap.size w u := hd.trans (hb.mono hd.size)
    exact ⟨(hbu.cell (p := ⟨p1, 0, none⟩) (block_lt hB1)).trans (block_cell 0 hB1 rfl), (hbu.cell (p := ⟨p2, 0, none⟩) (block_lt hB2)).trans (block_cell 0 hB2 rfl), hq.later hbu, hs.later hbu, hf.later hbu⟩
  have HE := show Hid (∀ (u : World) (z5 : Value), Below w.drew.heap.size w.drew u → IsW 400 u z5 (f + q * s) → u.heap[p1]? = some (.cells #[(.slice ys ls cs)] 61 (0, 0)) ∧ u.heap[p2]? = some (.cells #[gf] 61 (0, 0)) ∧ u.heap[p3]? = some (.cells #[.bool neg] 4 (0, 0)) ∧ IsW 400 u z5 (f + q * s) ∧ Below w.heap.size w u) from fun u z5 hb h5 => by
    have hbu : Below w.heap.size w u := hd.trans (hb.mono hd.size)
    exact ⟨(hbu.block p1 (block_lt hB1)).trans hB1, (hbu.block p2 (block_lt hB2)).trans hB2, (hbu.block p3 (block_lt hB3)).trans hB3, h5, hbu⟩
  clear hq hs hf hB1 hB2 hB3 hd
  go_enter Tryd.func50, Tryd.ntmps50
  go_wp2_with fail
  refine freeT_walk (Sem := semIv gq gf ys ls cs q s f) #[true, true, true, true, true, true, false, false] rfl (n := 13) rfl (by kernel_rfl) (by kernel_rfl) rfl (by kernel_rfl) ?_ ?_ ?_
  · intro ix v u u' h hb
    match ix, h with
    | 0, h => exact h
    | 1, h => exact h
    | 2, h => exact h
    | 3, h => exact h
    | 4, h => exact IsW.later h hb
    | 5, h => exact IsW.later h hb
    | 6, h => exact h
    | 7, h => exact h
    | _ + 8, _ => exact trivial
  · intro ix o a u ho hL hF hbu
    match ix, ho, hL, hF with
    | 0, ho, _, hF =>
      obtain rfl := Option.some.inj ho
      have h1 : a.tmps[1]? = some (.pointer (some ⟨p1, 0, none⟩)) := (hF.out 1 rfl).trans rfl
      have gx := (HU.out u hbu).1
      refine free_step rfl (by rfl) (fun K' hK => ?_)
      go_simp
      exact hK.out _ _ rfl (Below.refl _ _)
    | 1, ho, _, hF =>
      obtain rfl := Option.some.inj ho
      have h2 : a.tmps[2]? = some (.pointer (some ⟨p2, 0, none⟩)) := (hF.out 2 rfl).trans rfl
      have gx := (HU.out u hbu).2.1
      refine free_step rfl (by rfl) (fun K' hK => ?_)
      go_simp
      exact hK.out _ _ rfl (Below.refl _ _)
    | 2, ho, _, hF =>
      obtain rfl := Option.some.inj ho
      have h0 : a.tmps[0]? = some (gq) := (hF.out 0 rfl).trans rfl
      refine free_step rfl (by rfl) (fun K' hK => ?_)
      go_simp
      exact hK.out _ _ rfl (Below.refl _ _)
    | 3, ho, _, hF =>
      obtain rfl := Option.some.inj ho
      have h1 : a.tmps[1]? = some (.pointer (some ⟨p1, 0, none⟩)) := (hF.out 1 rfl).trans rfl
      have gx := (HU.out u hbu).1
      refine free_step rfl (by rfl) (fun K' hK => ?_)
      go_simp
      exact hK.out _ _ rfl (Below.refl _ _)
    | 4, ho, _, hF =>
      obtain rfl := Option.some.inj ho
      obtain ⟨v7, h7, s7⟩ := hF.dep 2 7 rfl rfl
      obtain rfl : v7 = gq := s7
      obtain ⟨v8, h8, s8⟩ := hF.dep 3 8 rfl rfl
      obtain rfl : v8 = (.slice ys ls cs) := s8
      refine free_step rfl (by rfl) (fun K' hK => ?_)
      go_wp2_with fail
      refine (wProduct 128 128 _ _ q s u (HU.out u hbu).2.2.1 (HU.out u hbu).2.2.2.1 (by omega) (by omega)).mono ?_
      rintro e u' ⟨⟨x, rfl, hI⟩, hb⟩
      go_simp
      exact hK.out _ _ hI hb
    | 5, ho, _, hF =>
      obtain rfl := Option.some.inj ho
      obtain ⟨v6, h6, s6⟩ := hF.dep 1 6 rfl rfl
      obtain rfl : v6 = gf := s6
      obtain ⟨v9, h9, s9⟩ := hF.dep 4 9 rfl rfl
      replace s9 : IsW 256 u v9 (q * s) := s9
      refine free_step rfl (by rfl) (fun K' hK => ?_)
      go_wp2_with fail
      refine (wSum 128 256 _ _ f (q * s) u (HU.out u hbu).2.2.2.2 s9 (by omega) (by omega)).mono ?_
      rintro e u' ⟨⟨x, rfl, hI⟩, hb⟩
      go_simp
      exact hK.out _ _ (hI.more (by decide)) hb
    | 6, _, hL, _ => exact absurd hL (by decide)
    | 7, _, hL, _ => exact absurd hL (by decide)
    | n + 8, ho, _, _ => exact absurd (Array.getElem?_eq_some_iff.1 ho).1 (by show ¬ n + 8 < 8; omega)
  · intro vs u m hm hS hbu
    have e0 : vs 0 = (.slice ys ls cs) := hS 0 5 rfl
    have s5 := hS 5 10 rfl
    simp only [putFrom, Act.put, List.setIfInBounds_toArray, List.set_cons_succ, List.set_cons_zero, Nat.reduceAdd]
    rw [e0]
    clear hS e0
    generalize vs 1 = z1
    generalize vs 2 = z2
    generalize vs 3 = z3
    generalize vs 4 = z4
    generalize vs 5 = z5 at *
    obtain ⟨m, rfl⟩ : ∃ k, m = k + 1 + 1 := ⟨m - 2, by have h2 : 2 ≤ m := hm; omega⟩
    obtain ⟨hB1, hB2, hB3, hS5, hbn⟩ : u.heap[p1]? = some (.cells #[(.slice ys ls cs)] 61 (0, 0)) ∧ u.heap[p2]? = some (.cells #[gf] 61 (0, 0)) ∧ u.heap[p3]? = some (.cells #[.bool neg] 4 (0, 0)) ∧ IsW 400 u z5 (f + q * s) ∧ Below w.heap.size w u := HE.out u z5 hbu s5
    clear hbu s5 HU HE
    obtain ⟨y5, l5, c5, rfl, _, _⟩ := id hS5.shape
    have c2 := block_cell (v := gf) 0 hB2 rfl
    have r2 := block_free 0 hB2
    have hX2 := setCell_block (i := 0) (u := (.slice ys ls cs)) hB2
    have hX1 := block_other ⟨p2, 0, none⟩ (.slice ys ls cs) hB1 h12
    have hX3 := block_other ⟨p2, 0, none⟩ (.slice ys ls cs) hB3 h32
    generalize hu2 : u.setCell ⟨p2, 0, none⟩ (.slice ys ls cs) = u2 at *
    have c1 := block_cell (v := (.slice ys ls cs)) 0 hX1 rfl
    have r1 := block_free 0 hX1
    refine any_op 6 (by kernel_rfl) rfl (by rfl) (fun K' hK => ?_)
    go_simp
    refine hK.out _ _ ?_
    clear hK
    refine any_op 7 (by kernel_rfl) rfl (by rfl) (fun K' hK => ?_)
    have hY1 := setCell_block (i := 0) (u := .slice y5 l5 c5) hX1
    have hY2 := block_other ⟨p1, 0, none⟩ (.slice y5 l5 c5) hX2 (Ne.symm h12)
    have hY3 := block_other ⟨p1, 0, none⟩ (.slice y5 l5 c5) hX3 h31
    generalize hu3 : u2.setCell ⟨p1, 0, none⟩ (.slice y5 l5 c5) = u3 at *
    have c3 := block_cell (v := .bool neg) 0 hY3 rfl
    have r3 := block_free 0 hY3
    go_simp
    refine hK.out _ _ (any_end (by kernel_rfl) ?_ _)
    clear hK
    have hZ3 := setCell_block (i := 0) (u := .bool (!neg)) hY3
    have hZ2 := block_other ⟨p3, 0, none⟩ (.bool (!neg)) hY2 (Ne.symm h32)
    have hZ1 := block_other ⟨p3, 0, none⟩ (.bool (!neg)) hY1 (Ne.symm h31)
    generalize hu4 : u3.setCell ⟨p3, 0, none⟩ (.bool (!neg)) = u4 at *
    have hk4 : KeptX [p1, p2, p3] w u4 := by
      rw [← hu4, ← hu3, ← hu2]
      exact ((KeptX.of hbn).trans (keptX_set _ (by simp))).trans ((keptX_set _ (by simp)).trans (keptX_set _ (by simp)))
    have hk5 : KeptX [p1, p2, p3] u u4 := by
      rw [← hu4, ← hu3, ← hu2]
      exact (keptX_set _ (by simp)).trans ((keptX_set _ (by simp)).trans (keptX_set _ (by simp)))
    have hS6 := hS5.kept hk5 (fun p hp => by
      simp only [List.mem_cons, List.not_mem_nil, or_false] at hp
      rcases hp with rfl | rfl | rfl
      · exact ⟨_, _, hB1, hv1⟩
      · exact ⟨_, _, hB2, hv2⟩
      · exact ⟨_, _, hB3, fun k z h => by cases h⟩)
    have HF := show Hid (u4.heap[p1]? = some (.cells #[.slice y5 l5 c5] 61 (0, 0)) ∧ u4.heap[p2]? = some (.cells #[(.slice ys ls cs)] 61 (0, 0)) ∧ u4.heap[p3]? = some (.cells #[.bool (!neg)] 4 (0, 0)) ∧ IsW 400 u4 (.slice y5 l5 c5) (f + q * s) ∧ KeptX [p1, p2, p3] w u4) from ⟨hZ1, hZ2, hZ3, hS6, hk4⟩
    clear hS6 hk4 hk5 hS5 hbn hB1 hB2 hB3 hX1 hX2 hX3 hY1 hY2 hY3 hZ1 hZ2 hZ3
    go_wp2_with fail
    go_end0
    exact ⟨rfl, ⟨_, HF.out.1, HF.out.2.2.2.1⟩, HF.out.2.1, HF.out.2.2.1, HF.out.2.2.2.2⟩
end Go.Proofs.YtpcmpeeflnlkpaaDoor
