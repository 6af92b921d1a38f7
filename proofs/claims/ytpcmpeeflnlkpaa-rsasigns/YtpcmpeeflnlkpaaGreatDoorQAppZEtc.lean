/-
  Appends onto a row of noughts: written into what is new, all else kept.
  A region that draws its order, whose last operations wait for all others, and of which some write into rows that are new since it began: what such a one uses up holds up to it alone. Of no layer alone.
  The law RsaSigns.
-/
import Derived.Test.YtpcmpeeflnlkpaaGreatDoorQOwn
import Derived.Test.YtpcmpeeflnlkpaaGreatDoorHFreeTEtc
import Derived.Test.YtpcmpeeflnlkpaaGreatDoorQSoundEtc
import Derived.Test.YtpcmpeeflnlkpaaGreatDoorQRVer
namespace Go.Proofs.YtpcmpeeflnlkpaaGreatDoor
open Go.RowKit Ch
set_option maxRecDepth 100000

/-- A row of bytes whose place m holds a nought. -/
def Spare (m : Nat) (w : World) (g : Nat) : Prop := ∃ cs k, w.heap[g]? = some (.cells cs 5 k) ∧ cs[m]? = some (.int .u8 0)
/-- What lies below n is kept; of what lies above, all but such rows. -/
structure RowsZ (n m : Nat) (w w' : World) : Prop where
  below : Below n w w'
  block : ∀ g, n ≤ g → g < w.heap.size → w'.heap[g]? = w.heap[g]? ∨ Spare m w g
/-- What lies behind m bytes is nought. -/
def SpareV (m : Nat) (w : World) (v : Value) : Prop := ∀ g cs t k x, v.ownBlock = some g → w.heap[g]? = some (.cells cs t k) → cs[m]? = some x → x = .int .u8 0
theorem SpareV.later {n m : Nat} {w w' : World} {v : Value} {l : List UInt8} (h : SpareV m w v) (ho : OwnL n w v l) (hb : Below w.heap.size w w') : SpareV m w' v := by
  intro g cs t k x hg hc hx
  rcases ho.2 with ⟨hv, _⟩ | ⟨g', cap, cur, hv, _, hh, _⟩
  · subst hv
    cases hg
  · subst hv
    obtain rfl := Option.some.inj hg
    rw [hb.block _ (block_lt hh)] at hc
    exact h _ cs t k x rfl hc hx
/-- Such bytes of the call's own stay. -/
theorem OwnL.keptZ {n m : Nat} {w w' : World} {v : Value} {x : UInt8} {t : List UInt8} (h : OwnL n w v (List.replicate m 0 ++ x :: t)) (hx : x ≠ 0) (hr : RowsZ n m w w') : OwnL n w' v (List.replicate m 0 ++ x :: t) := by
  refine ⟨h.1, ?_⟩
  rcases h.2 with h2 | ⟨g, cap, cur, hv, hg, hh, h3, h4, h5, h6⟩
  · exact .inl h2
  · refine .inr ⟨g, cap, cur, hv, hg, ?_, h3, h4, h5, h6⟩
    rcases hr.block g hg (block_lt hh) with e | ⟨cs, k, h7, h8⟩
    · exact e.trans hh
    · exfalso
      rw [hh] at h7
      simp only [Option.some.injEq, Obj.cells.injEq] at h7
      obtain ⟨rfl, _, _⟩ := h7
      have h9 : (Lib.byteCells (List.replicate m 0 ++ x :: t))[m]? = some (.int .u8 0) := by
        rw [← h6, List.getElem?_take_of_lt (by simp), Array.getElem?_toList]
        exact h8
      simp [Lib.byteCells] at h9
      exact hx (UInt8.toNat_inj.1 (by simpa using h9))
/-- An empty row stays. -/
def EmptyZ (n : Nat) (w : World) (v : Value) : Prop := ∃ g, v = .slice (some ⟨g, 0, none⟩) 0 0 ∧ n ≤ g ∧ w.heap[g]? = some (.cells #[] 5 (0, 0))
theorem EmptyZ.later {n : Nat} {w w' : World} {v : Value} (h : EmptyZ n w v) (hb : Below w.heap.size w w') : EmptyZ n w' v := by
  obtain ⟨g, h1, h2, h3⟩ := h
  exact ⟨g, h1, h2, (hb.block _ (block_lt h3)).trans h3⟩
theorem EmptyZ.keptZ {n m : Nat} {w w' : World} {v : Value} (h : EmptyZ n w v) (hr : RowsZ n m w w') : EmptyZ n w' v := by
  obtain ⟨g, h1, h2, h3⟩ := h
  refine ⟨g, h1, h2, ?_⟩
  rcases hr.block g h2 (block_lt h3) with e | ⟨cs, k, h7, h8⟩
  · exact e.trans h3
  · exfalso
    rw [h3] at h7
    simp only [Option.some.injEq, Obj.cells.injEq] at h7
    obtain ⟨rfl, _, _⟩ := h7
    simp at h8
theorem bytes_news {w : World} {y : Addr} {n c : Nat} {t : List UInt8} (h : IsBytes w (.slice (some y) n c) ⟨t.toArray⟩) : t.length = n ∧ ∀ j q, (Lib.byteCells t)[j]? = some q → w.cell? (y.add j) = some q := by
  have e2 : (⟨t.toArray⟩ : ByteArray).size = t.length := size_of_list t
  obtain ⟨a, cap, hv, hc, hm, hrest⟩ := h
  rw [e2] at hv hc hrest
  simp only [Value.slice.injEq] at hv
  obtain ⟨rfl, rfl, rfl⟩ := hv
  refine ⟨rfl, fun j q hj => ?_⟩
  have hjl : j < t.length := by have := (List.getElem?_eq_some_iff.1 hj).1; simpa [Lib.byteCells] using this
  rcases hrest with ⟨h1, _⟩ | ⟨x2, h1, h2 | ⟨b, o2, h2, _, h4⟩⟩
  · cases h1
  · omega
  · obtain rfl := Option.some.inj h1
    subst h2
    have e : (⟨b, o2, none⟩ : Addr).add j = ⟨b, o2 + j, none⟩ := by unfold Addr.add; split <;> simp_all
    rw [e]
    have h5 := h4 j (by rw [e2]; omega)
    rw [Nat.zero_add, byte_list, List.toList_toArray, List.getElem?_eq_getElem hjl] at h5
    rw [h5, ← hj]
    simp [Lib.byteCells, hjl]
theorem cells_one (t : List UInt8) : ∀ q ∈ Lib.byteCells t, q.oneCell' = true := by
  intro q hq
  simp only [Lib.byteCells, List.mem_map] at hq
  obtain ⟨_, _, rfl⟩ := hq
  rfl
theorem cells_cat (l t : List UInt8) : Lib.byteCells (l ++ t) = Lib.byteCells l ++ Lib.byteCells t := by simp [Lib.byteCells]
/-- append onto such a row. -/
theorem append_z {n m : Nat} {w : World} {v u : Value} {t : List UInt8} (ty : TypeId) (ho : OwnL n w v (List.replicate m 0)) (hs : SpareV m w v) (hu : IsBytes w u ⟨t.toArray⟩) (ht : t ≠ []) (hm : m ≤ 1000) (hl : t.length ≤ 900000) (hn : n ≤ w.heap.size) :
    ∃ v' w', (Builtin.append_ #[22, 22] ty #[v, u]).run Tryz.prog w = .ok v' w' ∧ OwnL n w' v' (List.replicate m 0 ++ t) ∧ RowsZ n m w w' := by
  obtain ⟨i0, hi, hz0, hz1, hz2⟩ := info5
  obtain ⟨a, k, c, rfl⟩ : ∃ a k c, u = .slice (some a) k c := by
    obtain ⟨a, c, hv, _, _, ⟨_, h0, _⟩ | ⟨x, rfl, _⟩⟩ := hu
    · rw [size_of_list] at h0
      exact absurd (List.eq_nil_of_length_eq_zero h0) ht
    · exact ⟨x, _, c, hv⟩
  obtain ⟨hk, hne⟩ := bytes_news hu
  have ht0 : 0 < t.length := List.length_pos_iff.2 ht
  have hrl : (List.replicate m (0 : UInt8)).length = m := List.length_replicate
  unfold OwnL at ho
  rw [hrl] at ho
  obtain ⟨v', w', hr, h2, h3, _⟩ := run_append_own (P := Tryz.prog) w n 22 ty 5 i0 (.int .u8 0) 1 1 Tryz.underlying22 hi hz0 hz1 hz2 rfl (by decide) v m _ ho a k c (Lib.byteCells t) (by simp [Lib.byteCells, hk]) hne (cells_one t) (by unfold maxLen; omega) (by omega) hn
  have hB : Below n w w' := (Below.refl _ w).grown h3 hn (own_ge ho)
  refine ⟨v', w', hr, ?_, hB, fun g hg hgs => ?_⟩
  · unfold OwnL
    rw [cells_cat, List.length_append, hrl, hk]
    exact h2
  · rcases ho.2 with ⟨hv, _⟩ | ⟨g', cap, cur, hv, hbg, hh, hnc, hcm, hcs, htake⟩
    · refine .inl (h3.block g hgs ?_)
      subst hv
      intro e
      cases e
    · by_cases hgg : g = g'
      · subst hgg
        by_cases hroom : m + k ≤ cap
        · have hsz : m < cur.size := by omega
          refine .inr ⟨cur, _, hh, ?_⟩
          rw [Array.getElem?_eq_getElem hsz, hs g cur _ _ cur[m] (by rw [hv]; rfl) hh (Array.getElem?_eq_getElem hsz)]
        · subst hv
          have hr2 := run_append_grow (P := Tryz.prog) (w := w) 22 ty 5 i0 (.int .u8 0) Tryz.underlying22 hi hz0 ⟨g, 0, none⟩ m cap _ (by rw [hz1]; exact ho.1) (ho.cells (g := g) rfl) a k c (Lib.byteCells t) (by rw [hz1]; simp [Lib.byteCells, hk]) hne (by omega) (by omega) (growslice_fits (by omega) (by rw [hz2]; omega))
          rw [hr] at hr2
          simp only [Result.ok.injEq] at hr2
          rw [hr2.2]
          exact .inl (heap_push_old w.drew _ hgs)
      · refine .inl (h3.block g hgs ?_)
        rw [hv]
        intro e
        exact hgg (Option.some.inj e)
/-- append of noughts onto an empty row. -/
theorem append_e {n m : Nat} {w : World} {v : Value} {gz : Nat} (ty : TypeId) (h : EmptyZ n w v) (hu : IsBytes w (.slice (some ⟨gz, 0, none⟩) m m) ⟨(List.replicate m 0).toArray⟩) (hm : m ≤ 1000) (hn : n ≤ w.heap.size) :
    ∃ v' w', (Builtin.append_ #[22, 22] ty #[v, .slice (some ⟨gz, 0, none⟩) m m]).run Tryz.prog w = .ok v' w' ∧ OwnL n w' v' (List.replicate m 0) ∧ SpareV m w' v' ∧ Below w.heap.size w w' := by
  obtain ⟨i0, hi, hz0, hz1, hz2⟩ := info5
  obtain ⟨g, rfl, hg, hh⟩ := h
  obtain ⟨_, hne⟩ := bytes_news hu
  have hrl : (List.replicate m (0 : UInt8)).length = m := List.length_replicate
  have ho : w.ownsRow n 5 1 (.slice (some ⟨g, 0, none⟩) 0 0) 0 [] := ⟨rfl, .inr ⟨g, 0, #[], rfl, hg, hh, Nat.le_refl _, by unfold maxLen; decide, rfl, rfl⟩⟩
  obtain ⟨v', w', hr, h2, h3, _⟩ := run_append_own (P := Tryz.prog) w n 22 ty 5 i0 (.int .u8 0) 1 1 Tryz.underlying22 hi hz0 hz1 hz2 rfl (by decide) _ 0 _ ho ⟨gz, 0, none⟩ m m (Lib.byteCells (List.replicate m 0)) (by simp [Lib.byteCells]) hne (cells_one _) (by unfold maxLen; omega) (by omega) hn
  refine ⟨v', w', hr, ?_, ?_⟩
  · unfold OwnL
    rw [hrl]
    simpa using h2
  · by_cases hm0 : m = 0
    · subst hm0
      have hr2 := run_append_room (P := Tryz.prog) (w := w) 22 ty 5 i0 Tryz.underlying22 hi g 0 0 #[] hh ⟨gz, 0, none⟩ 0 0 [] (by simp) (fun j u h => by simp at h) (fun u h => by simp at h) (by omega) (by simp)
      have e : Lib.byteCells (List.replicate 0 0) = [] := rfl
      rw [hr] at hr2
      simp only [Result.ok.injEq] at hr2
      have hw : ∀ k : Nat, w'.heap[k]? = w.heap[k]? := fun k => by
        rw [hr2.2]
        unfold World.setRow
        show (Array.modify w.heap g _)[k]? = w.heap[k]?
        rw [Array.getElem?_modify]
        split
        · rename_i hk
          subst hk
          rw [hh]
          simp
        · rfl
      refine ⟨fun g' cs t k x h4 h5 h6 => ?_, ⟨h3.os, h3.tape, h3.output, h3.size, fun k _ => hw k⟩⟩
      rw [hr2.1] at h4
      obtain rfl := Option.some.inj h4
      rw [hw, hh] at h5
      simp only [Option.some.injEq, Obj.cells.injEq] at h5
      obtain ⟨rfl, _, _⟩ := h5
      simp at h6
    · have hr2 := run_append_grow (P := Tryz.prog) (w := w) 22 ty 5 i0 (.int .u8 0) Tryz.underlying22 hi hz0 ⟨g, 0, none⟩ 0 0 [] (by simp) (fun j v h => by simp at h) ⟨gz, 0, none⟩ m m (Lib.byteCells (List.replicate m 0)) (by rw [hz1]; simp [Lib.byteCells]) hne (by omega) (by omega) (growslice_fits (by omega) (by rw [hz2]; omega))
      rw [hr] at hr2
      simp only [Result.ok.injEq] at hr2
      refine ⟨fun g' cs t k x h4 h5 h6 => ?_, by rw [hr2.2]; exact ((Below.refl _ w).drew).alloc (Nat.le_refl _) _⟩
      rw [hr2.1] at h4
      obtain rfl := Option.some.inj h4
      rw [hr2.2] at h5
      have h7 := heap_push_at w.drew (.cells (([] : List Value).toArray ++ (Lib.byteCells (List.replicate m 0)).toArray ++ Builtin.zeroCells (Value.int .u8 0).cells (grownCap w (0 + m) 0 5 - (0 + m))) 5)
      have h8 := h7.symm.trans h5
      simp only [Option.some.injEq, Obj.cells.injEq] at h8
      obtain ⟨rfl, _, _⟩ := h8
      rw [Array.getElem?_append_right (by simp [Lib.byteCells])] at h6
      simp only [Builtin.zeroCells, Value.cells] at h6
      simp at h6
      obtain ⟨j, _, h6⟩ := h6
      rw [Nat.mod_one] at h6
      simpa using h6.symm
theorem eval_tmp {a : Act} {t : Nat} {v : Value} (h : a.tmps[t]? = some v) : a.eval (.tmp t) = v := by simp [Act.eval, h]
/-- An append, by its run. -/
theorem wp_append {o : Oper} {a : Act} {w w' : World} {v u v' : Value} {K : Act → World → Prop} {Q : Exit → Act → World → Prop} (so x : Operand) (ho : o.op = .call { callee := .builtin .append, args := #[so, x], argTypes := #[22, 22] })
    (hs : a.eval so = v) (hx : a.eval x = u) (hr : (Builtin.append_ #[22, 22] o.type #[v, u]).run Tryz.prog w = .ok v' w') (h : K (a.put o.dst v') w') : Oper.wp Tryz.prog o a w K Q := by
  unfold Oper.wp execOp
  simp only [ho, resolve, invoke, builtin, Sem.run_bind, Sem.run_pure, Result.andThen_ok, List.map_toArray, List.map_cons, List.map_nil, hs, hx, hr]
  exact h
end Go.Proofs.YtpcmpeeflnlkpaaGreatDoor

namespace Go.Proofs.YtpcmpeeflnlkpaaGreatDoor
open Go.RowKit
set_option maxRecDepth 100000

section
variable {P : Program} {ops : Array Oper} {Q : Exit → Act → World → Prop} {md : Region.Mode}

/-- Who waits for what is used up by another is that one itself, or one of the last. -/
def Region.deadB (md : Region.Mode) (ops : Array Oper) (dead : Nat → Option Nat) (L0 : Array Bool) : Bool := (List.range ops.size).all fun i => !L0.getD i false || match ops[i]? with
  | some o => o.after.toList.all fun e => !Region.binds md e || match dead e.on with
    | some z => z == i
    | none => true
  | none => true
/-- What is used up by one is, ahead of another that writes, used up already or not there yet. -/
def Region.ordB (md : Region.Mode) (ops : Array Oper) (dead : Nat → Option Nat) (Z : Nat → Bool) : Bool := (List.range ops.size).all fun j => match dead j with
  | some z => (List.range ops.size).all fun i => !Z i || i == z || Region.waitB md ops ops.size i z || Region.waitB md ops ops.size j i
  | none => true
/-- Known, as long as it isn't used up. -/
def SemL (Sem : Nat → Value → World → Prop) (dead : Nat → Option Nat) (listed : Array Bool) (i : Nat) (v : Value) (w : World) : Prop := (∀ z, dead i = some z → listed.getD z false = false) → Sem i v w
theorem freeX_any {Sem : Nat → Value → World → Prop} {Rz : World → World → Prop} (dead : Nat → Option Nat) (Z : Nat → Bool) {a0 : Act} {w0 : World} {n0 : Nat} (L0 : Array Bool) (hdead : Region.deadB md ops dead L0 = true) (hord : Region.ordB md ops dead Z = true) (hRz : ∀ u u', Rz u u' → Below n0 u u') (hL : L0.size = ops.size) (htail : Region.tailB md ops L0 = true) (hrow : Region.inRow md ops = true) (hap : Region.apartD ops a0.tmps.size = true)
    (hmono : ∀ i v u u', Sem i v u → Below u.heap.size u u' → Sem i v u') (hmonoZ : ∀ i v u u', dead i = none → Sem i v u → Rz u u' → Sem i v u')
    (hstep : ∀ i o a w, ops[i]? = some o → L0.getD i false = true → FreeIn md ops Sem a0 o a w → Below n0 w0 w → wpOp P ops Q i (fun b u => ∃ v, b = a.put o.dst v ∧ Sem i v u ∧ (Z i = true → Rz w u) ∧ (Z i = false → Below w.heap.size w u)) a w)
    (hfin : ∀ n a w, (leftN ops L0).length ≤ n → FreeAt ops (SemL Sem dead L0) a0 L0 a w → Below n0 w0 w → wpAny P md ops Q n L0 a w) (hn0 : n0 ≤ w0.heap.size) :
    ∀ n listed a w, (leftN ops listed).length ≤ n → (∀ i, listed.getD i false = true → L0.getD i false = true) → (∀ j o, ops[j]? = some o → listed.getD j false = true → ∀ e ∈ o.after, Region.binds md e = true → listed.getD e.on false = true) → FreeAt ops (SemL Sem dead listed) a0 listed a w → Below n0 w0 w → wpAny P md ops Q n listed a w := by
  intro n
  induction n with
  | zero =>
    intro listed a w hn hsub hcl hF hb
    have e : listed = L0 := by
      have h0 : leftN ops listed = [] := List.eq_nil_of_length_eq_zero (by omega)
      apply Array.ext (by rw [hF.lsize, hL])
      intro i h1 h2
      have : i ∉ leftN ops listed := by rw [h0]; exact List.not_mem_nil
      rw [mem_left] at this
      have h3 : listed[i] = true := by
        cases hc : listed[i]
        · exact absurd ⟨by rw [← hF.lsize]; exact h1, by simp [h1, hc]⟩ this
        · rfl
      have h4 := hsub i (by simp [h1, h3])
      rw [h3]
      simpa [h2] using h4.symm
    subst e
    exact hfin 0 a w hn hF hb
  | succ n ih =>
    intro listed a w hn hsub hcl hF hb
    by_cases hall0 : ∀ i, i < ops.size → L0.getD i false = true → listed.getD i false = true
    · have e : listed = L0 := by
        apply Array.ext (by rw [hF.lsize, hL])
        intro i h1 h2
        have h3 := hall0 i (by rw [← hL]; exact h2)
        have h4 := hsub i
        simp only [Array.getD_eq_getD_getElem?, Array.getElem?_eq_getElem h1, Array.getElem?_eq_getElem h2, Option.getD_some] at h3 h4
        cases hc : listed[i] <;> cases hd : L0[i] <;> simp_all
      subst e
      exact hfin _ a w hn hF hb
    · obtain ⟨q, hq⟩ := Classical.not_forall.1 hall0
      obtain ⟨hq1, hq⟩ := Classical.not_imp.1 hq
      obtain ⟨hq2, hq3⟩ := Classical.not_imp.1 hq
      refine ⟨fun hr => absurd (all_listed hrow hF.lsize hr q hq1) hq3, fun i hi => ?_⟩
      obtain ⟨h1, o, ho, hall⟩ := mem_ready.1 hi
      have hio : i < ops.size := (Array.getElem?_eq_some_iff.1 ho).1
      have hil : i < listed.size := by rw [hF.lsize]; exact hio
      have hiL : L0.getD i false = true := by
        cases hc : L0.getD i false
        · exact absurd (waitB_listed hcl _ _ _ _ ho hall (tail_waits htail ho hc hq2 hq1)) hq3
        · rfl
      have hIn : FreeIn md ops Sem a0 o a w := ⟨hF.size, hF.defers, hF.out, fun k d hk hd => by
        obtain ⟨e, he, h2⟩ : ∃ e ∈ o.after, (Region.binds md e && e.on == k) = true := by
          obtain ⟨e, he, h2⟩ := List.any_eq_true.1 hk
          exact ⟨e, by simpa using he, h2⟩
        rw [Bool.and_eq_true, beq_iff_eq] at h2
        obtain ⟨h2, rfl⟩ := h2
        obtain ⟨v, h5, h6⟩ := hF.done e.on d (hall e he h2) hd
        refine ⟨v, h5, h6 fun z hz => ?_⟩
        have h7 := List.all_eq_true.1 hdead i (List.mem_range.2 hio)
        rw [hiL, ho, Bool.not_true, Bool.false_or] at h7
        have h8 := List.all_eq_true.1 h7 e (by simpa using he)
        rw [h2, hz] at h8
        have h9 : z = i := by simpa using h8
        rw [h9]
        simpa [hil] using h1⟩
      refine wpOp_mono (fun b u h => ?_) (hstep i o a w ho hiL hIn hb)
      obtain ⟨v, rfl, hS, hbz, hbn⟩ := h
      have hbu : Below n0 w u := by
        cases hc : Z i
        · exact (hbn hc).mono (Nat.le_trans hn0 hb.size)
        · exact hRz _ _ (hbz hc)
      have hsub2 : ∀ j, (listed.setIfInBounds i true).getD j false = true → L0.getD j false = true := by
        intro j hj
        by_cases hji : j = i
        · subst hji
          exact hiL
        · refine hsub j ?_
          have : (listed.setIfInBounds i true)[j]? = listed[j]? := Array.getElem?_setIfInBounds_ne (Ne.symm hji)
          simpa [this] using hj
      have hcl2 : ∀ j o, ops[j]? = some o → (listed.setIfInBounds i true).getD j false = true → ∀ e ∈ o.after, Region.binds md e = true → (listed.setIfInBounds i true).getD e.on false = true := by
        have hup : ∀ k, listed.getD k false = true → (listed.setIfInBounds i true).getD k false = true := by
          intro k hk
          by_cases hki : k = i
          · subst hki
            simp [hil]
          · have : (listed.setIfInBounds i true)[k]? = listed[k]? := Array.getElem?_setIfInBounds_ne (Ne.symm hki)
            simpa [this] using hk
        intro j oj hoj hj e he hbd
        by_cases hji : j = i
        · subst hji
          rw [ho] at hoj
          obtain rfl := Option.some.inj hoj
          exact hup _ (hall e he hbd)
        · refine hup _ (hcl j oj hoj ?_ e he hbd)
          have : (listed.setIfInBounds i true)[j]? = listed[j]? := Array.getElem?_setIfInBounds_ne (Ne.symm hji)
          simpa [this] using hj
      refine ih _ _ _ (by have := leftN_set (mem_left.2 ⟨hio, h1⟩) hF.lsize; omega) hsub2 hcl2 ?_ (hb.trans hbu)
      have hA := List.all_eq_true.1 hap i (List.mem_range.2 hio)
      rw [Bool.and_eq_true] at hA
      obtain ⟨hA1, hA2⟩ := hA
      rw [ho, Option.bind_some] at hA1
      refine ⟨?_, ?_, by simp [hF.lsize], fun k hk => ?_, fun j d hj hd => ?_⟩
      · unfold Act.put
        split
        · simp [hF.size]
        · exact hF.size
      · unfold Act.put
        split <;> exact hF.defers
      · have := List.all_eq_true.1 hk o (by simpa using Array.mem_of_getElem? ho)
        unfold Act.put
        split
        · rename_i d hd
          rw [hd] at this
          have hdk : d ≠ k := by simpa using this
          show (a.tmps.setIfInBounds d v)[k]? = _
          rw [Array.getElem?_setIfInBounds_ne hdk]
          exact hF.out k hk
        · exact hF.out k hk
      · by_cases hji : j = i
        · subst hji
          rw [ho] at hd
          have hd' : o.dst = some d := hd
          rw [hd'] at hA1
          have hdn : d < a0.tmps.size := by simpa using hA1
          refine ⟨v, ?_, fun _ => hS⟩
          unfold Act.put
          rw [hd']
          show (a.tmps.setIfInBounds d v)[d]? = _
          rw [Array.getElem?_setIfInBounds_self, if_pos (by rw [hF.size]; exact hdn)]
        · have hj2 : listed.getD j false = true := by
            have : (listed.setIfInBounds i true)[j]? = listed[j]? := Array.getElem?_setIfInBounds_ne (Ne.symm hji)
            simpa [this] using hj
          obtain ⟨v', h5, h6⟩ := hF.done j d hj2 hd
          have hZi : ∀ z, dead j = some z → (listed.setIfInBounds i true).getD z false = false → z ≠ i ∧ listed.getD z false = false := by
            intro z _ hz
            have hne : z ≠ i := fun e => by
              subst e
              simp [hil] at hz
            refine ⟨hne, ?_⟩
            have : (listed.setIfInBounds i true)[z]? = listed[z]? := Array.getElem?_setIfInBounds_ne (Ne.symm hne)
            simpa [this] using hz
          have hjs : j < ops.size := by
            apply Classical.byContradiction
            intro h
            rw [Array.getElem?_eq_none (by omega)] at hd
            cases hd
          have hkeep : SemL Sem dead (listed.setIfInBounds i true) j v' u := by
            intro hall2
            have h6' := h6 fun z hz => (hZi z hz (hall2 z hz)).2
            cases hc : Z i
            · exact hmono _ _ _ _ h6' (hbn hc)
            · cases hdj : dead j with
              | none => exact hmonoZ _ _ _ _ hdj h6' (hbz hc)
              | some z =>
                exfalso
                obtain ⟨hne, hz0⟩ := hZi z hdj (hall2 z hdj)
                have h7 := List.all_eq_true.1 hord j (List.mem_range.2 hjs)
                rw [hdj] at h7
                have h8 := List.all_eq_true.1 h7 i (List.mem_range.2 hio)
                rw [hc] at h8
                have hiz : (i == z) = false := by simpa using Ne.symm hne
                rw [hiz, Bool.not_true, Bool.false_or, Bool.false_or, Bool.or_eq_true] at h8
                rcases h8 with h8 | h8
                · rw [waitB_listed hcl _ _ _ _ ho hall h8] at hz0
                  cases hz0
                · have hoj : ops[j]? = some ops[j] := by simp [hjs]
                  have h10 := waitB_listed hcl _ _ _ _ hoj (hcl j _ hoj hj2) h8
                  rw [mem_left.1 (mem_left.2 ⟨hio, h1⟩) |>.2 |> fun h => (show listed.getD i false = false by simpa [hil] using h)] at h10
                  cases h10
          refine ⟨v', ?_, hkeep⟩
          unfold Act.put
          split
          · rename_i d' hd'
            have hne : d' ≠ d := by
              have hjo : j < ops.size := by
                apply Classical.byContradiction
                intro h
                rw [Array.getElem?_eq_none (by omega)] at hd
                cases hd
              have h7 := List.all_eq_true.1 hA2 j (List.mem_range.2 hjo)
              rw [ho, hd] at h7
              have hib : (i == j) = false := by simpa using Ne.symm hji
              rw [hib] at h7
              simp only [Option.bind_some, hd', Bool.false_or] at h7
              simpa using h7
            show (a.tmps.setIfInBounds d' v)[d]? = _
            rw [Array.getElem?_setIfInBounds_ne hne]
            exact h5
          · exact h5
/-- A region whose last operations (those that L0 leaves out) are walked by hand. -/
theorem freeX_walk {id : Nat} {Sem : Nat → Value → World → Prop} {Rz : World → World → Prop} (dead : Nat → Option Nat) (Z : Nat → Bool) {n0 : Nat} {a0 : Act} {w : World} (L0 : Array Bool) (hdead : Region.deadB .any ops dead L0 = true) (hord : Region.ordB .any ops dead Z = true) (hRz : ∀ u u', Rz u u' → Below n0 u u') (hn0 : n0 ≤ w.drew.heap.size) (hm : P.follows .mixedOrders = true) {n : Nat} (hL : L0.size = ops.size) (htail : Region.tailB .any ops L0 = true) (hrow : Region.inRow .any ops = true) (hsz : a0.tmps.size = n) (hap : Region.apartD ops n = true)
    (hmono : ∀ i v u u', Sem i v u → Below u.heap.size u u' → Sem i v u') (hmonoZ : ∀ i v u u', dead i = none → Sem i v u → Rz u u' → Sem i v u')
    (hstep : ∀ i o a u, ops[i]? = some o → L0.getD i false = true → FreeIn .any ops Sem a0 o a u → Below n0 w.drew u → wpOp P ops Q i (fun b u' => ∃ v, b = a.put o.dst v ∧ Sem i v u' ∧ (Z i = true → Rz u u') ∧ (Z i = false → Below u.heap.size u u')) a u)
    (hfin : ∀ (vs : Nat → Value) u m, (leftN ops L0).length ≤ m → (∀ i d, ((ops[i]?).bind (·.dst)) = some d → dead i = none → Sem i (vs i) u) → Below n0 w.drew u → wpAny P .any ops Q m L0 (putFrom vs a0 ops.toList 0) u) : (Code.region id ops true).wp P Q a0 w := by
  refine wp_region_any hm (freeX_any dead Z L0 hdead hord hRz hL htail hrow (by rw [hsz]; exact hap) hmono hmonoZ hstep (fun m a u hm0 hF hb => ?_) hn0 _ _ _ _ (by unfold leftN; exact Nat.le_trans (List.length_filter_le _ _) (by simp)) (fun i h => ?_) (fun j o _ h => ?_) ⟨rfl, rfl, by simp, fun _ _ => rfl, fun i d h _ => ?_⟩ (Below.refl _ _))
  · have hin : ∀ (i : Nat) (d : Tmp), ((ops[i]?).bind (fun x => Oper.dst x)) = some d → i < ops.size := by
      intro i d hd
      apply Classical.byContradiction
      intro h
      rw [Array.getElem?_eq_none (by omega)] at hd
      cases hd
    have hlist : ∀ (i : Nat) (d : Tmp), ((ops[i]?).bind (fun x => Oper.dst x)) = some d → L0.getD i false = true := by
      intro i d hd
      cases hc : L0.getD i false
      · have hi := hin i d hd
        have ho : ops[i]? = some ops[i] := by simp [hi]
        rw [ho, Option.bind_some, tail_none htail ho hc] at hd
        cases hd
      · rfl
    have h1 : ∀ (i : Nat) (d : Tmp), ((ops[i]?).bind (fun x => Oper.dst x)) = some d → a.tmps[d]? = some ((((ops[i]?).bind (fun x => Oper.dst x)).bind (a.tmps[·]?)).getD undef) := by
      intro i d hd
      obtain ⟨v, h1, _⟩ := hF.done i d (hlist i d hd) hd
      rw [hd]
      show _ = some ((a.tmps[d]?).getD undef)
      rw [h1]; rfl
    have key := hfin (fun i => (((ops[i]?).bind (fun x => Oper.dst x)).bind (a.tmps[·]?)).getD undef) u m hm0 (fun i d hd hdn => by
      obtain ⟨v, h2, h3⟩ := hF.done i d (hlist i d hd) hd
      have h4 := h1 i d hd
      rw [h2] at h4
      exact Option.some.inj h4 ▸ h3 (fun z hz => by rw [hdn] at hz; cases hz)) hb
    rw [putFrom_eq (a := a) _ ops.toList 0 a0 (fun j d hj _ => by
      rw [Nat.zero_add]
      exact h1 j d (by simpa using hj)) hF.size.symm hF.defers.symm (fun k hk => (hF.out k hk).symm)] at key
    exact key
  · simp [Array.getElem?_replicate] at h
    split at h <;> simp_all
  · simp [Array.getElem?_replicate] at h
    split at h <;> simp_all
  · simp [Array.getElem?_replicate] at h
    split at h <;> simp_all
theorem freeX_step {i : Nat} {o : Oper} {Z : Nat → Bool} {Rz : World → World → Prop} {Sem : Nat → Value → World → Prop} {a : Act} {w : World} (hZ : Z i = false) (ho : ops[i]? = some o) (hw : Region.wanted o (yielded ops a.tmps) = true) (h : ∀ K' : Act → World → Prop, Hid (∀ v u, Sem i v u → Below w.heap.size w u → K' (a.put o.dst v) u) → Oper.wp P o a w K' Q) : wpOp P ops Q i (fun b u => ∃ v, b = a.put o.dst v ∧ Sem i v u ∧ (Z i = true → Rz w u) ∧ (Z i = false → Below w.heap.size w u)) a w :=
  free_op ho hw (h _ (fun v _ hS hb => ⟨v, rfl, hS, fun h => (by rw [hZ] at h; cases h), fun _ => hb⟩))
theorem freeX_stepZ {i : Nat} {o : Oper} {Z : Nat → Bool} {Rz : World → World → Prop} {Sem : Nat → Value → World → Prop} {a : Act} {w : World} (hZ : Z i = true) (ho : ops[i]? = some o) (hw : Region.wanted o (yielded ops a.tmps) = true) (h : ∀ K' : Act → World → Prop, Hid (∀ v u, Sem i v u → Rz w u → K' (a.put o.dst v) u) → Oper.wp P o a w K' Q) : wpOp P ops Q i (fun b u => ∃ v, b = a.put o.dst v ∧ Sem i v u ∧ (Z i = true → Rz w u) ∧ (Z i = false → Below w.heap.size w u)) a w :=
  free_op ho hw (h _ (fun v _ hS hb => ⟨v, rfl, hS, fun _ => hb, fun h => (by rw [hZ] at h; cases h)⟩))
end
end Go.Proofs.YtpcmpeeflnlkpaaGreatDoor

namespace Go.Proofs.YtpcmpeeflnlkpaaGreatDoor
open Go.RowKit Ch
set_option maxRecDepth 100000

theorem make_b (w : World) (n : Nat) (hn : n ≤ 900000) : ∃ w', (Instr.makeSlice 22 (.int .i64 (n : Int)) (.int .i64 (n : Int))).run Tryz.prog w = .ok (.slice (some ⟨w.heap.size, 0, none⟩) n n) w' ∧ IsBytes w' (.slice (some ⟨w.heap.size, 0, none⟩) n n) ⟨(List.replicate n 0).toArray⟩ ∧ Below w.heap.size w w' := by
  obtain ⟨i0, hi, hz0, hz1, hz2⟩ := info5
  obtain ⟨w2, hrun, hown, hgr⟩ := run_makeSlice_full (P := Tryz.prog) (w := w) w.heap.size 22 5 i0 (.int .u8 0) 1 Tryz.underlying22 hi hz0 hz1 .i64 .i64 n (by omega) (by rw [hz2]; omega) (by unfold maxLen; omega) (Nat.le_refl _)
  rw [made_kc] at hown
  exact ⟨w2, hrun, (own_zeros (by rw [List.length_replicate]; exact hown)).is, (Below.refl _ w).grown hgr (Nat.le_refl _) (fun k e => by cases e)⟩
theorem bare_z (m : Nat) (l : List UInt8) : bareL (List.replicate m 0 ++ l) = bareL l := by
  induction m with
  | zero => simp
  | succ m ih => rw [List.replicate_succ, List.cons_append, bareL_zero, ih]
theorem bare_first {l : List UInt8} (h : bareL l = l) (hn : l ≠ []) : ∃ x t, l = x :: t ∧ x ≠ 0 := by
  cases l with
  | nil => exact absurd rfl hn
  | cons x t =>
    refine ⟨x, t, rfl, fun h0 => ?_⟩
    subst h0
    rw [bareL_zero] at h
    have h1 := congrArg List.length h
    have h2 := bare_leQ t
    rw [List.length_cons] at h1
    omega
theorem right_z (m : Nat) (N E D : List UInt8) : rightP (List.replicate m 0 ++ N) (List.replicate m 0 ++ E) (List.replicate m 0 ++ D) = rightP N E D := by
  unfold rightP
  rw [bare_z, numB_zeros, numB_zeros, numB_zeros]
theorem pow_z (m : Nat) (N D b : List UInt8) : powL (List.replicate m 0 ++ N) (List.replicate m 0 ++ D) b = powL N D b := by
  unfold powL
  rw [bare_z, numB_zeros, numB_zeros]
theorem ver_z (m : Nat) (N E D b S : List UInt8) : verL (List.replicate m 0 ++ N) (List.replicate m 0 ++ E) (List.replicate m 0 ++ D) b S = verL N E D b S := by
  unfold verL
  simp only [right_z, bare_z, numB_zeros]
theorem aggZ_later {n0 : Nat} {u u' : World} {v : Value} {ZR ZE ZD : List UInt8} (h : ∃ va vb vc, v = .agg #[va, vb, vc] ∧ OwnL n0 u va ZR ∧ OwnL n0 u vb ZE ∧ OwnL n0 u vc ZD) (hb : Below u.heap.size u u') : ∃ va vb vc, v = .agg #[va, vb, vc] ∧ OwnL n0 u' va ZR ∧ OwnL n0 u' vb ZE ∧ OwnL n0 u' vc ZD := by
  obtain ⟨va, vb, vc, e, h1, h2, h3⟩ := h
  exact ⟨va, vb, vc, e, h1.later hb, h2.later hb, h3.later hb⟩
theorem boxZ_later {n0 : Nat} {u u' : World} {v : Value} {o : Obj} (h : ∃ r, v = .pointer (some ⟨r, 0, none⟩) ∧ n0 ≤ r ∧ u.heap[r]? = some o) (hb : Below u.heap.size u u') : ∃ r, v = .pointer (some ⟨r, 0, none⟩) ∧ n0 ≤ r ∧ u'.heap[r]? = some o := by
  obtain ⟨r, e, h1, h2⟩ := h
  exact ⟨r, e, h1, (hb.block _ (Array.getElem?_eq_some_iff.1 h2).1).trans h2⟩
def deadS : Nat → Option Nat
  | 2 => some 5
  | 8 => some 11
  | 14 => some 17
  | _ => none
def writeS (i : Nat) : Bool := i == 5 || i == 11 || i == 17
def semLS (y1 y2 y3 : Option Addr) (k1 k2 k3 c1 c2 c3 gz m qk n0 : Nat) (ZR ZE ZD : List UInt8) : Nat → Value → World → Prop := fun ix v u => match ix with
  | 0 => EmptyZ n0 u v
  | 1 => v = .slice (some ⟨gz, 0, none⟩) m m
  | 2 => OwnL n0 u v (List.replicate m 0) ∧ SpareV m u v
  | 3 => v = .pointer (some ⟨qk, 0, none⟩)
  | 4 => v = .slice y1 k1 c1
  | 5 => OwnL n0 u v ZR
  | 6 => EmptyZ n0 u v
  | 7 => v = .slice (some ⟨gz, 0, none⟩) m m
  | 8 => OwnL n0 u v (List.replicate m 0) ∧ SpareV m u v
  | 9 => v = .pointer (some ⟨qk, 1, none⟩)
  | 10 => v = .slice y2 k2 c2
  | 11 => OwnL n0 u v ZE
  | 12 => EmptyZ n0 u v
  | 13 => v = .slice (some ⟨gz, 0, none⟩) m m
  | 14 => OwnL n0 u v (List.replicate m 0) ∧ SpareV m u v
  | 15 => v = .pointer (some ⟨qk, 2, none⟩)
  | 16 => v = .slice y3 k3 c3
  | 17 => OwnL n0 u v ZD
  | 18 => ∃ va vb vc, v = .agg #[va, vb, vc] ∧ OwnL n0 u va ZR ∧ OwnL n0 u vb ZE ∧ OwnL n0 u vc ZD
  | 19 => ∃ r, v = .pointer (some ⟨r, 0, none⟩) ∧ n0 ≤ r ∧ u.heap[r]? = some (.cells #[.slice none 0 0, .slice none 0 0, .slice none 0 0] 25 (0, 0))
  | 20 => v = v
  | _ => True
set_option maxHeartbeats 32000000 in
theorem lqSigns_any (i noughts : Int) (v0 : Value) (b : List UInt8) (w : World) (h0 : IsBytes w v0 ⟨b.toArray⟩) (hK : KTab w) :
    Calls Tryz.prog 3 #[.int .i64 i, v0, .int .i64 noughts] w fun e w' => e = .returned (.bool true) ∧ Below w.heap.size w w' := by
  obtain ⟨yb, cb, rfl⟩ := isb_shape h0
  obtain ⟨kb, hkb⟩ : ∃ k, b.length = k := ⟨_, rfl⟩
  rw [hkb] at h0 ⊢
  have hAw := lqAwake_any w hK
  have HI := show Hid (∀ u, Below w.heap.size w u → IsBytes u (.slice yb kb cb) ⟨b.toArray⟩ ∧ KTab u) from fun u hu => ⟨h0.later hu, hK.later hu⟩
  clear h0 hK
  by_cases hg : kb ≤ 500
  case neg =>
    have hg2 : (500 : Int) < (kb : Int) := by omega
    go_enter Tryz.func3, Tryz.ntmps3
    go_wp2_with fail
    refine hAw.mono ?_
    rintro e w1 ⟨rfl, b1⟩
    have hA2 := lqAwake_any w1 (HI.out w1 b1).2
    have HB := show Hid (Below w.heap.size w w1) from b1
    clear hAw b1
    go_wp2_with fail
    refine hA2.mono ?_
    rintro e w2 ⟨rfl, b2⟩
    have HF := show Hid (Below w.heap.size w w2) from bl2 HB.out b2
    clear hA2 b2
    go_wp2_with fail
    go_ret
    exact ⟨rfl, HF.out⟩
  have hg2 : ¬ (500 : Int) < (kb : Int) := by omega
  have HL := show Hid (b.length = kb ∧ kb ≤ 500) from ⟨hkb, hg⟩
  clear hg hkb
  go_enter Tryz.func3, Tryz.ntmps3
  go_wp2_with fail
  refine hAw.mono ?_
  rintro e w1 ⟨rfl, b1⟩
  have hKy := lqKey_any i w1
  have HB := show Hid (Below w.heap.size w w1) from b1
  clear hAw b1
  go_wp2_with fail
  refine hKy.mono ?_
  rintro e w2 ⟨⟨v1, v2, v3, rfl, hok⟩, b2⟩
  obtain ⟨R, D, hk⟩ := key_is _ (keyAt_lt i) hok
  generalize keyN (keyAt i) = n at *
  obtain ⟨y1, k1, c1, rfl⟩ := isb_open hk.at1
  obtain ⟨y2, k2, c2, rfl⟩ := isb_open hk.at2
  obtain ⟨y3, k3, c3, rfl⟩ := isb_open hk.at3
  obtain rfl : k1 = n := (isb_size hk.at1).symm.trans ((size_of_list R).trans hk.len)
  clear hKy hok
  have kbx := keyBox w2 (.slice y1 k1 c1) (.slice y2 k2 c2) (.slice y3 k3 c3)
  obtain ⟨qk, hq⟩ : ∃ q, w2.heap.size = q := ⟨_, rfl⟩
  obtain ⟨W3, hW3⟩ : ∃ W, w2.alloc (.cells #[.slice y1 k1 c1, .slice y2 k2 c2, .slice y3 k3 c3] 25) = W := ⟨_, rfl⟩
  rw [hW3, hq] at kbx
  have h3 := bl2 (bl2 HB.out b2) kbx.below
  have hSg := keySign (hk.later kbx.below) (HI.out W3 h3).1 (HI.out W3 h3).2 (by have := HL.out; omega)
  have HK3 := show Hid (KeyBox w2 W3 qk (.slice y1 k1 c1) (.slice y2 k2 c2) (.slice y3 k3 c3) ∧ KeyIs W3 (.slice y1 k1 c1) (.slice y2 k2 c2) (.slice y3 k3 c3) R [1, 0, 1] D k1 ∧ Below w.heap.size w W3) from ⟨kbx, hk.later kbx.below, h3⟩
  obtain ⟨g0, g1, g2⟩ := kbx.cells (Below.refl _ W3)
  clear kbx b2 hk h3
  go_wp2_with fail
  refine hSg.mono ?_
  rintro e w4 ⟨⟨x4, rfl, i4⟩, b4⟩
  obtain ⟨y4, c4, rfl⟩ : ∃ y c, x4 = .slice y k1 c := by
    obtain ⟨y, c, h⟩ := isb_shape i4
    rw [dB_length] at h
    exact ⟨y, c, h⟩
  obtain ⟨S, hS0⟩ : ∃ S, dB (powL R D b) k1 = S := ⟨_, rfl⟩
  have hSl : S.length = k1 := by rw [← hS0]; exact dB_length _ _
  rw [hS0] at i4
  have HS := show Hid (dB (powL R D b) k1 = S ∧ S.length = k1) from ⟨hS0, hSl⟩
  obtain ⟨SS, hSS⟩ : ∃ X : ByteArray, (⟨S.toArray⟩ : ByteArray) = X := ⟨_, rfl⟩
  have HSS := show Hid ((⟨S.toArray⟩ : ByteArray) = SS ∧ (SS.toList == SS.toList) = true) from ⟨hSS, beq_self_eq_true _⟩
  have HF := show Hid (∀ u, Below w4.heap.size w4 u → (u.cell? ⟨qk, 0, none⟩ = some (.slice y1 k1 c1) ∧ u.cell? ⟨qk, 1, none⟩ = some (.slice y2 k2 c2) ∧ u.cell? ⟨qk, 2, none⟩ = some (.slice y3 k3 c3)) ∧ KeyIs u (.slice y1 k1 c1) (.slice y2 k2 c2) (.slice y3 k3 c3) R [1, 0, 1] D k1 ∧ IsBytes u (.slice yb kb cb) ⟨b.toArray⟩ ∧ KTab u ∧ IsBytes u (.slice y4 k1 c4) ⟨S.toArray⟩ ∧ Below w.heap.size w u) from fun u hu => by
    have h3 := bl2 b4 hu
    have hw := bl2 HK3.out.2.2 h3
    exact ⟨HK3.out.1.cells h3, HK3.out.2.1.later h3, (HI.out u hw).1, (HI.out u hw).2, i4.later hu, hw⟩
  clear hSg i4 b4 hS0 hSl hSS g0 g1 g2
  have HC := show Hid (∀ u, Below w4.heap.size w4 u → Calls Tryz.prog 11 #[.agg #[.slice y1 k1 c1, .slice y2 k2 c2, .slice y3 k3 c3]] u (fun e w' => (∃ v, e = .returned v ∧ qPbK w' v R [1, 0, 1]) ∧ Below u.heap.size u w') ∧
      (∀ ya ka ca ye ke ce, IsBytes u (.slice ya ka ca) ⟨R.toArray⟩ → IsBytes u (.slice ye ke ce) ⟨([1, 0, 1] : List UInt8).toArray⟩ → Calls Tryz.prog 10 #[.agg #[.slice ya ka ca, .slice ye ke ce, .slice none 0 0], .slice yb kb cb, .slice y4 k1 c4] u (fun e w' => e = .returned (.int .i64 0) ∧ Below u.heap.size u w') ∧
        Calls Tryz.prog 12 #[.agg #[.slice ya ka ca, .slice ye ke ce, .slice none 0 0], .slice yb kb cb, .slice y4 k1 c4] u (fun e w' => e = .returned (.int .i64 0) ∧ Below u.heap.size u w'))) from fun u hu => by
    obtain ⟨_, hku, hbb, hkt, i4, _⟩ := HF.out u hu
    have l1 := hku.len
    have l2 := hku.lenD
    have l3 := hku.size
    have l5 := HL.out
    have l6 := HS.out
    have hv := key_ver hku [] b (right_nil hku.right)
    rw [l6.1] at hv
    refine ⟨qPublic_any _ _ _ R [1, 0, 1] D u hku.at1 hku.at2 hku.at3 (by omega) (by decide) (by omega), fun ya ka ca ye ke ce p1 p2 => ⟨?_, ?_⟩⟩
    · have h := qVerify_any _ _ (.slice none 0 0) _ _ R [1, 0, 1] [] b S u p1 p2 (isb_none u) hbb i4 hkt (by omega) (by decide) (by decide) (by omega) (by omega)
      rw [hv] at h
      exact h
    · have h := qrVerify_any _ _ (.slice none 0 0) _ _ R [1, 0, 1] [] b S u p1 p2 (isb_none u) hbb i4 (by omega) (by decide) (by decide) (by omega) (by omega)
      rw [hv] at h
      exact h
  obtain ⟨⟨g0, g1, g2⟩, _⟩ := HF.out w4 (Below.refl _ _)
  have hPb := (HC.out w4 (Below.refl _ _)).1
  go_wp2_with fail
  refine hPb.mono ?_
  rintro e w5 ⟨⟨v5, rfl, ya, ka, ca, ye, ke, ce, rfl, ia, ie⟩, b5⟩
  clear hPb g0 g1 g2
  have hVf := ((HC.out w5 b5).2 ya ka ca ye ke ce ia ie).1
  have H5 := show Hid (Below w4.heap.size w4 w5) from b5
  clear ia ie b5
  go_wp2_with fail
  refine hVf.mono ?_
  rintro e w6 ⟨rfl, b6⟩
  clear hVf
  have h6 := bl2 H5.out b6
  obtain ⟨⟨g0, g1, g2⟩, _⟩ := HF.out w6 h6
  have hPb := (HC.out w6 h6).1
  have H6 := show Hid (Below w4.heap.size w4 w6) from h6
  clear b6 h6
  go_wp2_with fail
  refine hPb.mono ?_
  rintro e w7 ⟨⟨v7, rfl, ya, ka, ca, ye, ke, ce, rfl, ia, ie⟩, b7⟩
  clear hPb g0 g1 g2
  have h7 := bl2 H6.out b7
  have hVf := ((HC.out w7 h7).2 ya ka ca ye ke ce ia ie).2
  have H7 := show Hid (Below w4.heap.size w4 w7) from h7
  clear ia ie b7 h7
  go_wp2_with fail
  refine hVf.mono ?_
  rintro e w8 ⟨rfl, b8⟩
  clear hVf
  have H8 := show Hid (Below w4.heap.size w4 w8) from bl2 H7.out b8
  clear b8
  obtain ⟨r5, hr5⟩ : ∃ r, noughts.tmod 5 = r := ⟨_, rfl⟩
  have hr4 : -5 < r5 ∧ r5 < 5 := by
    have h1 := Int.natAbs_tmod noughts 5
    have h2 : (noughts.tmod 5).natAbs < 5 := by
      rw [h1]
      exact Nat.mod_lt _ (by decide)
    rw [hr5] at h2
    omega
  have wr5 : IntKind.i64.wrap (r5 + 5) = r5 + 5 := by rw [IntKind.wrap_i64]; omega
  obtain ⟨m, hm⟩ : ∃ m : Nat, (r5 + 5).tmod 5 = (m : Int) := ⟨((r5 + 5).tmod 5).toNat, by
    have := Int.tmod_nonneg 5 (show 0 ≤ r5 + 5 by omega)
    omega⟩
  have hm5 : m < 5 := by
    have := Int.tmod_lt_of_pos (r5 + 5) (show (0 : Int) < 5 by decide)
    omega
  obtain ⟨W8, hrun, iz, b8⟩ := make_b w8 m (by omega)
  obtain ⟨gz, hgz⟩ : ∃ g, w8.heap.size = g := ⟨_, rfl⟩
  rw [hgz] at hrun iz
  obtain ⟨n0, hn0⟩ : ∃ g, W8.heap.size = g := ⟨_, rfl⟩
  have HN0 := show Hid (W8.heap.size = n0) from hn0
  have HW8 := show Hid (Below w4.heap.size w4 W8) from bl2 H8.out b8
  obtain ⟨ZR, hZR⟩ : ∃ l, List.replicate m 0 ++ R = l := ⟨_, rfl⟩
  obtain ⟨ZE, hZE⟩ : ∃ l, List.replicate m (0 : UInt8) ++ [1, 0, 1] = l := ⟨_, rfl⟩
  obtain ⟨ZD, hZD⟩ : ∃ l, List.replicate m 0 ++ D = l := ⟨_, rfl⟩
  obtain ⟨_, hkW, _, _, _, _⟩ := HF.out W8 HW8.out
  have hdR : ∃ x t, R = x :: t ∧ x ≠ 0 := bare_first hkW.bare (by have := hkW.size; have := hkW.len; intro h; rw [h] at this; simp at this; omega)
  have hdD : ∃ x t, D = x :: t ∧ x ≠ 0 := bare_first hkW.bareD (fun h => hkW.priv (by rw [h]; rfl))
  have l1 := hkW.len
  have l2 := hkW.lenD
  have l3 := hkW.size
  have HM := show Hid (m ≤ 1000 ∧ (R ≠ [] ∧ R.length ≤ 900000) ∧ (([1, 0, 1] : List UInt8) ≠ [] ∧ ([1, 0, 1] : List UInt8).length ≤ 900000) ∧ (D ≠ [] ∧ D.length ≤ 900000) ∧ m < 5) from
    ⟨by omega, ⟨by obtain ⟨x, t, h, _⟩ := hdR; rw [h]; simp, by omega⟩, ⟨by simp, by decide⟩, ⟨by obtain ⟨x, t, h, _⟩ := hdD; rw [h]; simp, by omega⟩, hm5⟩
  have HZ := show Hid (List.replicate m 0 ++ R = ZR ∧ List.replicate m (0 : UInt8) ++ [1, 0, 1] = ZE ∧ List.replicate m 0 ++ D = ZD) from ⟨hZR, hZE, hZD⟩
  have HL3 := show Hid (ZR.length = m + k1 ∧ ZE.length = m + 3 ∧ ZD.length = m + D.length) from ⟨by rw [← hZR]; simp; omega, by rw [← hZE]; simp, by rw [← hZD]; simp⟩
  have HLZ := show Hid (D.length ≤ k1) from l2
  have HKZ := show Hid ((∀ u u' v, OwnL n0 u v ZR → RowsZ n0 m u u' → OwnL n0 u' v ZR) ∧ (∀ u u' v, OwnL n0 u v ZE → RowsZ n0 m u u' → OwnL n0 u' v ZE) ∧ (∀ u u' v, OwnL n0 u v ZD → RowsZ n0 m u u' → OwnL n0 u' v ZD)) from by
    rw [← hZR, ← hZE, ← hZD]
    refine ⟨fun u u' v h hr => ?_, fun u u' v h hr => h.keptZ (by decide) hr, fun u u' v h hr => ?_⟩
    · obtain ⟨x, t, rfl, hx⟩ := hdR
      exact h.keptZ hx hr
    · obtain ⟨x, t, rfl, hx⟩ := hdD
      exact h.keptZ hx hr
  have HU := show Hid (∀ u, Below n0 W8.drew u → (u.cell? ⟨qk, 0, none⟩ = some (.slice y1 k1 c1) ∧ u.cell? ⟨qk, 1, none⟩ = some (.slice y2 k2 c2) ∧ u.cell? ⟨qk, 2, none⟩ = some (.slice y3 k3 c3)) ∧ IsBytes u (.slice (some ⟨gz, 0, none⟩) m m) ⟨(List.replicate m 0).toArray⟩ ∧ IsBytes u (.slice y1 k1 c1) ⟨R.toArray⟩ ∧ IsBytes u (.slice y2 k2 c2) ⟨([1, 0, 1] : List UInt8).toArray⟩ ∧ IsBytes u (.slice y3 k3 c3) ⟨D.toArray⟩ ∧ n0 ≤ u.heap.size) from fun u hu => by
    have hu8 : Below W8.heap.size W8 u := by
      have h9 := (Below.refl W8.heap.size W8).drew
      rw [HN0.out] at h9 ⊢
      exact h9.trans hu
    obtain ⟨f, hku, _⟩ := HF.out u (bl2 HW8.out hu8)
    exact ⟨f, iz.later hu8, hku.at1, hku.at2, hku.at3, by have := hu8.size; rw [HN0.out] at this; exact this⟩
  clear hkW hdR hdD l1 l2 l3 hZR hZE hZD iz b8 hr4 hm5 hgz hn0
  go_wp2_with fail
  clear hrun wr5 hm hr5
  refine freeX_walk (Sem := semLS y1 y2 y3 k1 k2 k3 c1 c2 c3 gz m qk n0 ZR ZE ZD) (Rz := RowsZ n0 m) deadS writeS (n0 := n0) #[true, true, true, true, true, true, true, true, true, true, true, true, true, true, true, true, true, true, true, true, false] (by kernel_rfl) (by kernel_rfl) (fun _ _ h => h.below) (Nat.le_of_eq HN0.out.symm) rfl (n := 123) rfl (by kernel_rfl) (by kernel_rfl) rfl (by kernel_rfl) ?_ ?_ ?_ ?_
  · intro ix v u u' h hb
    match ix, h with
    | 0, h => exact EmptyZ.later h hb
    | 1, h => exact h
    | 2, h => exact ⟨h.1.later hb, h.2.later h.1 hb⟩
    | 3, h => exact h
    | 4, h => exact h
    | 5, h => exact OwnL.later h hb
    | 6, h => exact EmptyZ.later h hb
    | 7, h => exact h
    | 8, h => exact ⟨h.1.later hb, h.2.later h.1 hb⟩
    | 9, h => exact h
    | 10, h => exact h
    | 11, h => exact OwnL.later h hb
    | 12, h => exact EmptyZ.later h hb
    | 13, h => exact h
    | 14, h => exact ⟨h.1.later hb, h.2.later h.1 hb⟩
    | 15, h => exact h
    | 16, h => exact h
    | 17, h => exact OwnL.later h hb
    | 18, h => exact aggZ_later h hb
    | 19, h => exact boxZ_later h hb
    | 20, h => exact h
    | _ + 21, _ => exact trivial
  · intro ix v u u' hd h hr
    match ix, hd, h with
    | 0, _, h => exact EmptyZ.keptZ h hr
    | 1, _, h => exact h
    | 2, hd, _ => exact absurd hd (by decide)
    | 3, _, h => exact h
    | 4, _, h => exact h
    | 5, _, h => exact HKZ.out.1 _ _ _ h hr
    | 6, _, h => exact EmptyZ.keptZ h hr
    | 7, _, h => exact h
    | 8, hd, _ => exact absurd hd (by decide)
    | 9, _, h => exact h
    | 10, _, h => exact h
    | 11, _, h => exact HKZ.out.2.1 _ _ _ h hr
    | 12, _, h => exact EmptyZ.keptZ h hr
    | 13, _, h => exact h
    | 14, hd, _ => exact absurd hd (by decide)
    | 15, _, h => exact h
    | 16, _, h => exact h
    | 17, _, h => exact HKZ.out.2.2 _ _ _ h hr
    | 18, _, h =>
      obtain ⟨va, vb, vc, e, h1, h2, h3⟩ := h
      exact ⟨va, vb, vc, e, HKZ.out.1 _ _ _ h1 hr, HKZ.out.2.1 _ _ _ h2 hr, HKZ.out.2.2 _ _ _ h3 hr⟩
    | 19, _, h =>
      obtain ⟨r, e, h1, h2⟩ := h
      refine ⟨r, e, h1, ?_⟩
      rcases hr.block r h1 (block_lt h2) with e2 | ⟨cs, k, h7, _⟩
      · exact e2.trans h2
      · rw [h2] at h7
        simp at h7
    | 20, _, h => exact h
    | _ + 21, _, _ => exact trivial
  · intro ix o a u ho hL hF hbu
    match ix, ho, hL, hF with
    | 0, ho, _, hF =>
      obtain rfl := Option.some.inj ho
      refine freeX_step rfl rfl (by rfl) (fun K' hK => ?_)
      go_simp
      exact hK.out _ _ ⟨_, rfl, (HU.out u hbu).2.2.2.2.2, heap_push_at u _⟩ (alB u _)
    | 1, ho, _, hF =>
      obtain rfl := Option.some.inj ho
      have h11 : a.tmps[11]? = some (.slice (some ⟨gz, 0, none⟩) m m) := (hF.out 11 rfl).trans rfl
      refine freeX_step rfl rfl (by rfl) (fun K' hK => ?_)
      go_simp
      exact hK.out _ _ rfl (Below.refl _ _)
    | 2, ho, _, hF =>
      obtain rfl := Option.some.inj ho
      obtain ⟨v71, h71, s71⟩ := hF.dep 0 71 rfl rfl
      replace s71 : EmptyZ n0 u v71 := s71
      obtain ⟨v72, h72, s72⟩ := hF.dep 1 72 rfl rfl
      obtain rfl : v72 = .slice (some ⟨gz, 0, none⟩) m m := s72
      obtain ⟨v', w', hrun, ho, hs, hb⟩ := append_e 22 s71 (HU.out u hbu).2.1 HM.out.1 (HU.out u hbu).2.2.2.2.2
      refine freeX_step rfl rfl (by rfl) (fun K' hK => ?_)
      refine wp_append (.tmp 71) (.tmp 72) rfl (eval_tmp h71) (eval_tmp h72) hrun ?_
      exact hK.out _ _ ⟨ho, hs⟩ hb
    | 3, ho, _, hF =>
      obtain rfl := Option.some.inj ho
      have h7 : a.tmps[7]? = some (.pointer (some ⟨qk, 0, none⟩)) := (hF.out 7 rfl).trans rfl
      refine freeX_step rfl rfl (by rfl) (fun K' hK => ?_)
      go_simp
      exact hK.out _ _ rfl (Below.refl _ _)
    | 4, ho, _, hF =>
      obtain rfl := Option.some.inj ho
      obtain ⟨v74, h74, s74⟩ := hF.dep 3 74 rfl rfl
      obtain rfl : v74 = .pointer (some ⟨qk, 0, none⟩) := s74
      have g0 := (HU.out u hbu).1.1
      refine freeX_step rfl rfl (by rfl) (fun K' hK => ?_)
      go_simp
      exact hK.out _ _ rfl (Below.refl _ _)
    | 5, ho, _, hF =>
      obtain rfl := Option.some.inj ho
      obtain ⟨v73, h73, s73⟩ := hF.dep 2 73 rfl rfl
      replace s73 : OwnL n0 u v73 (List.replicate m 0) ∧ SpareV m u v73 := s73
      obtain ⟨v75, h75, s75⟩ := hF.dep 4 75 rfl rfl
      obtain rfl : v75 = .slice y1 k1 c1 := s75
      obtain ⟨v', w', hrun, ho, hr⟩ := append_z 22 s73.1 s73.2 (HU.out u hbu).2.2.1 HM.out.2.1.1 HM.out.1 HM.out.2.1.2 (HU.out u hbu).2.2.2.2.2
      rw [HZ.out.1] at ho
      refine freeX_stepZ rfl rfl (by rfl) (fun K' hK => ?_)
      refine wp_append (.tmp 73) (.tmp 75) rfl (eval_tmp h73) (eval_tmp h75) hrun ?_
      exact hK.out _ _ ho hr
    | 6, ho, _, hF =>
      obtain rfl := Option.some.inj ho
      refine freeX_step rfl rfl (by rfl) (fun K' hK => ?_)
      go_simp
      exact hK.out _ _ ⟨_, rfl, (HU.out u hbu).2.2.2.2.2, heap_push_at u _⟩ (alB u _)
    | 7, ho, _, hF =>
      obtain rfl := Option.some.inj ho
      have h11 : a.tmps[11]? = some (.slice (some ⟨gz, 0, none⟩) m m) := (hF.out 11 rfl).trans rfl
      refine freeX_step rfl rfl (by rfl) (fun K' hK => ?_)
      go_simp
      exact hK.out _ _ rfl (Below.refl _ _)
    | 8, ho, _, hF =>
      obtain rfl := Option.some.inj ho
      obtain ⟨v77, h77, s77⟩ := hF.dep 6 77 rfl rfl
      replace s77 : EmptyZ n0 u v77 := s77
      obtain ⟨v78, h78, s78⟩ := hF.dep 7 78 rfl rfl
      obtain rfl : v78 = .slice (some ⟨gz, 0, none⟩) m m := s78
      obtain ⟨v', w', hrun, ho, hs, hb⟩ := append_e 22 s77 (HU.out u hbu).2.1 HM.out.1 (HU.out u hbu).2.2.2.2.2
      refine freeX_step rfl rfl (by rfl) (fun K' hK => ?_)
      refine wp_append (.tmp 77) (.tmp 78) rfl (eval_tmp h77) (eval_tmp h78) hrun ?_
      exact hK.out _ _ ⟨ho, hs⟩ hb
    | 9, ho, _, hF =>
      obtain rfl := Option.some.inj ho
      have h7 : a.tmps[7]? = some (.pointer (some ⟨qk, 0, none⟩)) := (hF.out 7 rfl).trans rfl
      refine freeX_step rfl rfl (by rfl) (fun K' hK => ?_)
      go_simp
      exact hK.out _ _ rfl (Below.refl _ _)
    | 10, ho, _, hF =>
      obtain rfl := Option.some.inj ho
      obtain ⟨v80, h80, s80⟩ := hF.dep 9 80 rfl rfl
      obtain rfl : v80 = .pointer (some ⟨qk, 1, none⟩) := s80
      have g0 := (HU.out u hbu).1.2.1
      refine freeX_step rfl rfl (by rfl) (fun K' hK => ?_)
      go_simp
      exact hK.out _ _ rfl (Below.refl _ _)
    | 11, ho, _, hF =>
      obtain rfl := Option.some.inj ho
      obtain ⟨v79, h79, s79⟩ := hF.dep 8 79 rfl rfl
      replace s79 : OwnL n0 u v79 (List.replicate m 0) ∧ SpareV m u v79 := s79
      obtain ⟨v81, h81, s81⟩ := hF.dep 10 81 rfl rfl
      obtain rfl : v81 = .slice y2 k2 c2 := s81
      obtain ⟨v', w', hrun, ho, hr⟩ := append_z 22 s79.1 s79.2 (HU.out u hbu).2.2.2.1 HM.out.2.2.1.1 HM.out.1 HM.out.2.2.1.2 (HU.out u hbu).2.2.2.2.2
      rw [HZ.out.2.1] at ho
      refine freeX_stepZ rfl rfl (by rfl) (fun K' hK => ?_)
      refine wp_append (.tmp 79) (.tmp 81) rfl (eval_tmp h79) (eval_tmp h81) hrun ?_
      exact hK.out _ _ ho hr
    | 12, ho, _, hF =>
      obtain rfl := Option.some.inj ho
      refine freeX_step rfl rfl (by rfl) (fun K' hK => ?_)
      go_simp
      exact hK.out _ _ ⟨_, rfl, (HU.out u hbu).2.2.2.2.2, heap_push_at u _⟩ (alB u _)
    | 13, ho, _, hF =>
      obtain rfl := Option.some.inj ho
      have h11 : a.tmps[11]? = some (.slice (some ⟨gz, 0, none⟩) m m) := (hF.out 11 rfl).trans rfl
      refine freeX_step rfl rfl (by rfl) (fun K' hK => ?_)
      go_simp
      exact hK.out _ _ rfl (Below.refl _ _)
    | 14, ho, _, hF =>
      obtain rfl := Option.some.inj ho
      obtain ⟨v83, h83, s83⟩ := hF.dep 12 83 rfl rfl
      replace s83 : EmptyZ n0 u v83 := s83
      obtain ⟨v84, h84, s84⟩ := hF.dep 13 84 rfl rfl
      obtain rfl : v84 = .slice (some ⟨gz, 0, none⟩) m m := s84
      obtain ⟨v', w', hrun, ho, hs, hb⟩ := append_e 22 s83 (HU.out u hbu).2.1 HM.out.1 (HU.out u hbu).2.2.2.2.2
      refine freeX_step rfl rfl (by rfl) (fun K' hK => ?_)
      refine wp_append (.tmp 83) (.tmp 84) rfl (eval_tmp h83) (eval_tmp h84) hrun ?_
      exact hK.out _ _ ⟨ho, hs⟩ hb
    | 15, ho, _, hF =>
      obtain rfl := Option.some.inj ho
      have h7 : a.tmps[7]? = some (.pointer (some ⟨qk, 0, none⟩)) := (hF.out 7 rfl).trans rfl
      refine freeX_step rfl rfl (by rfl) (fun K' hK => ?_)
      go_simp
      exact hK.out _ _ rfl (Below.refl _ _)
    | 16, ho, _, hF =>
      obtain rfl := Option.some.inj ho
      obtain ⟨v86, h86, s86⟩ := hF.dep 15 86 rfl rfl
      obtain rfl : v86 = .pointer (some ⟨qk, 2, none⟩) := s86
      have g0 := (HU.out u hbu).1.2.2
      refine freeX_step rfl rfl (by rfl) (fun K' hK => ?_)
      go_simp
      exact hK.out _ _ rfl (Below.refl _ _)
    | 17, ho, _, hF =>
      obtain rfl := Option.some.inj ho
      obtain ⟨v85, h85, s85⟩ := hF.dep 14 85 rfl rfl
      replace s85 : OwnL n0 u v85 (List.replicate m 0) ∧ SpareV m u v85 := s85
      obtain ⟨v87, h87, s87⟩ := hF.dep 16 87 rfl rfl
      obtain rfl : v87 = .slice y3 k3 c3 := s87
      obtain ⟨v', w', hrun, ho, hr⟩ := append_z 22 s85.1 s85.2 (HU.out u hbu).2.2.2.2.1 HM.out.2.2.2.1.1 HM.out.1 HM.out.2.2.2.1.2 (HU.out u hbu).2.2.2.2.2
      rw [HZ.out.2.2] at ho
      refine freeX_stepZ rfl rfl (by rfl) (fun K' hK => ?_)
      refine wp_append (.tmp 85) (.tmp 87) rfl (eval_tmp h85) (eval_tmp h87) hrun ?_
      exact hK.out _ _ ho hr
    | 18, ho, _, hF =>
      obtain rfl := Option.some.inj ho
      obtain ⟨v76, h76, s76⟩ := hF.dep 5 76 rfl rfl
      replace s76 : OwnL n0 u v76 ZR := s76
      obtain ⟨v82, h82, s82⟩ := hF.dep 11 82 rfl rfl
      replace s82 : OwnL n0 u v82 ZE := s82
      obtain ⟨v88, h88, s88⟩ := hF.dep 17 88 rfl rfl
      replace s88 : OwnL n0 u v88 ZD := s88
      obtain ⟨ya, ca, rfl⟩ := own_len s76 HL3.out.1
      obtain ⟨ye, ce, rfl⟩ := own_len s82 HL3.out.2.1
      obtain ⟨yd, cd, rfl⟩ := own_len s88 HL3.out.2.2
      refine freeX_step rfl rfl (by rfl) (fun K' hK => ?_)
      go_simp
      exact hK.out _ _ ⟨_, _, _, rfl, s76, s82, s88⟩ (Below.refl _ _)
    | 19, ho, _, hF =>
      obtain rfl := Option.some.inj ho
      refine freeX_step rfl rfl (by rfl) (fun K' hK => ?_)
      go_simp
      exact hK.out _ _ ⟨_, rfl, (HU.out u hbu).2.2.2.2.2, heap_push_at u _⟩ (alB u _)
    | 20, _, hL, _ => exact absurd hL (by decide)
    | n + 21, ho, _, _ => exact absurd (Array.getElem?_eq_some_iff.1 ho).1 (by show ¬ n + 21 < 21; omega)
  · intro vs u mm hm hS hbu
    have s18 := hS 18 89 rfl rfl
    have s19 := hS 19 12 rfl rfl
    simp only [putFrom, Act.put, List.setIfInBounds_toArray, List.set_cons_succ, List.set_cons_zero, Nat.reduceAdd]
    clear hS
    generalize vs 0 = z0
    generalize vs 1 = z1
    generalize vs 2 = z2
    generalize vs 3 = z3
    generalize vs 4 = z4
    generalize vs 5 = z5
    generalize vs 6 = z6
    generalize vs 7 = z7
    generalize vs 8 = z8
    generalize vs 9 = z9
    generalize vs 10 = z10
    generalize vs 11 = z11
    generalize vs 12 = z12
    generalize vs 13 = z13
    generalize vs 14 = z14
    generalize vs 15 = z15
    generalize vs 16 = z16
    generalize vs 17 = z17
    generalize vs 18 = z18 at *
    generalize vs 19 = z19 at *
    obtain ⟨mm, rfl⟩ : ∃ k, mm = k + 1 := ⟨mm - 1, by have h2 : 1 ≤ mm := hm; omega⟩
    obtain ⟨va, vb, vc, rfl, oa, oe, od⟩ := s18
    obtain ⟨r, rfl, hr1, hB⟩ := s19
    obtain ⟨xa, ka, da, rfl⟩ := isb_open oa.is
    obtain ⟨xe, ke, de, rfl⟩ := isb_open oe.is
    obtain ⟨xd, kd, dd, rfl⟩ := isb_open od.is
    have f0 := block_free 0 hB
    have f1 := block_free 1 hB
    have f2 := block_free 2 hB
    have g0 := block_cell (v := .slice none 0 0) 0 hB rfl
    have g1 := block_cell (v := .slice none 0 0) 1 hB rfl
    have g2 := block_cell (v := .slice none 0 0) 2 hB rfl
    have HE := show Hid (_ ∧ _) from key_stored (.slice xa ka da) (.slice xe ke de) (.slice xd kd dd) hB
    have HX := show Hid (BoxN u r ∧ n0 ≤ r ∧ OwnL n0 u (.slice xa ka da) ZR ∧ OwnL n0 u (.slice xe ke de) ZE ∧ OwnL n0 u (.slice xd kd dd) ZD) from ⟨boxN_nil hB, hr1, oa, oe, od⟩
    clear hB oa oe od hr1
    refine any_op 20 (by kernel_rfl) rfl (by rfl) (fun K' hK => ?_)
    go_simp
    refine hK.out _ _ (any_end (by kernel_rfl) ?_ _)
    clear hK
    generalize hW5 : (((u.setCell ⟨r, 0, none⟩ (.slice xa ka da)).setCell ⟨r, 1, none⟩ (.slice xe ke de)).setCell ⟨r, 2, none⟩ (.slice xd kd dd)) = W5 at *
    obtain ⟨hb5, hk5⟩ := HE.out
    obtain ⟨hbx0, hr1, oa, oe, od⟩ := HX.out
    have hbx : ∀ p ∈ [r], BoxN u p := fun p hp => by rw [List.mem_singleton.1 hp]; exact hbx0
    clear f0 f1 f2 g0 g1 g2 HE HX hW5
    have HB5 := show Hid (Below n0 W8 W5 ∧ W5.heap[r]? = some (.cells #[.slice xa ka da, .slice xe ke de, .slice xd kd dd] 25 (0, 0)) ∧ IsBytes W5 (.slice xa ka da) ⟨ZR.toArray⟩ ∧ IsBytes W5 (.slice xe ke de) ⟨ZE.toArray⟩ ∧ IsBytes W5 (.slice xd kd dd) ⟨ZD.toArray⟩) from ⟨(show Below n0 W8 u from by have h9 := (Below.refl W8.heap.size W8).drew; rw [HN0.out] at h9; exact h9.trans hbu).trans (hk5.below (HU.out u hbu).2.2.2.2.2 (fun p hp => by rw [List.mem_singleton.1 hp]; exact hr1)), hb5, oa.is.keptN hk5 hbx, oe.is.keptN hk5 hbx, od.is.keptN hk5 hbx⟩
    clear hk5 hb5 hbx oa oe od hbu HU hr1 hbx0
    have HW := show Hid (∀ u, Below W5.heap.size W5 u → (u.cell? ⟨r, 0, none⟩ = some (.slice xa ka da) ∧ u.cell? ⟨r, 1, none⟩ = some (.slice xe ke de) ∧ u.cell? ⟨r, 2, none⟩ = some (.slice xd kd dd)) ∧ (u.cell? ⟨qk, 0, none⟩ = some (.slice y1 k1 c1) ∧ u.cell? ⟨qk, 1, none⟩ = some (.slice y2 k2 c2) ∧ u.cell? ⟨qk, 2, none⟩ = some (.slice y3 k3 c3)) ∧
        Calls Tryz.prog 9 #[.agg #[.slice xa ka da, .slice xe ke de, .slice xd kd dd], .slice yb kb cb] u (fun e w' => (∃ x, e = .returned (.tuple #[x, .int .i64 0]) ∧ IsBytes w' x ⟨S.toArray⟩) ∧ Below u.heap.size u w') ∧
        Calls Tryz.prog 11 #[.agg #[.slice y1 k1 c1, .slice y2 k2 c2, .slice y3 k3 c3]] u (fun e w' => (∃ v, e = .returned v ∧ qPbK w' v R [1, 0, 1]) ∧ Below u.heap.size u w') ∧
        (∀ ya ka ca ye ke ce, IsBytes u (.slice ya ka ca) ⟨R.toArray⟩ → IsBytes u (.slice ye ke ce) ⟨([1, 0, 1] : List UInt8).toArray⟩ → Calls Tryz.prog 9 #[.agg #[.slice ya ka ca, .slice ye ke ce, .slice none 0 0], .slice yb kb cb] u fun e w' => e = .returned (.tuple #[.slice none 0 0, .int .i64 2]) ∧ Below u.heap.size u w') ∧
        Calls Tryz.prog 10 #[.agg #[.slice xa ka da, .slice xe ke de, .slice xd kd dd], .slice yb kb cb, .slice y4 k1 c4] u (fun e w' => e = .returned (.int .i64 0) ∧ Below u.heap.size u w') ∧ Below W8.heap.size W8 u) from fun u hu => by
      have h8 : Below W8.heap.size W8 u := bl2 (by have := HB5.out.1; rwa [← HN0.out] at this) hu
      obtain ⟨fk, hku, hbb, hkt, i4, _⟩ := HF.out u (bl2 HW8.out h8)
      have hr5 := (hu.block r (block_lt HB5.out.2.1)).trans HB5.out.2.1
      have ia := HB5.out.2.2.1.later hu
      have ie := HB5.out.2.2.2.1.later hu
      have id' := HB5.out.2.2.2.2.later hu
      obtain ⟨e1, e2, e3⟩ := HZ.out
      have l1 := hku.len
      have l2 := hku.lenD
      have l3 := hku.size
      have l4 := HL3.out
      have l5 := HL.out
      have lm := HM.out.1
      have nz1 := HLZ.out
      have l7 := HS.out.2
      have hr' := hku.right
      refine ⟨⟨block_cell 0 hr5 rfl, block_cell 1 hr5 rfl, block_cell 2 hr5 rfl⟩, fk, ?_, qPublic_any _ _ _ R [1, 0, 1] D u hku.at1 hku.at2 hku.at3 (by omega) (by decide) (by omega), fun ya ka ca ye ke ce p1 p2 => ?_, ?_, h8⟩
      · refine (qSign_any _ _ _ _ ZR ZE ZD b u ia ie id' hbb hkt (by omega) (by omega) (by omega) (by omega)).mono ?_
        rintro e w' ⟨hs, hw⟩
        rw [← e1, ← e2, ← e3] at hs
        refine ⟨?_, hw⟩
        rcases hs with ⟨_, _, _, x, he, hx⟩ | ⟨_, _, ho, _⟩ | ⟨ho, _⟩
        · rw [pow_z, bare_z, hku.bare, hku.len, HS.out.1] at hx
          exact ⟨x, he, hx⟩
        · rw [pow_z, bare_z, numB_zeros, numB_zeros, hku.bare, hku.len] at ho
          exact absurd (hku.back b) ho
        · rw [right_z, numB_zeros] at ho
          exact absurd ⟨hr', hku.priv⟩ ho
      · refine (qSign_any _ _ (.slice none 0 0) _ R [1, 0, 1] [] b u p1 p2 (isb_none u) hbb hkt (by omega) (by decide) (by decide) (by omega)).mono ?_
        rintro e w' ⟨hs, hw⟩
        refine ⟨?_, hw⟩
        rcases hs with ⟨_, h0, _⟩ | ⟨_, h0, _⟩ | ⟨_, he⟩
        · exact absurd rfl h0
        · exact absurd rfl h0
        · exact he
      · have h := qVerify_any _ _ _ _ _ ZR ZE ZD b S u ia ie id' hbb i4 hkt (by omega) (by omega) (by omega) (by omega) (by omega)
        rw [← e1, ← e2, ← e3, ver_z, ← HS.out.1, key_ver hku D b hr'] at h
        exact h
    obtain ⟨⟨p0, p1, p2⟩, ⟨g0, g1, g2⟩, hSg2, _⟩ := HW.out W5 (Below.refl _ _)
    (try simp only [Exit.then])
    go_wp2_with fail
    refine hSg2.mono ?_
    rintro e w9 ⟨⟨x9, rfl, i9⟩, b9⟩
    obtain ⟨y9, k9, c9, rfl⟩ := isb_open i9
    clear hSg2 p0 p1 p2 g0 g1 g2
    obtain ⟨_, ⟨g0, g1, g2⟩, _, hPb2, _⟩ := HW.out w9 b9
    have H9 := show Hid (IsBytes w9 (.slice y9 k9 c9) ⟨S.toArray⟩ ∧ Below W5.heap.size W5 w9) from ⟨i9, b9⟩
    clear i9 b9
    go_wp2_with fail
    refine hPb2.mono ?_
    rintro e w10 ⟨⟨v10, rfl, ya, ka', ca, ye, ke', ce, rfl, ja, je⟩, b10⟩
    clear hPb2 g0 g1 g2
    have hSn := (HW.out w10 (bl2 H9.out.2 b10)).2.2.2.2.1 ya ka' ca ye ke' ce ja je
    have H10 := show Hid (IsBytes w10 (.slice y9 k9 c9) ⟨S.toArray⟩ ∧ Below W5.heap.size W5 w10) from ⟨H9.out.1.later b10, bl2 H9.out.2 b10⟩
    clear ja je b10
    go_wp2_with fail
    refine hSn.mono ?_
    rintro e w11 ⟨rfl, b11⟩
    clear hSn
    have h11 := bl2 H10.out.2 b11
    obtain ⟨⟨p0, p1, p2⟩, _, _, _, _, hVf2, h8⟩ := HW.out w11 h11
    have cv1 := (H10.out.1.later b11).convert
    have cv2 := (HF.out w11 (bl2 HW8.out h8)).2.2.2.2.1.convert
    rw [HSS.out.1] at cv1 cv2
    have tS := HSS.out.2
    have H11 := show Hid (Below W5.heap.size W5 w11) from h11
    clear b11 h11 h8
    go_wp2_with fail
    refine hVf2.mono ?_
    rintro e w12 ⟨rfl, b12⟩
    have HFin := show Hid (Below w.heap.size w w12) from (HF.out w12 (bl2 HW8.out (HW.out w12 (bl2 H11.out b12)).2.2.2.2.2.2)).2.2.2.2.2
    clear hVf2 p0 p1 p2 cv1 cv2 tS b12
    go_wp2_with fail
    go_ret
    exact ⟨rfl, HFin.out⟩
theorem isb_selfS {w : World} {v : Value} {s : ByteArray} (h : IsBytes w v s) : IsBytes w v ⟨s.data.toList.toArray⟩ := by
  have e : (⟨s.data.toList.toArray⟩ : ByteArray) = s := by cases s; simp
  rw [e]
  exact h
theorem lqSignsB (i noughts : Int) (v0 : Value) (s : ByteArray) (w : World) (h0 : IsBytes w v0 s) (hK : KTab w) :
    Calls Tryz.prog 3 #[.int .i64 i, v0, .int .i64 noughts] w fun e w' => e = .returned (.bool true) ∧ Below w.heap.size w w' :=
  lqSigns_any i noughts v0 _ w (isb_selfS h0) hK
end Go.Proofs.YtpcmpeeflnlkpaaGreatDoor
