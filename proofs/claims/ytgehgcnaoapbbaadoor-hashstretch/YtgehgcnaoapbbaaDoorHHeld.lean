/-
  A region that draws its order, with loads of a cell that its own last operation writes: S is shown behind every operation but that one, which waits for the loads. Of no layer alone.
-/
import Derived.Test.YtgehgcnaoapbbaaDoorGen2
import Derived.OrdersHeld
import Derived.StillTail
import Derived.Deep.RegionWith
namespace Go.Proofs.YtgehgcnaoapbbaaDoor
open Go.RowKit
set_option maxRecDepth 100000

section
variable {P : Program} {ops : Array Oper} {Q : Exit → Act → World → Prop} {md : Region.Mode} {S : World → Prop} {z : Nat}
/-- Whatever order is picked, and S behind every operation but z. -/
def Until (P : Program) (md : Region.Mode) (ops : Array Oper) (Q : Exit → Act → World → Prop) (S : World → Prop) (z : Nat) : Nat → Array Bool → Act → World → Prop
  | 0, listed, a, w => Region.ready md ops listed = [] ∧ Q .normal a w
  | n + 1, listed, a, w => (Region.ready md ops listed = [] → Q .normal a w) ∧ ∀ j ∈ Region.ready md ops listed, wpOp P ops Q j (fun b u => (j ≠ z → S u) ∧ Until P md ops Q S z n (listed.setIfInBounds j true) b u) a w
theorem until_any : ∀ (n : Nat) (listed : Array Bool) (a : Act) (w : World), Until P md ops Q S z n listed a w → wpAny P md ops Q n listed a w := by
  intro n
  induction n with
  | zero => exact fun _ _ _ h => h
  | succ n ih => exact fun _ _ _ h => ⟨h.1, fun j hj => wpOp_mono (fun b u k => ih _ b u k.2) (h.2 j hj)⟩
theorem until_region {id : Nat} {a : Act} {w : World} (hm : P.follows .mixedOrders = true) (hS : S w.drew) (h : S w.drew → Until P .any ops Q S z ops.size (Array.replicate ops.size false) a w.drew) : (Code.region id ops true).wp P Q a w :=
  wp_region_any hm (until_any _ _ _ _ (h hS))
theorem until_first {i : Nat} {oi : Oper} {v : Value} (hi : ops[i]? = some oi) (hsel : ∀ (j : Nat) (o : Oper) cs b, ops[j]? = some o → o.op ≠ .select cs b)
    (hQ : ∀ c a w, Q (.panic c) (a.put oi.dst v) w → Q (.panic c) a w) (hz : Region.waitsFor md ops z i = true) :
    ∀ (n : Nat) (listed : Array Bool) (a : Act) (w : World),
      (∀ j oj, ops[j]? = some oj → j ≠ i → listed.getD j true = false → (∀ e ∈ oj.after, Region.binds md e = true → e.on ≠ i) → oi.apart ops oj = true) →
      i ∈ Region.ready md ops listed → YieldsIf P ops S oi v a → S w → Until P md ops Q S z n (listed.setIfInBounds i true) (a.put oi.dst v) w → Until P md ops Q S z (n + 1) listed a w := by
  obtain ⟨oz, hoz, e0, he0, hb0, hon⟩ := Region.waitsFor_spec hz
  intro n
  induction n with
  | zero =>
    intro listed a w _ hr hy hS H
    constructor
    · intro h0; rw [h0] at hr; cases hr
    · intro j hj
      rcases Nat.decEq j i with hne | heq
      · have := ready_mono hj hne
        rw [H.1] at this
        cases this
      · rw [heq]
        exact hy.wpOp hi hS ⟨fun _ => hS, H⟩
  | succ n ih =>
    intro listed a w hfree hr hy hS H
    constructor
    · intro h0; rw [h0] at hr; cases hr
    · intro j hj
      rcases Nat.decEq j i with hne | heq
      · obtain ⟨hjun, oj, hoj, hall⟩ := mem_ready.1 hj
        have hnot : ∀ e ∈ oj.after, Region.binds md e = true → e.on ≠ i := by
          intro e he hb hei
          have k1 := hall e he hb
          have k0 := (mem_ready.1 hr).1
          rw [hei] at k1
          rcases Nat.lt_or_ge i listed.size with hs | hs
          · simp [hs] at k0 k1
            rw [k0] at k1
            cases k1
          · simp [Array.getElem?_eq_none hs] at k1
        have hjz : j ≠ z := by
          intro e
          rw [e, hoz] at hoj
          cases hoj
          exact hnot e0 he0 hb0 hon
        have k2 := wpOp_putIf hoj (hfree j oj hoj hne hjun hnot) (fun cs b => hsel i oi cs b hi) (fun cs b => hsel j oj cs b hoj) hQ hy (H.2 j (ready_mono hj hne))
        refine wpOp_mono (fun b u k3 => ⟨fun _ => k3.2.1 hjz, ih _ b u ?_ (ready_mono hr (Ne.symm hne)) k3.1 (k3.2.1 hjz) ?_⟩) k2
        · intro k ok hk hki hun hno
          refine hfree k ok hk hki ?_ hno
          rcases Nat.decEq j k with hjk | hjk
          · rw [getD_set_ne true hjk] at hun
            exact hun
          · rw [← hjk]
            exact hjun
        · rw [Array.setIfInBounds_comm _ _ hne]
          exact k3.2.2
      · rw [heq]
        exact hy.wpOp hi hS ⟨fun _ => hS, H⟩
theorem until_take {i : Nat} {oi : Oper} {v : Value} {n : Nat} {listed : Array Bool} {a : Act} {w : World} (hi : ops[i]? = some oi) (hs : Region.noSelect ops = true) (hf : Region.free md ops listed i = true) (hr : (Region.ready md ops listed).contains i = true) (hz : Region.waitsFor md ops z i = true)
    (hQ : ∀ c a w, Q (.panic c) (a.put oi.dst v) w → Q (.panic c) a w) (hy : YieldsIf P ops S oi v a) (hS : S w) (h : Until P md ops Q S z n (listed.setIfInBounds i true) (a.put oi.dst v) w) : Until P md ops Q S z (n + 1) listed a w :=
  until_first hi (Region.noSelect_spec hs) hQ hz n listed a w (Region.free_spec hi hf) (by simpa using hr) hy hS h
/-- One alone may come up. -/
theorem until_one {i : Nat} {oi : Oper} {n : Nat} {listed : Array Bool} {a : Act} {w : World} (hi : ops[i]? = some oi) (hr : Region.ready md ops listed = [i]) (h : ∀ K' : Act → World → Prop, Hid (∀ b u, (i ≠ z → S u) → ((i ≠ z → S u) → Until P md ops Q S z n (listed.setIfInBounds i true) b u) → K' b u) → if Region.wanted oi (yielded ops a.tmps) = true then Oper.wp P oi a w K' Q else K' (a.put oi.dst undef) w) : Until P md ops Q S z (n + 1) listed a w := by
  constructor
  · intro h0; rw [h0] at hr; cases hr
  · intro j hj
    rw [hr] at hj
    obtain rfl := List.mem_singleton.1 hj
    exact wpOp_step hi (fun K' hK => h K' (fun b u hS hU => hK b u ⟨hS, hU hS⟩))
theorem until_done {listed : Array Bool} {a : Act} {w : World} (hr : Region.ready md ops listed = []) (h : Q .normal a w) : ∀ n, Until P md ops Q S z n listed a w := by
  intro n
  cases n with
  | zero => exact ⟨hr, h⟩
  | succ n => exact ⟨fun _ => h, by rw [hr]; simp⟩
end
end Go.Proofs.YtgehgcnaoapbbaaDoor
