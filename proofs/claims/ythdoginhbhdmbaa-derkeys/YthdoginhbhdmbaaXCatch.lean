/-
  Package der: reading.
-/
import Derived.Test.YthdoginhbhdmbaaXPcs2
import Derived.Recover
import Derived.Defers
import Derived.BigRegion
namespace Go.Proofs.Ythdoginhbhdmbaa
open Go.RowKit Ch
set_option maxRecDepth 100000

theorem assert_errno (k : Int) (w : World) : (Instr.typeAssert (.iface 28 (.int .i64 k)) 20 28 false).run Try.prog w = .ok (.int .i64 k) w := by kernel_rfl
set_option maxHeartbeats 2000000 in
theorem catch_panic (p k : Nat) (u0 : Value) (w : World) (h0 : w.cell? ⟨p, 0, none⟩ = some u0) (f0 : w.frozen? ⟨p, 0, none⟩ = false) :
    CallsD Try.prog 45 #[.pointer (some ⟨p, 0, none⟩)] (.panicking (PE k)) w fun e u' w' => e = .returned (.tuple #[]) ∧ u' = .panicking [{ v := .iface 28 (.int .i64 (k : Int)), recovered := true }] ∧ w' = w.setCell ⟨p, 0, none⟩ (.int .i64 (k : Int)) := by
  unfold PE
  have hta := fun wx => assert_errno (k : Int) wx
  refine callsD_of_wpS Try.func45 rfl fun c₀ cs hu => ?_
  apply wpS_seq
  apply wpS_region
  simp [wpOpsS, go_sem, recoverD, hu, Try.ntmps45, Exit.thenS]
  refine wpS_of_wp ?_
  change Code.wp _ _ _ { tmps := #[.pointer (some ⟨p, 0, none⟩), .iface 28 (.int .i64 (k : Int)), .iface 28 (.int .i64 (k : Int)), undef, undef, undef, undef], defers := [] } w
  go_wp2
  simp [bodyPostS, results, Try.results45]
set_option maxHeartbeats 2000000 in
theorem catch_idle (p : Nat) (w : World) :
    CallsD Try.prog 45 #[.pointer (some ⟨p, 0, none⟩)] .returning w fun e u' w' => e = .returned (.tuple #[]) ∧ u' = .returning ∧ w' = w := by
  refine callsD_of_wpS Try.func45 rfl fun c₀ cs hu => ?_
  apply wpS_seq
  apply wpS_region
  simp [wpOpsS, go_sem, recoverD, hu, Try.ntmps45, Exit.thenS]
  refine wpS_of_wp ?_
  change Code.wp _ _ _ { tmps := #[.pointer (some ⟨p, 0, none⟩), .nilIface, .nilIface, undef, undef, undef, undef], defers := [] } w
  go_wp2
  cases c₀
  simp_all [bodyPostS, results, Try.results45]
theorem keptX_drew {ps : List Nat} {w u : World} (h : KeptX ps w u) : KeptX ps w u.drew := h.trans (KeptX.of (Below.refl _ _).drew)
/-- A reading's box for its error. -/
def errBox (w : World) : World := w.alloc (.cells #[.int .i64 0] 28)
set_option maxHeartbeats 4000000 in
theorem xReading_any (g : Nat) (caps : Array Value) (w : World) (ok : World → Prop) (bad : Nat → World → Prop) (eg : ∀ args w, (callFunc g args).run Try.prog w = .ok (.enter g args) w)
    (hc : Calls Try.prog g caps (errBox w) fun e w' => (e = .returned (.tuple #[]) ∧ ok w') ∨ ∃ k, e = .panicked (PE k) ∧ bad k w')
    (hok : ∀ u, ok u → u.heap[w.heap.size]? = some (.cells #[.int .i64 0] 28 (0, 0))) (hbad : ∀ k u, bad k u → u.heap[w.heap.size]? = some (.cells #[.int .i64 0] 28 (0, 0))) :
    Calls Try.prog 22 #[.func (.func g) #[] caps] w fun e w' => (e = .returned (.int .i64 0) ∧ ∃ u, ok u ∧ KeptX [w.heap.size] u w') ∨ ∃ k : Nat, e = .returned (.int .i64 (k : Int)) ∧ ∃ u, bad k u ∧ KeptX [w.heap.size] u w' := by
  have hmf : ∀ (fn : Fn) (first cap : Array Value) (w : World), (Instr.makeFunc fn first cap).run Try.prog w = .ok (.func fn first cap) w := fun _ _ _ _ => rfl
  unfold errBox at hc
  go_enter_defers Try.func22, Try.ntmps22
  go_wp2_with fail
  refine hc.mono ?_
  rintro e u (⟨rfl, ho⟩ | ⟨k, rfl, hb⟩)
  · have hB := hok u ho
    have g0 := block_cell (v := .int .i64 0) 0 hB rfl
    have r0 := block_free 0 hB
    have hK := keptX_set (ps := [w.heap.size]) (p := w.heap.size) (v := .int .i64 0) u (by simp)
    have hB1 := setCell_block (i := 0) (u := .int .i64 0) hB
    have HF := show Hid (ok u ∧ KeptX [w.heap.size] u (u.setCell ⟨w.heap.size, 0, none⟩ (.int .i64 0)) ∧ (u.setCell ⟨w.heap.size, 0, none⟩ (.int .i64 0)).cell? ⟨w.heap.size, 0, none⟩ = some (.int .i64 0)) from ⟨ho, hK, block_cell (v := .int .i64 0) 0 hB1 rfl⟩
    clear hc ho hB hK hB1 hok hbad
    go_wp2_with fail
    refine leaves_cons (f := 45) (args := #[.pointer (some ⟨w.heap.size, 0, none⟩)]) (by simp) (by simp [go_sem]) ?_
    refine (catch_idle w.heap.size _).mono ?_
    rintro e u' w'' ⟨rfl, rfl, hw''⟩
    rw [hw'']
    clear hw'' w''
    have q0 := HF.out.2.2
    simp [Leaves, settle, results, Try.results22, go_sem, q0]
    first | exact ⟨u, HF.out.1, keptX_drew HF.out.2.1⟩ | exact ⟨u, HF.out.1, HF.out.2.1⟩ | exact .inl ⟨u, HF.out.1, keptX_drew HF.out.2.1⟩ | exact .inl ⟨u, HF.out.1, HF.out.2.1⟩
  · have hB := hbad k u hb
    have g0 := block_cell (v := .int .i64 0) 0 hB rfl
    have r0 := block_free 0 hB
    have hK := keptX_set (ps := [w.heap.size]) (p := w.heap.size) (v := .int .i64 (k : Int)) u (by simp)
    have hB1 := setCell_block (i := 0) (u := .int .i64 (k : Int)) hB
    have HF := show Hid (bad k u ∧ KeptX [w.heap.size] u (u.setCell ⟨w.heap.size, 0, none⟩ (.int .i64 (k : Int))) ∧ (u.setCell ⟨w.heap.size, 0, none⟩ (.int .i64 (k : Int))).cell? ⟨w.heap.size, 0, none⟩ = some (.int .i64 (k : Int))) from ⟨hb, hK, block_cell (v := .int .i64 (k : Int)) 0 hB1 rfl⟩
    clear hc hb hB hK hB1 hok hbad
    refine leaves_cons (f := 45) (args := #[.pointer (some ⟨w.heap.size, 0, none⟩)]) (by simp) (by simp [go_sem]) ?_
    refine (catch_panic w.heap.size k _ u g0 r0).mono ?_
    rintro e u' w'' ⟨rfl, rfl, hw''⟩
    rw [hw'']
    clear hw'' w''
    have q0 := HF.out.2.2
    simp [Leaves, settle, results, Try.results22, go_sem, q0]
    exact .inr ⟨k, rfl, u, HF.out.1, HF.out.2.1⟩
end Go.Proofs.Ythdoginhbhdmbaa
