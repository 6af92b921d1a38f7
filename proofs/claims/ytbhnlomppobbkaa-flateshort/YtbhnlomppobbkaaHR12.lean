/-
  The program's Inflate: what catches its panics.
-/
import Derived.Test.YtbhnlomppobbkaaHR11
import Derived.Recover
import Derived.Defers
import Derived.BigRegion
namespace Go.Proofs.Ytbhnlomppobbkaa
open Go.RowKit Ch
set_option maxRecDepth 100000

theorem assert_errno (k : Int) (w : World) : (Instr.typeAssert (.iface 24 (.int .i64 k)) 20 24 false).run Try.prog w = .ok (.int .i64 k) w := by kernel_rfl
set_option maxHeartbeats 2000000 in
theorem catch_panic (pt pk pe : Nat) (k : Nat) (u0 u1 u2 : Value) (w : World) (h0 : w.cell? ⟨pt, 0, none⟩ = some u0) (h1 : w.cell? ⟨pk, 0, none⟩ = some u1) (h2 : w.cell? ⟨pe, 0, none⟩ = some u2) (f0 : w.frozen? ⟨pt, 0, none⟩ = false) (f1 : w.frozen? ⟨pk, 0, none⟩ = false) (f2 : w.frozen? ⟨pe, 0, none⟩ = false) (n1 : pt ≠ pk) (n2 : pt ≠ pe) (n3 : pk ≠ pe) :
    CallsD Try.prog 30 #[.pointer (some ⟨pt, 0, none⟩), .pointer (some ⟨pk, 0, none⟩), .pointer (some ⟨pe, 0, none⟩)] (.panicking (PE k)) w fun e u' w' => e = .returned (.tuple #[]) ∧ u' = .panicking [{ v := .iface 24 (.int .i64 (k : Int)), recovered := true }] ∧ w' = ((((w.setCell ⟨pt, 0, none⟩ (.slice none 0 0)).setCell ⟨pk, 0, none⟩ (.int .i64 0)).setCell ⟨pe, 0, none⟩ (.int .i64 (k : Int)))).drew := by
  unfold PE
  have hta := fun wx => assert_errno (k : Int) wx
  refine callsD_of_wpS Try.func30 rfl fun c₀ cs hu => ?_
  apply wpS_seq
  apply wpS_region
  simp [wpOpsS, go_sem, recoverD, hu, Try.ntmps30, Exit.thenS]
  refine wpS_of_wp ?_
  change Code.wp _ _ _ { tmps := #[.pointer (some ⟨pt, 0, none⟩), .pointer (some ⟨pk, 0, none⟩), .pointer (some ⟨pe, 0, none⟩), .iface 24 (.int .i64 (k : Int)), .iface 24 (.int .i64 (k : Int)), undef, undef, undef, undef], defers := [] } w
  go_wp2
  go_region
  all_goals
    go_wp2
    simp [bodyPostS, results, Try.results30]
set_option maxHeartbeats 2000000 in
theorem catch_idle (pt pk pe : Nat) (w : World) :
    CallsD Try.prog 30 #[.pointer (some ⟨pt, 0, none⟩), .pointer (some ⟨pk, 0, none⟩), .pointer (some ⟨pe, 0, none⟩)] .returning w fun e u' w' => e = .returned (.tuple #[]) ∧ u' = .returning ∧ w' = w := by
  refine callsD_of_wpS Try.func30 rfl fun c₀ cs hu => ?_
  apply wpS_seq
  apply wpS_region
  simp [wpOpsS, go_sem, recoverD, hu, Try.ntmps30, Exit.thenS]
  refine wpS_of_wp ?_
  change Code.wp _ _ _ { tmps := #[.pointer (some ⟨pt, 0, none⟩), .pointer (some ⟨pk, 0, none⟩), .pointer (some ⟨pe, 0, none⟩), .nilIface, .nilIface, undef, undef, undef, undef], defers := [] } w
  go_wp2
  cases c₀
  simp_all [bodyPostS, results, Try.results30]
theorem set3 {w1 : World} {N : Nat} {t0 t1 t2 : TypeId} {u0 u1 u2 : Value} (k0 : w1.heap[N]? = some (.cells #[u0] t0 (0, 0))) (k1 : w1.heap[N + 1]? = some (.cells #[u1] t1 (0, 0))) (k2 : w1.heap[N + 1 + 1]? = some (.cells #[u2] t2 (0, 0))) (a b c : Value) :
    (((w1.setCell ⟨N, 0, none⟩ a).setCell ⟨N + 1, 0, none⟩ b).setCell ⟨N + 1 + 1, 0, none⟩ c).cell? ⟨N, 0, none⟩ = some a ∧ (((w1.setCell ⟨N, 0, none⟩ a).setCell ⟨N + 1, 0, none⟩ b).setCell ⟨N + 1 + 1, 0, none⟩ c).cell? ⟨N + 1, 0, none⟩ = some b ∧ (((w1.setCell ⟨N, 0, none⟩ a).setCell ⟨N + 1, 0, none⟩ b).setCell ⟨N + 1 + 1, 0, none⟩ c).cell? ⟨N + 1 + 1, 0, none⟩ = some c := by
  have e0 := block_other ⟨N + 1 + 1, 0, none⟩ c (block_other ⟨N + 1, 0, none⟩ b (setCell_block (i := 0) (u := a) k0) (by simp)) (by simp; omega)
  have e1 := block_other ⟨N + 1 + 1, 0, none⟩ c (setCell_block (i := 0) (u := b) (block_other ⟨N, 0, none⟩ a k1 (by simp))) (by simp)
  have e2 := setCell_block (i := 0) (u := c) (block_other ⟨N + 1, 0, none⟩ b (block_other ⟨N, 0, none⟩ a k2 (by simp; omega)) (by simp))
  exact ⟨block_cell 0 e0 rfl, block_cell 0 e1 rfl, block_cell 0 e2 rfl⟩
/-- What Inflate answers. -/
def InflSaid (w : World) (r : Except Nat (Nat × List UInt8)) (e : Ending) (w' : World) : Prop := (match r with
  | .ok (q, t) => ∃ v, e = .returned (.tuple #[v, .int .i64 (((q + 7) / 8 : Nat) : Int), .int .i64 0]) ∧ w'.ownsRow w.heap.size 5 1 v t.length (Lib.byteCells t)
  | .error k => e = .returned (.tuple #[.slice none 0 0, .int .i64 0, .int .i64 (k : Int)])) ∧ Below w.heap.size w w'
set_option maxHeartbeats 2000000 in
theorem hInflate_neg (v : Value) (most : Int) (w : World) (hm : most < 0) : Calls Try.prog 14 #[v, .int .i64 most] w fun e w' => e = .returned (.tuple #[.slice none 0 0, .int .i64 0, .int .i64 2]) ∧ Below w.heap.size w w' := by
  go_enter_defers Try.func14, Try.ntmps14
  go_wp2
  simp [bodyPostD, Leaves, results, Try.results14, go_sem]
  exact (((Below.refl _ w).alloc (Nat.le_refl _) _).alloc (by simp) _).alloc (by simp; omega) _
set_option maxHeartbeats 8000000 in
theorem hInflate_any (O : Nat → List UInt8 → Except Nat (Nat × List UInt8)) (x : Option Addr) (cap : Nat) (s : ByteArray) (most : Nat) (w : World) (hO : ∀ rb, OwnOk rb s most O) (hs : s.size ≤ 1000000) (hB : IsBytes w (.slice x s.size cap) s) (hm : most ≤ 9223372036854775807) (h99 : inflL O s.data.toList most ≠ .error 99) :
    Calls Try.prog 14 #[.slice x s.size cap, .int .i64 (most : Int)] w (InflSaid w (inflL O s.data.toList most)) := by
  have hmf : ∀ (fn : Fn) (first cap : Array Value) (w : World), (Instr.makeFunc fn first cap).run Try.prog w = .ok (.func fn first cap) w := fun _ _ _ _ => rfl
  have hm0 : ¬ (most : Int) < 0 := by omega
  obtain ⟨R, hR⟩ : ∃ R, inflL O s.data.toList most = R := ⟨_, rfl⟩
  have HR : Hid (inflL O s.data.toList most = R) := hR
  rw [hR] at h99
  rw [hR]
  clear hR
  go_enter_defers Try.func14, Try.ntmps14
  go_wp2_with fail
  have hB0 : Below w.heap.size w ((((w.alloc (Obj.cells #[Value.slice none 0 0] 22)).alloc (Obj.cells #[Value.int IntKind.i64 0] 3)).alloc (Obj.cells #[Value.int IntKind.i64 0] 24)).alloc (Obj.cells #[Value.slice x s.size cap, Value.int IntKind.i64 0, Value.slice none 0 0, Value.int IntKind.i64 ↑most, Value.pointer none, Value.pointer none] 58)) :=
    ((((Below.refl _ w).alloc (Nat.le_refl _) _).alloc (by simp) _).alloc (by simp; omega) _).alloc (by simp; omega) _
  have hR0 : Rd (w.heap.size + 1 + 1 + 1) s most (.slice x s.size cap) (.pointer none) (.pointer none) 0 [] (.slice none 0 0) ((((w.alloc (Obj.cells #[Value.slice none 0 0] 22)).alloc (Obj.cells #[Value.int IntKind.i64 0] 3)).alloc (Obj.cells #[Value.int IntKind.i64 0] 24)).alloc (Obj.cells #[Value.slice x s.size cap, Value.int IntKind.i64 0, Value.slice none 0 0, Value.int IntKind.i64 ↑most, Value.pointer none, Value.pointer none] 58)) := by
    refine ⟨?_, World.ownsRow_nil _ _ _ _, ⟨w, by omega, hB, hB0⟩, Nat.zero_le _⟩
    have := heap_push_at (((w.alloc (Obj.cells #[Value.slice none 0 0] 22)).alloc (Obj.cells #[Value.int IntKind.i64 0] 3)).alloc (Obj.cells #[Value.int IntKind.i64 0] 24)) (Obj.cells #[Value.slice x s.size cap, Value.int IntKind.i64 0, Value.slice none 0 0, Value.int IntKind.i64 ↑most, Value.pointer none, Value.pointer none] 58)
    simpa using this
  have hT0 : ((((w.alloc (Obj.cells #[Value.slice none 0 0] 22)).alloc (Obj.cells #[Value.int IntKind.i64 0] 3)).alloc (Obj.cells #[Value.int IntKind.i64 0] 24)).alloc (Obj.cells #[Value.slice x s.size cap, Value.int IntKind.i64 0, Value.slice none 0 0, Value.int IntKind.i64 ↑most, Value.pointer none, Value.pointer none] 58)).heap[w.heap.size]? = some (.cells #[Value.slice none 0 0] 22 (0, 0)) := block_alloc _ (block_alloc _ (block_alloc _ (heap_push_at w _)))
  have hT1 : ((((w.alloc (Obj.cells #[Value.slice none 0 0] 22)).alloc (Obj.cells #[Value.int IntKind.i64 0] 3)).alloc (Obj.cells #[Value.int IntKind.i64 0] 24)).alloc (Obj.cells #[Value.slice x s.size cap, Value.int IntKind.i64 0, Value.slice none 0 0, Value.int IntKind.i64 ↑most, Value.pointer none, Value.pointer none] 58)).heap[w.heap.size + 1]? = some (.cells #[Value.int IntKind.i64 0] 3 (0, 0)) := block_alloc _ (block_alloc _ (by have := heap_push_at (w.alloc (Obj.cells #[Value.slice none 0 0] 22)) (Obj.cells #[Value.int IntKind.i64 0] 3); simpa using this))
  have hT2 : ((((w.alloc (Obj.cells #[Value.slice none 0 0] 22)).alloc (Obj.cells #[Value.int IntKind.i64 0] 3)).alloc (Obj.cells #[Value.int IntKind.i64 0] 24)).alloc (Obj.cells #[Value.slice x s.size cap, Value.int IntKind.i64 0, Value.slice none 0 0, Value.int IntKind.i64 ↑most, Value.pointer none, Value.pointer none] 58)).heap[w.heap.size + 1 + 1]? = some (.cells #[Value.int IntKind.i64 0] 24 (0, 0)) := block_alloc _ (by have := heap_push_at ((w.alloc (Obj.cells #[Value.slice none 0 0] 22)).alloc (Obj.cells #[Value.int IntKind.i64 0] 3)) (Obj.cells #[Value.int IntKind.i64 0] 24); simpa using this)
  generalize ((((w.alloc (Obj.cells #[Value.slice none 0 0] 22)).alloc (Obj.cells #[Value.int IntKind.i64 0] 3)).alloc (Obj.cells #[Value.int IntKind.i64 0] 24)).alloc (Obj.cells #[Value.slice x s.size cap, Value.int IntKind.i64 0, Value.slice none 0 0, Value.int IntKind.i64 ↑most, Value.pointer none, Value.pointer none] 58)) = W0 at *
  have hst := HR.out
  unfold inflL at hst
  rw [len_eq] at hst
  have HT : Hid (∀ wr, Below (w.heap.size + 1 + 1 + 1) W0 wr → (wr.cell? ⟨w.heap.size, 0, none⟩ = some (.slice none 0 0) ∧ wr.cell? ⟨w.heap.size + 1, 0, none⟩ = some (.int .i64 0) ∧ wr.cell? ⟨w.heap.size + 1 + 1, 0, none⟩ = some (.int .i64 0)) ∧ wr.frozen? ⟨w.heap.size, 0, none⟩ = false ∧ wr.frozen? ⟨w.heap.size + 1, 0, none⟩ = false ∧ wr.frozen? ⟨w.heap.size + 1 + 1, 0, none⟩ = false ∧ wr.heap[w.heap.size]? = some (.cells #[Value.slice none 0 0] 22 (0, 0)) ∧ wr.heap[w.heap.size + 1]? = some (.cells #[Value.int IntKind.i64 0] 3 (0, 0)) ∧ wr.heap[w.heap.size + 1 + 1]? = some (.cells #[Value.int IntKind.i64 0] 24 (0, 0))) := by
    intro wr hb
    have k0 := (hb.block w.heap.size (by omega)).trans hT0
    have k1 := (hb.block (w.heap.size + 1) (by omega)).trans hT1
    have k2 := (hb.block (w.heap.size + 1 + 1) (by omega)).trans hT2
    exact ⟨⟨block_cell 0 k0 rfl, block_cell 0 k1 rfl, block_cell 0 k2 rfl⟩, block_free 0 k0, block_free 0 k1, block_free 0 k2, k0, k1, k2⟩
  clear hT0 hT1 hT2
  go_loopw [14] (fun _ wr => ∃ (f q : Nat) (tx : List UInt8) (v fx bk : Value), Hid (blocksF O s.data.toList most f q tx = R ∧ 8 * s.size + 1 ≤ f + q) ∧ tx.length ≤ 300 * q ∧ Rd (w.heap.size + 1 + 1 + 1) s most (.slice x s.size cap) fx bk q tx v wr ∧ FxState (w.heap.size + 1 + 1 + 1) fx bk wr ∧ Below (w.heap.size + 1 + 1 + 1) W0 wr) (fun _ wr => 8 * s.size + 1 - atOf (w.heap.size + 1 + 1 + 1) wr)
  case atStart => exact ⟨8 * s.size + 1, 0, [], .slice none 0 0, .pointer none, .pointer none, ⟨hst, by omega⟩, by simp, hR0, .inl ⟨rfl, rfl⟩, Below.refl _ _⟩
  case round =>
    obtain ⟨f, q, tx, v, fx, bk, HF, hlen, hW, hX, hb⟩ := hrel
    obtain ⟨hF, hfq⟩ := HF.out
    have hq := hW.le
    have hat := atOf_eq hW
    obtain ⟨f, rfl⟩ : ∃ f', f = f' + 1 := ⟨f - 1, by omega⟩
    rw [blocksF] at hF
    have hBL := rdBlock_any O (w.heap.size + 1 + 1 + 1) s most q _ fx bk v tx wr (hO _) hW hX hs hm hlen
    cases hx : blockL O s.data.toList most q tx with
    | error k =>
      rw [hx] at hBL hF
      have HRk : Hid (Except.error k = R) := hF
      have hBL := hBL (by intro e; rw [← hF] at h99; simp only [Except.error.injEq] at e; exact h99 (by rw [e]))
      clear hF HF hx hat
      go_wp2_with (go_at_call 31; go_must (refine hBL.mono ?_; rintro e w1 ⟨rfl, hb1⟩))
      have hb2 := hb.trans hb1
      obtain ⟨⟨t0, t1, t2⟩, z0, z1, z2, b0, b1, b2⟩ := HT.out w1 hb2
      refine leaves_cons (f := 30) (args := #[.pointer (some ⟨w.heap.size, 0, none⟩), .pointer (some ⟨w.heap.size + 1, 0, none⟩), .pointer (some ⟨w.heap.size + 1 + 1, 0, none⟩)]) (by simp) (by simp [go_sem]) ?_
      refine (catch_panic w.heap.size (w.heap.size + 1) (w.heap.size + 1 + 1) k _ _ _ w1 t0 t1 t2 z0 z1 z2 (by omega) (by omega) (by omega)).mono ?_
      rintro e u' w'' ⟨rfl, rfl, rfl⟩
      rw [← HRk.out]
      obtain ⟨r0, r1, r2⟩ := set3 b0 b1 b2 (.slice none 0 0) (.int .i64 0) (.int .i64 (k : Int))
      have hb4 : Below w.heap.size w (((w1.setCell ⟨w.heap.size, 0, none⟩ (.slice none 0 0)).setCell ⟨w.heap.size + 1, 0, none⟩ (.int .i64 0)).setCell ⟨w.heap.size + 1 + 1, 0, none⟩ (.int .i64 (k : Int))) := (((hB0.trans (hb2.mono (by omega))).setCell (p := ⟨w.heap.size, 0, none⟩) (Nat.le_refl _) _).setCell (p := ⟨w.heap.size + 1, 0, none⟩) (Nat.le_succ _) _).setCell (p := ⟨w.heap.size + 1 + 1, 0, none⟩) (by show w.heap.size ≤ w.heap.size + 1 + 1; omega) _
      generalize ((w1.setCell ⟨w.heap.size, 0, none⟩ (.slice none 0 0)).setCell ⟨w.heap.size + 1, 0, none⟩ (.int .i64 0)).setCell ⟨w.heap.size + 1 + 1, 0, none⟩ (.int .i64 (k : Int)) = W3 at *
      simp [Leaves, settle, results, Try.results14, go_sem, r0, r1, r2]
      exact ⟨rfl, hb4.drew⟩
    | ok y =>
      obtain ⟨last, q2, tx2⟩ := y
      have hok := blockL_ok (hO 0) hx hlen
      rw [hx] at hBL hF
      have hBL := hBL (by intro e; cases e)
      simp only at hF
      clear hx
      cases last with
      | false =>
        simp only [Bool.false_eq_true, if_false] at hF
        have HF2 : Hid (blocksF O s.data.toList most f q2 tx2 = R ∧ 8 * s.size + 1 ≤ f + q2) := ⟨hF, by omega⟩
        have HAT : Hid (atOf (w.heap.size + 1 + 1 + 1) wr = q) := hat
        clear hF HF hat
        go_wp2_with (go_at_call 31; go_must (refine hBL.mono ?_; rintro e w1 ⟨rfl, v1, fx1, bk1, hR1, hX1, hK1⟩))
        go_roundw
        case rel => exact ⟨f, q2, tx2, v1, fx1, bk1, HF2, hok.2.2, hR1, hX1, hb.trans hK1.below⟩
        case measure =>
          have h1 := atOf_eq hR1
          have h2 := HAT.out
          rw [h1, h2]
          omega
      | true =>
        simp only [if_true] at hF
        have HRk : Hid (Except.ok (q2, tx2) = R) := hF
        clear hF HF hat
        go_wp2_with (go_at_call 31; go_must (refine hBL.mono ?_; rintro e w1 ⟨rfl, v1, fx1, bk1, hR1, hX1, hK1⟩))
        have hb2 := hb.trans hK1.below
        obtain ⟨⟨t0, t1, t2⟩, z0, z1, z2, b0, b1, b2⟩ := HT.out w1 hb2
        obtain ⟨va, vc, rfl⟩ := own_shape hR1.row
        have g2 := hR1.cells.2.2.1
        have g1 := hR1.cells.2.1
        have hq2 := hok.2.1
        obtain ⟨st, hst⟩ : ∃ st, (q2 + 7) / 8 = st := ⟨_, rfl⟩
        have HST : Hid ((q2 + 7) / 8 = st) := hst
        have e0 : ((q2 : Int) + 8 - 1) / 8 = (st : Int) := by omega
        have e1 : IntKind.i64.wrap ((q2 : Int) + 8) = (q2 : Int) + 8 := by rw [IntKind.wrap_i64]; omega
        have e2 : IntKind.i64.wrap ((q2 : Int) + 8 - 1) = (q2 : Int) + 8 - 1 := by rw [IntKind.wrap_i64]; omega
        have HRow : Hid (w1.ownsRow (w.heap.size + 1 + 1 + 1 + 1) 5 1 (.slice va tx2.length vc) tx2.length (Lib.byteCells tx2)) := hR1.row
        have HB0 : Hid (w1.heap[w.heap.size]? = some (.cells #[Value.slice none 0 0] 22 (0, 0))) := b0
        have HB1 : Hid (w1.heap[w.heap.size + 1]? = some (.cells #[Value.int IntKind.i64 0] 3 (0, 0))) := b1
        have HB2 : Hid (w1.heap[w.heap.size + 1 + 1]? = some (.cells #[Value.int IntKind.i64 0] 24 (0, 0))) := b2
        clear hst hR1 hX1 b0 b1 b2 hBL hok
        go_region
        all_goals
          go_wp2
          refine leaves_cons (f := 30) (args := #[.pointer (some ⟨w.heap.size, 0, none⟩), .pointer (some ⟨w.heap.size + 1, 0, none⟩), .pointer (some ⟨w.heap.size + 1 + 1, 0, none⟩)]) (by simp) (by simp [go_sem]) ?_
          refine (catch_idle w.heap.size (w.heap.size + 1) (w.heap.size + 1 + 1) _).mono ?_
          rintro e u' w'' ⟨rfl, rfl, hw''⟩
          rw [hw'']
          clear hw'' w''
          rw [← HRk.out]
          obtain ⟨r0, r1, r2⟩ := set3 HB0.out HB1.out HB2.out (.slice va tx2.length vc) (.int .i64 (st : Int)) (.int .i64 0)
          have hb4 : Below w.heap.size w (((w1.setCell ⟨w.heap.size, 0, none⟩ (.slice va tx2.length vc)).setCell ⟨w.heap.size + 1, 0, none⟩ (.int .i64 (st : Int))).setCell ⟨w.heap.size + 1 + 1, 0, none⟩ (.int .i64 0)) := (((hB0.trans (hb2.mono (by omega))).setCell (p := ⟨w.heap.size, 0, none⟩) (Nat.le_refl _) _).setCell (p := ⟨w.heap.size + 1, 0, none⟩) (Nat.le_succ _) _).setCell (p := ⟨w.heap.size + 1 + 1, 0, none⟩) (by show w.heap.size ≤ w.heap.size + 1 + 1; omega) _
          have hro : (((w1.setCell ⟨w.heap.size, 0, none⟩ (.slice va tx2.length vc)).setCell ⟨w.heap.size + 1, 0, none⟩ (.int .i64 (st : Int))).setCell ⟨w.heap.size + 1 + 1, 0, none⟩ (.int .i64 0)).ownsRow w.heap.size 5 1 (.slice va tx2.length vc) tx2.length (Lib.byteCells tx2) := by
            have h1 := ownsRow_setCell_below (ownsRow_setCell_below (ownsRow_setCell_below HRow.out (a := ⟨w.heap.size, 0, none⟩) (by show w.heap.size < _; omega) (.slice va tx2.length vc)) (a := ⟨w.heap.size + 1, 0, none⟩) (by show w.heap.size + 1 < _; omega) (.int .i64 (st : Int))) (a := ⟨w.heap.size + 1 + 1, 0, none⟩) (by show w.heap.size + 1 + 1 < _; omega) (.int .i64 0)
            refine ⟨h1.1, ?_⟩
            rcases h1.2 with h2 | ⟨g, cap, cur, hv, hg2, hh, r⟩
            · exact .inl h2
            · exact .inr ⟨g, cap, cur, hv, by omega, hh, r⟩
          generalize ((w1.setCell ⟨w.heap.size, 0, none⟩ (.slice va tx2.length vc)).setCell ⟨w.heap.size + 1, 0, none⟩ (.int .i64 (st : Int))).setCell ⟨w.heap.size + 1 + 1, 0, none⟩ (.int .i64 0) = W3 at *
          simp [Leaves, settle, results, Try.results14, go_sem, r0, r1, r2]
          exact ⟨⟨_, by rw [HST.out], hro⟩, hb4.drew⟩
end Go.Proofs.Ytbhnlomppobbkaa
