/-
  Package moment: Parse (chars.Collapse by its contract).
-/
import Derived.Test.YtbepjlhknmhmeaaDoorMTime
import Derived.Recover
import Derived.Defers
import Derived.BigRegion
import Derived.Test.YtbepjlhknmhmeaaDoorHFreeT
namespace Go.Proofs.YtbepjlhknmhmeaaDoor
open Go.RowKit Ch
set_option maxRecDepth 100000

theorem assert_errno (k : Int) (w : World) : (Instr.typeAssert (.iface 23 (.int .i64 k)) 20 23 false).run Tryd.prog w = .ok (.int .i64 k) w := by kernel_rfl
set_option maxHeartbeats 2000000 in
theorem mIs_any (n : Int) (w : World) : Calls Tryd.prog 24 #[.int .i64 n] w fun e w' => e = .returned (.bool (decide (-62135596800000 ≤ n ∧ n ≤ 253402300799999))) ∧ w' = w := by
  by_cases h1 : -62135596800000 ≤ n
  · by_cases h2 : n ≤ 253402300799999
    · rw [decide_eq_true ⟨h1, h2⟩]
      go_enter Tryd.func24, Tryd.ntmps24
      go_wp2_with fail
      go_ret
      exact ⟨by first | rfl | simp [h1, h2], rfl⟩
    · rw [decide_eq_false (fun h => h2 h.2)]
      have d2 : decide (n ≤ 253402300799999) = false := decide_eq_false h2
      go_enter Tryd.func24, Tryd.ntmps24
      go_wp2_with fail
      go_ret
      exact ⟨by first | rfl | simp [h1, h2], rfl⟩
  · rw [decide_eq_false (fun h => h1 h.1)]
    go_enter Tryd.func24, Tryd.ntmps24
    go_wp2_with fail
    go_ret
    exact ⟨by first | rfl | simp [h1], rfl⟩
/-- What Parse answers. -/
def parseA (s : List UInt8) : Int × Nat := match parseM s with
  | none => (0, 10)
  | some n => if -62135596800000 ≤ n ∧ n ≤ 253402300799999 then (n, 0) else (0, 21)
theorem any_op2 {P : Program} {ops : Array Oper} {Q : Exit → Act → World → Prop} {md : Region.Mode} {listed : Array Bool} {a : Act} {w : World} {o o' : Oper} {n : Nat} (i j : Nat) (hr : Region.ready md ops listed = [i, j]) (ho : ops[i]? = some o) (hw : Region.wanted o (yielded ops a.tmps) = true) (ho' : ops[j]? = some o') (hw' : Region.wanted o' (yielded ops a.tmps) = true)
    (h : ∀ K' : Act → World → Prop, Hid (∀ b u, wpAny P md ops Q n (listed.setIfInBounds i true) b u → K' b u) → Oper.wp P o a w K' Q)
    (h' : ∀ K' : Act → World → Prop, Hid (∀ b u, wpAny P md ops Q n (listed.setIfInBounds j true) b u → K' b u) → Oper.wp P o' a w K' Q) : wpAny P md ops Q (n + 1) listed a w :=
  ⟨fun h0 => (by rw [hr] at h0; cases h0), fun k hk => by
    rw [hr] at hk
    rcases List.mem_cons.1 hk with rfl | hk
    · exact free_op ho hw (h _ (fun _ _ h => h))
    · obtain rfl := List.mem_singleton.1 hk
      exact free_op ho' hw' (h' _ (fun _ _ h => h))⟩
set_option maxHeartbeats 4000000 in
theorem mCatch_panic (p r k : Nat) (u0 u1 : Value) (w : World) (hpr : p ≠ r) (h0 : w.cell? ⟨p, 0, none⟩ = some u0) (f0 : w.frozen? ⟨p, 0, none⟩ = false) (h1 : w.cell? ⟨r, 0, none⟩ = some u1) (f1 : w.frozen? ⟨r, 0, none⟩ = false) :
    CallsD Tryd.prog 26 #[.pointer (some ⟨p, 0, none⟩), .pointer (some ⟨r, 0, none⟩)] (.panicking (PE k)) w fun e u' w' => e = .returned (.tuple #[]) ∧ u' = .panicking [{ v := .iface 23 (.int .i64 (k : Int)), recovered := true }] ∧ w' = (w.drew.setCell ⟨p, 0, none⟩ (.int .i64 0)).setCell ⟨r, 0, none⟩ (.int .i64 (k : Int)) := by
  unfold PE
  have hta := fun wx => assert_errno (k : Int) wx
  have q1 : (w.drew.setCell ⟨p, 0, none⟩ (.int .i64 0)).cell? ⟨r, 0, none⟩ = some u1 := (World.cell?_of_block (Below.heap_setCell _ _ _ _ (Ne.symm hpr))).trans h1
  have q2 : (w.drew.setCell ⟨p, 0, none⟩ (.int .i64 0)).frozen? ⟨r, 0, none⟩ = false := (World.frozen?_of_block (Below.heap_setCell _ _ _ _ (Ne.symm hpr))).trans f1
  have d0 : w.drew.cell? ⟨p, 0, none⟩ = some u0 := h0
  have e0 : w.drew.frozen? ⟨p, 0, none⟩ = false := f0
  obtain ⟨WF, hWF⟩ : ∃ W, (w.drew.setCell ⟨p, 0, none⟩ (.int .i64 0)).setCell ⟨r, 0, none⟩ (.int .i64 (k : Int)) = W := ⟨_, rfl⟩
  obtain ⟨W1, hW1⟩ : ∃ W, w.drew.setCell ⟨p, 0, none⟩ (.int .i64 0) = W := ⟨_, rfl⟩
  rw [hW1] at q1 q2 hWF
  rw [hW1]
  refine callsD_of_wpS Tryd.func26 rfl fun c₀ cs hu => ?_
  apply wpS_seq
  apply wpS_region
  simp [wpOpsS, go_sem, recoverD, hu, Tryd.ntmps26, Exit.thenS]
  refine wpS_of_wp ?_
  change Code.wp _ _ _ { tmps := #[.pointer (some ⟨p, 0, none⟩), .pointer (some ⟨r, 0, none⟩), .iface 23 (.int .i64 (k : Int)), .iface 23 (.int .i64 (k : Int)), undef, undef, undef, undef], defers := [] } w
  go_wp2_with fail
  refine wp_region_any rfl ?_
  show wpAny _ _ _ _ _ _ _ w.drew
  refine any_op2 0 2 (by kernel_rfl) rfl (by rfl) rfl (by rfl) (fun K' hK => ?_) (fun K' hK => ?_)
  · go_simp
    refine hK.out _ _ ?_
    clear hK
    refine any_op2 1 2 (by kernel_rfl) rfl (by rfl) rfl (by rfl) (fun K' hK => ?_) (fun K' hK => ?_)
    · go_simp
      refine hK.out _ _ ?_
      clear hK
      refine any_op 2 (by kernel_rfl) rfl (by rfl) (fun K' hK => ?_)
      go_simp
      refine hK.out _ _ ?_
      clear hK
      refine any_op 3 (by kernel_rfl) rfl (by rfl) (fun K' hK => ?_)
      go_simp
      refine hK.out _ _ (any_end (by kernel_rfl) ?_ _)
      clear hK
      simp +zetaDelta [bodyPostS, results, Tryd.results26]
      exact hWF.symm
    · go_simp
      refine hK.out _ _ ?_
      clear hK
      refine any_op 1 (by kernel_rfl) rfl (by rfl) (fun K' hK => ?_)
      go_simp
      refine hK.out _ _ ?_
      clear hK
      refine any_op 3 (by kernel_rfl) rfl (by rfl) (fun K' hK => ?_)
      go_simp
      refine hK.out _ _ (any_end (by kernel_rfl) ?_ _)
      clear hK
      simp +zetaDelta [bodyPostS, results, Tryd.results26]
      exact hWF.symm
  · go_simp
    refine hK.out _ _ ?_
    clear hK
    refine any_op 0 (by kernel_rfl) rfl (by rfl) (fun K' hK => ?_)
    go_simp
    refine hK.out _ _ ?_
    clear hK
    refine any_op 1 (by kernel_rfl) rfl (by rfl) (fun K' hK => ?_)
    go_simp
    refine hK.out _ _ ?_
    clear hK
    refine any_op 3 (by kernel_rfl) rfl (by rfl) (fun K' hK => ?_)
    go_simp
    refine hK.out _ _ (any_end (by kernel_rfl) ?_ _)
    clear hK
    simp +zetaDelta [bodyPostS, results, Tryd.results26]
    exact hWF.symm
set_option maxHeartbeats 2000000 in
theorem mCatch_idle (p r : Nat) (w : World) :
    CallsD Tryd.prog 26 #[.pointer (some ⟨p, 0, none⟩), .pointer (some ⟨r, 0, none⟩)] .returning w fun e u' w' => e = .returned (.tuple #[]) ∧ u' = .returning ∧ w' = w := by
  refine callsD_of_wpS Tryd.func26 rfl fun c₀ cs hu => ?_
  apply wpS_seq
  apply wpS_region
  simp [wpOpsS, go_sem, recoverD, hu, Tryd.ntmps26, Exit.thenS]
  refine wpS_of_wp ?_
  change Code.wp _ _ _ { tmps := #[.pointer (some ⟨p, 0, none⟩), .pointer (some ⟨r, 0, none⟩), .nilIface, .nilIface, undef, undef, undef, undef], defers := [] } w
  go_wp2
  cases c₀
  simp_all [bodyPostS, results, Tryd.results26]
/-- The boxes of Parse's results. -/
structure Boxes (w W : World) (p r : Nat) (a b : Value) : Prop where
  below : Below w.heap.size w W
  p0 : w.heap.size = p
  r0 : p + 1 = r
  atp : W.heap[p]? = some (.cells #[a] 3 (0, 0))
  atr : W.heap[r]? = some (.cells #[b] 23 (0, 0))
theorem boxes_mk (w : World) : Boxes w ((w.alloc (.cells #[.int .i64 0] 3)).alloc (.cells #[.int .i64 0] 23)) w.heap.size (w.heap.size + 1) (.int .i64 0) (.int .i64 0) := by
  have h1 := heap_push_at w (.cells #[.int .i64 0] 3)
  have h2 := heap_push_at (w.alloc (.cells #[.int .i64 0] 3)) (.cells #[.int .i64 0] 23)
  have hz : (w.alloc (.cells #[.int .i64 0] 3)).heap.size = w.heap.size + 1 := by simp
  rw [hz] at h2
  exact ⟨bl2 (alB _ _) (alB _ _), rfl, rfl, (heap_push_old _ _ (by rw [hz]; omega)).trans h1, h2⟩
theorem boxes_set {w W : World} {p : Nat} {a b : Value} (x y : Value) (h : Boxes w W p (p + 1) a b) : Boxes w ((W.setCell ⟨p, 0, none⟩ x).setCell ⟨p + 1, 0, none⟩ y) p (p + 1) x y := by
  have h1 : KeptX [p, p + 1] W ((W.setCell ⟨p, 0, none⟩ x).setCell ⟨p + 1, 0, none⟩ y) := (keptX_set W (by simp)).trans (keptX_set _ (by simp))
  refine ⟨h.below.trans (h1.below h.below.size (fun k hk => by have := h.p0; simp at hk; omega)), h.p0, h.r0, ?_, ?_⟩
  · exact block_other ⟨p + 1, 0, none⟩ y (setCell_block (i := 0) (u := x) h.atp) (by show p ≠ p + 1; omega)
  · exact setCell_block (i := 0) (u := y) (block_other ⟨p, 0, none⟩ x h.atr (by show p + 1 ≠ p; omega))
theorem Boxes.later {w W W' : World} {p r : Nat} {a b : Value} (h : Boxes w W p r a b) (hb : Below W.heap.size W W') : Boxes w W' p r a b :=
  ⟨bl2 h.below hb, h.p0, h.r0, (hb.block _ (block_lt h.atp)).trans h.atp, (hb.block _ (block_lt h.atr)).trans h.atr⟩
theorem Boxes.keptX {w W W' : World} {p r q : Nat} {a b : Value} (h : Boxes w W p r a b) (hq : p < q ∧ r < q) (hb : KeptX [q] W W') : Boxes w W' p r a b :=
  ⟨h.below.trans (hb.below h.below.size (fun k hk => by have := h.p0; simp at hk; omega)), h.p0, h.r0, (hb.block _ (block_lt h.atp) (by simp; omega)).trans h.atp, (hb.block _ (block_lt h.atr) (by simp; omega)).trans h.atr⟩
set_option maxHeartbeats 8000000 in
theorem mParse_any (s C : ByteArray) (w : World) (hT : MTab w) (h0 : w.heap.size ≠ 0) (hC : C.size ≤ 1000) (hCol : s.size ≤ 64 → ∀ u, Calls Tryd.prog 27 #[.string s] u fun e w' => e = .returned (.string C) ∧ Below u.heap.size u w') :
    Calls Tryd.prog 13 #[.string s] w fun e w' => e = .returned (.tuple #[.int .i64 (if 64 < s.size then 0 else (parseA C.data.toList).1), .int .i64 (if 64 < s.size then 12 else ((parseA C.data.toList).2 : Int))]) ∧ Below w.heap.size w w' := by
  have hmf : ∀ (fn : Fn) (first cap : Array Value) (w : World), (Instr.makeFunc fn first cap).run Tryd.prog w = .ok (.func fn first cap) w := fun _ _ _ _ => rfl
  have hB := boxes_mk w
  obtain ⟨W0, hW0⟩ : ∃ W, w.alloc (.cells #[.int .i64 0] 3) = W := ⟨_, rfl⟩
  rw [hW0] at hB
  obtain ⟨W1, hW1⟩ : ∃ W, W0.alloc (.cells #[.int .i64 0] 23) = W := ⟨_, rfl⟩
  rw [hW1] at hB
  obtain ⟨p, hp⟩ : ∃ p, w.heap.size = p := ⟨_, rfl⟩
  obtain ⟨r, hr⟩ : ∃ p, W0.heap.size = p := ⟨_, rfl⟩
  have hz : W0.heap.size = p + 1 := by rw [← hW0, ← hp]; simp
  rw [hp] at hB h0
  obtain rfl : p + 1 = r := hz.symm.trans hr
  by_cases hs : 64 < s.size
  · have i1 : (64 : Int) < (s.size : Int) := by omega
    rw [if_pos hs, if_pos hs]
    have g0 := block_cell (v := .int .i64 0) 0 hB.atp rfl
    have g1 := block_cell (v := .int .i64 0) 0 hB.atr rfl
    have f0 := block_free 0 hB.atp
    have f1 := block_free 0 hB.atr
    go_enter_defers Tryd.func13, Tryd.ntmps13
    go_wp2_with fail
    obtain ⟨WE, hWE⟩ : ∃ W, (W1.setCell ⟨p, 0, none⟩ (.int .i64 0)).setCell ⟨p + 1, 0, none⟩ (.int .i64 12) = W := ⟨_, rfl⟩
    have hE := boxes_set (.int .i64 0) (.int .i64 12) hB
    rw [hWE] at hE ⊢
    have q0 := block_cell (v := .int .i64 0) 0 hE.atp rfl
    have q1 := block_cell (v := .int .i64 12) 0 hE.atr rfl
    simp [bodyPostD, Leaves, results, Tryd.results13, go_sem, q0, q1]
    exact hE.below
  · have i1 : ¬ (64 : Int) < (s.size : Int) := by omega
    rw [if_neg hs, if_neg hs]
    have hCl := hCol (by omega) W1
    have HB := show Hid (Boxes w W1 p (p + 1) (.int .i64 0) (.int .i64 0)) from hB
    have HT := show Hid (MTab w ∧ p ≠ 0 ∧ C.size ≤ 1000) from ⟨hT, h0, hC⟩
    clear hB hT h0 hC hCol
    go_enter_defers Tryd.func13, Tryd.ntmps13
    go_wp2_with fail
    refine hCl.mono ?_
    rintro e w2 ⟨rfl, b2⟩
    have hB2 := HB.out.later b2
    obtain ⟨q, hq⟩ : ∃ q, w2.heap.size = q := ⟨_, rfl⟩
    have hR := heap_push_at w2 (.cells #[.string C] 49)
    have b3 := alB w2 (.cells #[.string C] 49)
    obtain ⟨W3, hW3⟩ : ∃ W, w2.alloc (.cells #[.string C] 49) = W := ⟨_, rfl⟩
    rw [hW3] at hR b3
    rw [hq] at hR
    have hqp : p < q ∧ p + 1 < q := by
      have h1 := block_lt hB2.atr
      omega
    have hTm := mTime_any q C W3 hR HT.out.2.2 (HT.out.1.later (bl2 hB2.below b3)) (by omega)
    have HB3 := show Hid (Boxes w W3 p (p + 1) (.int .i64 0) (.int .i64 0) ∧ p < q ∧ p + 1 < q) from ⟨hB2.later b3, hqp⟩
    clear hCl b2 hB2 hR b3 hqp
    go_wp2_with fail
    refine hTm.mono ?_
    rintro e w4 (⟨n, hn, rfl, hk⟩ | ⟨hn, rfl, hk⟩)
    rotate_left
    · have hB4 := HB3.out.1.keptX HB3.out.2 hk
      have HV := show Hid (parseA C.data.toList = (0, 10)) from by show parseA C.data.toList = (0, 10); unfold parseA; rw [hn]
      clear hTm hn hk
      have g0 := block_cell (v := .int .i64 0) 0 hB4.atp rfl
      have g1 := block_cell (v := .int .i64 0) 0 hB4.atr rfl
      have f0 := block_free 0 hB4.atp
      have f1 := block_free 0 hB4.atr
      have hE := boxes_set (.int .i64 0) (.int .i64 ((10 : Nat) : Int)) (hB4.later (Below.refl _ w4).drew)
      have q0 := block_cell (v := .int .i64 0) 0 hE.atp rfl
      have q1 := block_cell (v := .int .i64 ((10 : Nat) : Int)) 0 hE.atr rfl
      refine leaves_cons (f := 26) (args := #[.pointer (some ⟨p, 0, none⟩), .pointer (some ⟨p + 1, 0, none⟩)]) (by simp) (by simp [go_sem]) ?_
      refine (mCatch_panic p (p + 1) 10 _ _ w4 (by omega) g0 f0 g1 f1).mono ?_
      rintro e u' w'' ⟨rfl, rfl, hw''⟩
      rw [hw'']
      clear hw'' w''
      have HF := hE.below
      generalize (w4.drew.setCell ⟨p, 0, none⟩ (.int .i64 0)).setCell ⟨p + 1, 0, none⟩ (.int .i64 ((10 : Nat) : Int)) = WE at *
      rw [HV.out]
      simp [Leaves, settle, results, Tryd.results13, go_sem, q0, q1]
      exact HF
    have hB4 := HB3.out.1.keptX HB3.out.2 hk
    have g0 := block_cell (v := .int .i64 0) 0 hB4.atp rfl
    have f0 := block_free 0 hB4.atp
    have hB5 : Boxes w (w4.setCell ⟨p, 0, none⟩ (.int .i64 n)) p (p + 1) (.int .i64 n) (.int .i64 0) := ⟨hB4.below.trans ((keptX_set (ps := [p]) (i := 0) (v := .int .i64 n) w4 (by simp)).below hB4.below.size (fun k hk => by have := hB4.p0; simp at hk; omega)), hB4.p0, hB4.r0, setCell_block (i := 0) (u := .int .i64 n) hB4.atp, block_other ⟨p, 0, none⟩ _ hB4.atr (by show p + 1 ≠ p; omega)⟩
    obtain ⟨W5, hW5⟩ : ∃ W, w4.setCell ⟨p, 0, none⟩ (.int .i64 n) = W := ⟨_, rfl⟩
    rw [hW5] at hB5
    have g5 := block_cell (v := .int .i64 n) 0 hB5.atp rfl
    have hI := mIs_any n W5
    by_cases hc : -62135596800000 ≤ n ∧ n ≤ 253402300799999
    · have HV := show Hid (parseA C.data.toList = (n, 0)) from by show parseA C.data.toList = (n, 0); unfold parseA; rw [hn]; exact if_pos hc
      rw [decide_eq_true hc] at hI
      have hN := mNeed_ok 21 W5
      have h5 := block_free 0 hB5.atp
      have h6 := block_free 0 hB5.atr
      have g6 := block_cell (v := .int .i64 0) 0 hB5.atr rfl
      have hE := boxes_set (.int .i64 n) (.int .i64 0) hB5
      obtain ⟨WE, hWE⟩ : ∃ W, (W5.setCell ⟨p, 0, none⟩ (.int .i64 n)).setCell ⟨p + 1, 0, none⟩ (.int .i64 0) = W := ⟨_, rfl⟩
      rw [hWE] at hE
      have q0 := block_cell (v := .int .i64 n) 0 hE.atp rfl
      have q1 := block_cell (v := .int .i64 0) 0 hE.atr rfl
      have HF := show Hid (Below w.heap.size w WE) from hE.below
      clear hTm hn hk hc hB4
      go_wp2_with fail
      refine hI.mono ?_
      rintro e w6 ⟨rfl, rfl⟩
      go_wp2_with fail
      refine hN.mono ?_
      rintro e w6 ⟨rfl, rfl⟩
      clear hI hN
      go_wp2_with fail
      refine leaves_cons (f := 26) (args := #[.pointer (some ⟨p, 0, none⟩), .pointer (some ⟨p + 1, 0, none⟩)]) (by simp) (by simp [go_sem]) ?_
      refine (mCatch_idle p (p + 1) _).mono ?_
      rintro e u' w'' ⟨rfl, rfl, hw''⟩
      rw [hw'']
      clear hw'' w''
      rw [HV.out]
      simp [Leaves, settle, results, Tryd.results13, go_sem, q0, q1]
      exact HF.out
    · have HV := show Hid (parseA C.data.toList = (0, 21)) from by show parseA C.data.toList = (0, 21); unfold parseA; rw [hn]; exact if_neg hc
      rw [decide_eq_false hc] at hI
      have hN := mNeed_err 21 W5
      clear hTm hn hk hc hB4
      go_wp2_with fail
      refine hI.mono ?_
      rintro e w6 ⟨rfl, rfl⟩
      go_wp2_with fail
      refine hN.mono ?_
      rintro e w7 ⟨rfl, rfl⟩
      clear hI hN g0 f0 g5
      have g0 := block_cell (v := .int .i64 n) 0 hB5.atp rfl
      have g1 := block_cell (v := .int .i64 0) 0 hB5.atr rfl
      have f0 := block_free 0 hB5.atp
      have f1 := block_free 0 hB5.atr
      have hE := boxes_set (.int .i64 0) (.int .i64 ((21 : Nat) : Int)) (hB5.later (Below.refl _ w7).drew)
      have q0 := block_cell (v := .int .i64 0) 0 hE.atp rfl
      have q1 := block_cell (v := .int .i64 ((21 : Nat) : Int)) 0 hE.atr rfl
      refine leaves_cons (f := 26) (args := #[.pointer (some ⟨p, 0, none⟩), .pointer (some ⟨p + 1, 0, none⟩)]) (by simp) (by simp [go_sem]) ?_
      refine (mCatch_panic p (p + 1) 21 _ _ w7 (by omega) g0 f0 g1 f1).mono ?_
      rintro e u' w'' ⟨rfl, rfl, hw''⟩
      rw [hw'']
      clear hw'' w''
      have HF := hE.below
      generalize (w7.drew.setCell ⟨p, 0, none⟩ (.int .i64 0)).setCell ⟨p + 1, 0, none⟩ (.int .i64 ((21 : Nat) : Int)) = WE at *
      rw [HV.out]
      simp [Leaves, settle, results, Tryd.results13, go_sem, q0, q1]
      exact HF
end Go.Proofs.YtbepjlhknmhmeaaDoor
