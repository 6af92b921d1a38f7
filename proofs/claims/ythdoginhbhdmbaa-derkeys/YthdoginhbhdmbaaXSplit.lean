/-
  Package der: Split.
-/
import Derived.Test.YthdoginhbhdmbaaXCatch
import Derived.Shelf.Abstract
namespace Go.Proofs.Ythdoginhbhdmbaa
open Go.RowKit Ch
set_option maxRecDepth 100000

/-- A block of one cell that is no byte. -/
def Box8 (w : World) (p : Nat) : Prop := ∃ x t, w.heap[p]? = some (.cells #[x] t (0, 0)) ∧ ∀ z, x ≠ .int .u8 z
theorem cell_of_row8 {w : World} {b i : Nat} {x : Value} {t : TypeId} {v : Value} (h : w.heap[b]? = some (.cells #[x] t (0, 0))) (hc : w.cell? ⟨b, i, none⟩ = some v) : i = 0 ∧ v = x := by
  have e : w.cell? ⟨b, i, none⟩ = (#[x] : Array Value)[i]? := by simp [World.cell?, h]
  rw [e] at hc
  rcases i with _ | i
  · simp at hc
    exact ⟨rfl, hc.symm⟩
  · simp at hc
theorem IsBytes.keptB {w w' : World} {v : Value} {s : ByteArray} {ps : List Nat} (h : IsBytes w v s) (hk : KeptX ps w w') (hb : ∀ p ∈ ps, Box8 w p) : IsBytes w' v s := by
  obtain ⟨a, cap, hv, hc, hm, hr⟩ := h
  refine ⟨a, cap, hv, hc, hm, ?_⟩
  rcases hr with h1 | ⟨x, h1, h2⟩
  · exact .inl h1
  · refine .inr ⟨x, h1, ?_⟩
    by_cases h0 : s.size = 0
    · exact .inl h0
    rcases h2 with h2 | ⟨b, o, h2, h7, h8⟩
    · exact .inl h2
    · refine .inr ⟨b, o, h2, Nat.lt_of_lt_of_le h7 hk.size, fun i hi => ?_⟩
      have hcell := h8 i hi
      have hnp : b ∉ ps := by
        intro hmem
        obtain ⟨z, t, hz, hne⟩ := hb b hmem
        exact hne _ (cell_of_row8 hz hcell).2.symm
      have e : w'.cell? ⟨b, o + i, none⟩ = w.cell? ⟨b, o + i, none⟩ := by
        unfold World.cell?
        rw [hk.block b h7 hnp]
      rw [e]
      exact hcell
theorem IsPs.keptB {w w' : World} {v : Value} {qs : List (UInt8 × List UInt8)} {ps : List Nat} (h : IsPs w v qs) (hk : KeptX ps w w') (hb : ∀ p ∈ ps, Box8 w p) : IsPs w' v qs := by
  obtain ⟨y, c, h1, h2, h3⟩ := h
  refine ⟨y, c, h1, h2, fun i p hp => ?_⟩
  obtain ⟨b, o, yb, cb, h4, h5, h6, h7, h8⟩ := h3 i p hp
  have hnp : b ∉ ps := by
    intro hmem
    obtain ⟨z, t, hz, hne⟩ := hb b hmem
    have := (cell_of_row8 hz h7).1
    omega
  have e : ∀ j, w'.cell? ⟨b, j, none⟩ = w.cell? ⟨b, j, none⟩ := fun j => by
    unfold World.cell?
    rw [hk.block b h5 hnp]
  exact ⟨b, o, yb, cb, h4, Nat.lt_of_lt_of_le h5 hk.size, by rw [e]; exact h6, by rw [e]; exact h7, h8.keptB hk hb⟩
theorem IsPs.shape {w : World} {v : Value} {qs : List (UInt8 × List UInt8)} (h : IsPs w v qs) : ∃ y c, v = .slice y qs.length c := by
  obtain ⟨y, c, h1, _⟩ := h
  exact ⟨y, c, h1⟩
set_option maxHeartbeats 2000000 in
theorem xSplitF_any (pb pp : Nat) (x : Option Addr) (cx : Nat) (s : ByteArray) (w : World) (h1 : w.heap[pb]? = some (.cells #[.slice x s.size cx] 24 (0, 0))) (h2 : w.heap[pp]? = some (.cells #[.slice none 0 0] 22 (0, 0))) (hS : IsBytes w (.slice x s.size cx) s) (hs : s.size ≤ 1000000) :
    Calls Try.prog 23 #[.pointer (some ⟨pb, 0, none⟩), .pointer (some ⟨pp, 0, none⟩)] w fun e w' => match splitL s.size s.data.toList with
      | .error k => e = .panicked (PE k) ∧ Below w.heap.size w w'
      | .ok ps => e = .returned (.tuple #[]) ∧ (∃ v, w'.heap[pp]? = some (.cells #[v] 22 (0, 0)) ∧ IsPs w' v ps) ∧ KeptX [pp] w w' := by
  have hP := xPieces_any x cx s w hS hs
  have g1 := block_cell (v := .slice x s.size cx) 0 h1 rfl
  have H2 := show Hid (w.heap[pp]? = some (.cells #[.slice none 0 0] 22 (0, 0))) from h2
  clear h1 h2 hS
  cases hR : splitL s.size s.data.toList with
  | error k =>
    rw [hR] at hP
    clear hR
    go_enter Try.func23, Try.ntmps23
    go_wp2_with fail
    refine hP.mono ?_
    rintro e w1 ⟨rfl, hb⟩
    exact ⟨rfl, rfl, hb⟩
  | ok ps =>
    rw [hR] at hP
    clear hR
    go_enter Try.func23, Try.ntmps23
    go_wp2_with fail
    refine hP.mono ?_
    rintro e w1 ⟨⟨v, rfl, hv⟩, hb⟩
    obtain ⟨y, c, rfl⟩ := hv.shape
    have k1 := (hb.block pp (block_lt H2.out)).trans H2.out
    have r1 := block_free 0 k1
    have c1 := block_cell (v := .slice none 0 0) 0 k1 rfl
    have k2 := setCell_block (i := 0) (u := .slice y ps.length c) k1
    have hK := keptX_set (ps := [pp]) (p := pp) (v := .slice y ps.length c) w1 (by simp)
    have hv2 := hv.keptB hK (fun p hp => by
      simp at hp
      subst hp
      exact ⟨_, _, k1, fun z h => by cases h⟩)
    have HF := show Hid ((∃ v, (w1.setCell ⟨pp, 0, none⟩ (.slice y ps.length c)).heap[pp]? = some (.cells #[v] 22 (0, 0)) ∧ IsPs (w1.setCell ⟨pp, 0, none⟩ (.slice y ps.length c)) v ps) ∧ KeptX [pp] w (w1.setCell ⟨pp, 0, none⟩ (.slice y ps.length c))) from ⟨⟨_, k2, hv2⟩, (KeptX.of hb).trans hK⟩
    clear hP hv hb k1 k2 hK hv2
    go_wp2_with fail
    go_end0
    exact ⟨rfl, HF.out⟩
/-- What Split answers. -/
def SplitIs (w : World) (r : Except Nat (List (UInt8 × List UInt8))) (e : Ending) (w' : World) : Prop := match r with
  | .error k => e = .returned (.tuple #[.slice none 0 0, .int .i64 (k : Int)]) ∧ Below w.heap.size w w'
  | .ok ps => (∃ v, e = .returned (.tuple #[v, .int .i64 0]) ∧ IsPs w' v ps) ∧ Below w.heap.size w w'
set_option maxHeartbeats 4000000 in
theorem xSplit_any (x : Option Addr) (cx : Nat) (s : ByteArray) (w : World) (hS : IsBytes w (.slice x s.size cx) s) (hs : s.size ≤ 1000000) :
    Calls Try.prog 9 #[.slice x s.size cx] w (SplitIs w (splitL s.size s.data.toList)) := by
  have hmf : ∀ (fn : Fn) (first cap : Array Value) (w : World), (Instr.makeFunc fn first cap).run Try.prog w = .ok (.func fn first cap) w := fun _ _ _ _ => rfl
  obtain ⟨q, hq⟩ : ∃ q, w.heap.size = q := ⟨_, rfl⟩
  have hal : ∀ (u : World) (o : Obj), Below u.heap.size u (u.alloc o) := fun u o => (Below.refl _ u).alloc (Nat.le_refl _) _
  have hz1 : (w.alloc (.cells #[.slice x s.size cx] 24)).heap.size = q + 1 := by simp [hq]
  have hz2 : ((w.alloc (.cells #[.slice x s.size cx] 24)).alloc (.cells #[.slice none 0 0] 22)).heap.size = q + 1 + 1 := by simp [hq]
  have b1 := heap_push_at w (.cells #[.slice x s.size cx] 24)
  rw [hq] at b1
  have b2 := heap_push_at (w.alloc (.cells #[.slice x s.size cx] 24)) (.cells #[.slice none 0 0] 22)
  rw [hz1] at b2
  have b12 := block_alloc (.cells #[.slice none 0 0] 22) b1
  have hb2 : Below w.heap.size w ((w.alloc (.cells #[.slice x s.size cx] 24)).alloc (.cells #[.slice none 0 0] 22)) := (hal _ _).trans ((hal _ _).mono (by rw [hz1]; omega))
  obtain ⟨W2, hW2⟩ : ∃ W, ((w.alloc (.cells #[.slice x s.size cx] 24)).alloc (.cells #[.slice none 0 0] 22)) = W := ⟨_, rfl⟩
  rw [hW2] at hz2 b2 b12 hb2
  have b3 := heap_push_at W2 (.cells #[.int .i64 0] 28)
  have hE : Below W2.heap.size W2 (errBox W2) := hal _ _
  have hF := xSplitF_any q (q + 1) x cx s (errBox W2) (block_alloc _ b12) (block_alloc _ b2) ((hS.later hb2).later hE) hs
  have HW := show Hid (Below w.heap.size w W2 ∧ Below W2.heap.size W2 (errBox W2) ∧ (errBox W2).heap[W2.heap.size]? = some (.cells #[.int .i64 0] 28 (0, 0)) ∧ W2.heap.size = q + 1 + 1 ∧ W2.heap[q + 1]? = some (.cells #[.slice none 0 0] 22 (0, 0)) ∧ w.heap.size = q) from ⟨hb2, hE, b3, hz2, b2, hq⟩
  clear hz1 b1 b2 b12 b3 hb2 hE hal hS hz2
  have hRd := xReading_any 23 #[.pointer (some ⟨q, 0, none⟩), .pointer (some ⟨q + 1, 0, none⟩)] W2
    (fun u => ∃ ps, splitL s.size s.data.toList = .ok ps ∧ (∃ v, u.heap[q + 1]? = some (.cells #[v] 22 (0, 0)) ∧ IsPs u v ps) ∧ KeptX [q + 1] (errBox W2) u)
    (fun k u => splitL s.size s.data.toList = .error k ∧ Below (errBox W2).heap.size (errBox W2) u)
    (enters_of Try.func23 (by kernel_rfl) rfl)
    (hF.mono fun e u h => by
      cases hR : splitL s.size s.data.toList with
      | error k =>
        rw [hR] at h
        exact .inr ⟨k, h.1, rfl, h.2⟩
      | ok ps =>
        rw [hR] at h
        exact .inl ⟨h.1, ps, rfl, h.2⟩)
    (fun u h => by
      obtain ⟨ps, _, _, hk⟩ := h
      exact (hk.block _ (block_lt HW.out.2.2.1) (by simp; have := HW.out.2.2.2.1; omega)).trans HW.out.2.2.1)
    (fun k u h => (h.2.block _ (block_lt HW.out.2.2.1)).trans HW.out.2.2.1)
  clear hF
  go_enter Try.func9, Try.ntmps9
  go_wp2_with fail
  refine hRd.mono ?_
  rintro e w3 (⟨rfl, u, ⟨ps, hR, ⟨v, hbv, hv⟩, hk⟩, hk3⟩ | ⟨k, rfl, u, ⟨hR, hb⟩, hk3⟩)
  · have HRR := show Hid (splitL s.size s.data.toList = .ok ps) from hR
    obtain ⟨y, c, rfl⟩ := hv.shape
    have hbe : Box8 u W2.heap.size := ⟨_, _, (hk.block _ (block_lt HW.out.2.2.1) (by simp; have := HW.out.2.2.2.1; omega)).trans HW.out.2.2.1, fun z h => by cases h⟩
    have hv3 := hv.keptB hk3 (fun p hp => by simp at hp; subst hp; exact hbe)
    have hb3 : w3.heap[q + 1]? = some (.cells #[.slice y ps.length c] 22 (0, 0)) := (hk3.block _ (block_lt hbv) (by simp; have := HW.out.2.2.2.1; omega)).trans hbv
    have hBw : Below w.heap.size w w3 := by
      have h1 := HW.out.1.trans (HW.out.2.1.mono HW.out.1.size)
      have h2 := hk.below (B := w.heap.size) h1.size (fun p hp => by simp at hp; have := HW.out.2.2.2.2.2; omega)
      have h3 := h1.trans h2
      exact h3.trans (hk3.below h3.size (fun p hp => by simp at hp; have := HW.out.2.2.2.1; have := HW.out.2.2.2.2.2; omega))
    have g1 := block_cell (v := .slice y ps.length c) 0 hb3 rfl
    have r1 := block_free 0 hb3
    have hK4 := keptX_set (ps := [q + 1]) (p := q + 1) (v := .slice y ps.length c) w3 (by simp)
    have hb4 := setCell_block (i := 0) (u := .slice y ps.length c) hb3
    have hv4 := hv3.keptB hK4 (fun p hp => by simp at hp; subst hp; exact ⟨_, _, hb3, fun z h => by cases h⟩)
    have hB4 : Below w.heap.size w (w3.setCell ⟨q + 1, 0, none⟩ (.slice y ps.length c)) := hBw.trans (hK4.below hBw.size (fun p hp => by simp at hp; have := HW.out.2.2.2.2.2; omega))
    have HF := show Hid (IsPs (w3.setCell ⟨q + 1, 0, none⟩ (.slice y ps.length c)) (.slice y ps.length c) ps ∧ Below w.heap.size w (w3.setCell ⟨q + 1, 0, none⟩ (.slice y ps.length c))) from ⟨hv4, hB4⟩
    have HG := show Hid ((w3.setCell ⟨q + 1, 0, none⟩ (.slice y ps.length c)).cell? ⟨q + 1, 0, none⟩ = some (.slice y ps.length c)) from block_cell (v := .slice y ps.length c) 0 hb4 rfl
    clear hRd hv hv3 hbe hb3 hBw hK4 hb4 hv4 hB4 hk hk3 hbv hR
    go_wp2_with fail
    generalize (w3.setCell ⟨q + 1, 0, none⟩ (.slice y ps.length c)) = W5 at *
    have q0 := HG.out
    (try simp only [Exit.inBlock, Exit.then])
    refine bodyPost_ret (v := .tuple #[.slice y ps.length c, .int .i64 0]) (by simp [results, Try.results9, go_sem, q0]) rfl (by rw [HRR.out]; exact ⟨⟨_, rfl, HF.out.1⟩, HF.out.2⟩)
  · have HRR := show Hid (splitL s.size s.data.toList = .error k) from hR
    have hb2' := (HW.out.2.1.block _ (block_lt HW.out.2.2.2.2.1)).trans HW.out.2.2.2.2.1
    have hb3 : w3.heap[q + 1]? = some (.cells #[.slice none 0 0] 22 (0, 0)) := (hk3.block _ (Nat.lt_of_lt_of_le (block_lt hb2') hb.size) (by simp; have := HW.out.2.2.2.1; omega)).trans ((hb.block _ (block_lt hb2')).trans hb2')
    have hBw : Below w.heap.size w w3 := by
      have h1 := HW.out.1.trans (HW.out.2.1.mono HW.out.1.size)
      have h3 := h1.trans (hb.mono h1.size)
      exact h3.trans (hk3.below h3.size (fun p hp => by simp at hp; have := HW.out.2.2.2.1; have := HW.out.2.2.2.2.2; omega))
    have g1 := block_cell (v := .slice none 0 0) 0 hb3 rfl
    have r1 := block_free 0 hb3
    have hK4 := keptX_set (ps := [q + 1]) (p := q + 1) (v := .slice none 0 0) w3 (by simp)
    have hb4 := setCell_block (i := 0) (u := .slice none 0 0) hb3
    have hB4 : Below w.heap.size w (w3.setCell ⟨q + 1, 0, none⟩ (.slice none 0 0)) := hBw.trans (hK4.below hBw.size (fun p hp => by simp at hp; have := HW.out.2.2.2.2.2; omega))
    have HF := show Hid (Below w.heap.size w (w3.setCell ⟨q + 1, 0, none⟩ (.slice none 0 0))) from hB4
    have HG := show Hid ((w3.setCell ⟨q + 1, 0, none⟩ (.slice none 0 0)).cell? ⟨q + 1, 0, none⟩ = some (.slice none 0 0)) from block_cell (v := .slice none 0 0) 0 hb4 rfl
    clear hRd hb2' hb3 hBw hK4 hb4 hB4 hk3 hb hR
    go_wp2_with fail
    generalize (w3.setCell ⟨q + 1, 0, none⟩ (.slice none 0 0)) = W5 at *
    have q0 := HG.out
    (try simp only [Exit.inBlock, Exit.then])
    refine bodyPost_ret (v := .tuple #[.slice none 0 0, .int .i64 (k : Int)]) (by simp [results, Try.results9, go_sem, q0]) rfl (by rw [HRR.out]; exact ⟨rfl, HF.out⟩)
end Go.Proofs.Ythdoginhbhdmbaa
