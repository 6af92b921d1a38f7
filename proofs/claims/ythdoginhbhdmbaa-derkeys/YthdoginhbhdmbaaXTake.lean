/-
  Package der: Take.
-/
import Derived.Test.YthdoginhbhdmbaaXTakeF
namespace Go.Proofs.Ythdoginhbhdmbaa
open Go.RowKit Ch
set_option maxRecDepth 100000

/-- What Take answers. -/
def TakeIs (n : Nat) (w : World) (r : Except Nat ((UInt8 × List UInt8) × List UInt8)) (e : Ending) (w' : World) : Prop := match r with
  | .error k => e = .returned (.tuple #[.agg #[.int .u8 0, .slice none 0 0], .int .i64 0, .int .i64 (k : Int)]) ∧ Below w.heap.size w w'
  | .ok ((t, b), l) => (∃ y c, e = .returned (.tuple #[.agg #[.int .u8 (t.toNat : Int), .slice y b.length c], .int .i64 ((n : Int) - (l.length : Int)), .int .i64 0]) ∧ IsBytes w' (.slice y b.length c) ⟨b.toArray⟩) ∧ Below w.heap.size w w'
/-- The boxes of Take. -/
structure Boxes (w W2 : World) (q : Nat) (x : Option Addr) (n cx : Nat) : Prop where
  below : Below w.heap.size w W2
  size : w.heap.size = q
  size2 : W2.heap.size = q + 1 + 1 + 1
  b : W2.heap[q]? = some (.cells #[.slice x n cx] 24 (0, 0))
  p : W2.heap[q + 1]? = some (.cells #[.int .u8 0, .slice none 0 0] 26 (0, 0))
  t : W2.heap[q + 1 + 1]? = some (.cells #[.int .i64 0] 3 (0, 0))
theorem boxes_made (w : World) (x : Option Addr) (n cx : Nat) : Boxes w (((w.alloc (.cells #[.slice x n cx] 24)).alloc (.cells #[.int .u8 0, .slice none 0 0] 26)).alloc (.cells #[.int .i64 0] 3)) w.heap.size x n cx := by
  have hal : ∀ (u : World) (o : Obj), Below u.heap.size u (u.alloc o) := fun u o => (Below.refl _ u).alloc (Nat.le_refl _) _
  have hz1 : (w.alloc (.cells #[.slice x n cx] 24)).heap.size = w.heap.size + 1 := by simp
  have hz2 : ((w.alloc (.cells #[.slice x n cx] 24)).alloc (.cells #[.int .u8 0, .slice none 0 0] 26)).heap.size = w.heap.size + 1 + 1 := by simp
  have b1 := heap_push_at w (.cells #[.slice x n cx] 24)
  have b2 := heap_push_at (w.alloc (.cells #[.slice x n cx] 24)) (.cells #[.int .u8 0, .slice none 0 0] 26)
  have b3 := heap_push_at ((w.alloc (.cells #[.slice x n cx] 24)).alloc (.cells #[.int .u8 0, .slice none 0 0] 26)) (.cells #[.int .i64 0] 3)
  rw [hz1] at b2
  rw [hz2] at b3
  have h12 := (hal w (.cells #[.slice x n cx] 24)).trans ((hal (w.alloc (.cells #[.slice x n cx] 24)) (.cells #[.int .u8 0, .slice none 0 0] 26)).mono (by rw [hz1]; omega))
  exact ⟨h12.trans ((hal _ _).mono (by rw [hz2]; omega)), rfl, by simp, block_alloc _ (block_alloc _ b1), block_alloc _ b2, b3⟩
theorem take_end {w w3 : World} {q : Nat} {a0 b0 c0 : Value} (a b c : Value) (hp : w3.heap[q + 1]? = some (.cells #[a0, b0] 26 (0, 0))) (ht : w3.heap[q + 1 + 1]? = some (.cells #[c0] 3 (0, 0))) (hB : Below w.heap.size w w3) (hq : w.heap.size = q) :
    ((((w3.setCell ⟨q + 1, 0, none⟩ a).setCell ⟨q + 1, 1, none⟩ b).setCell ⟨q + 1 + 1, 0, none⟩ c).drew.cell? ⟨q + 1, 0, none⟩ = some a ∧ (((w3.setCell ⟨q + 1, 0, none⟩ a).setCell ⟨q + 1, 1, none⟩ b).setCell ⟨q + 1 + 1, 0, none⟩ c).drew.cell? ⟨q + 1, 1, none⟩ = some b ∧ (((w3.setCell ⟨q + 1, 0, none⟩ a).setCell ⟨q + 1, 1, none⟩ b).setCell ⟨q + 1 + 1, 0, none⟩ c).drew.cell? ⟨q + 1 + 1, 0, none⟩ = some c) ∧ Below w.heap.size w (((w3.setCell ⟨q + 1, 0, none⟩ a).setCell ⟨q + 1, 1, none⟩ b).setCell ⟨q + 1 + 1, 0, none⟩ c).drew ∧ KeptX [q + 1, q + 1 + 1] w3 (((w3.setCell ⟨q + 1, 0, none⟩ a).setCell ⟨q + 1, 1, none⟩ b).setCell ⟨q + 1 + 1, 0, none⟩ c).drew := by
  have h1 : ((w3.setCell ⟨q + 1, 0, none⟩ a).setCell ⟨q + 1, 1, none⟩ b).heap[q + 1]? = some (.cells #[a, b] 26 (0, 0)) := setCell_block (i := 1) (u := b) (setCell_block (i := 0) (u := a) hp)
  have h2 := block_other ⟨q + 1, 1, none⟩ b (block_other ⟨q + 1, 0, none⟩ a ht (by show q + 1 + 1 ≠ q + 1; omega)) (by show q + 1 + 1 ≠ q + 1; omega)
  have h3 := block_other ⟨q + 1 + 1, 0, none⟩ c h1 (by show q + 1 ≠ q + 1 + 1; omega)
  have h4 := setCell_block (i := 0) (u := c) h2
  have hk : KeptX [q + 1, q + 1 + 1] w3 (((w3.setCell ⟨q + 1, 0, none⟩ a).setCell ⟨q + 1, 1, none⟩ b).setCell ⟨q + 1 + 1, 0, none⟩ c) := ((keptX_at w3 (by simp)).trans (keptX_at _ (by simp))).trans (keptX_at _ (by simp))
  have hd := keptX_drew hk
  generalize (((w3.setCell ⟨q + 1, 0, none⟩ a).setCell ⟨q + 1, 1, none⟩ b).setCell ⟨q + 1 + 1, 0, none⟩ c) = W at *
  have k3 : W.drew.heap[q + 1]? = some (.cells #[a, b] 26 (0, 0)) := h3
  have k4 : W.drew.heap[q + 1 + 1]? = some (.cells #[c] 3 (0, 0)) := h4
  exact ⟨⟨block_cell 0 k3 rfl, block_cell 1 k3 rfl, block_cell 0 k4 rfl⟩, hB.trans (hd.below hB.size (fun p hp => by simp at hp; omega)), hd⟩
set_option maxHeartbeats 8000000 in
theorem xTake_any (x : Option Addr) (cx : Nat) (s : ByteArray) (w : World) (hS : IsBytes w (.slice x s.size cx) s) (hs : s.size ≤ 1000000) :
    Calls Try.prog 19 #[.slice x s.size cx] w (TakeIs s.size w (pieceL s.data.toList)) := by
  have hmf : ∀ (fn : Fn) (first cap : Array Value) (w : World), (Instr.makeFunc fn first cap).run Try.prog w = .ok (.func fn first cap) w := fun _ _ _ _ => rfl
  obtain ⟨W2, hW2⟩ : ∃ W, (((w.alloc (.cells #[.slice x s.size cx] 24)).alloc (.cells #[.int .u8 0, .slice none 0 0] 26)).alloc (.cells #[.int .i64 0] 3)) = W := ⟨_, rfl⟩
  have hBx := boxes_made w x s.size cx
  rw [hW2] at hBx
  obtain ⟨q, hq⟩ : ∃ q, w.heap.size = q := ⟨_, rfl⟩
  rw [hq] at hBx
  have hE : Below W2.heap.size W2 (errBox W2) := (Below.refl _ W2).alloc (Nat.le_refl _) _
  have b4 := heap_push_at W2 (.cells #[.int .i64 0] 28)
  have hF := xTakeF_any q (q + 1) (q + 1 + 1) x cx s (errBox W2) (block_alloc _ hBx.b) (block_alloc _ hBx.p) (block_alloc _ hBx.t) (by omega) (by omega) ((hS.later hBx.below).later hE) hs
  have HB := show Hid (Boxes w W2 q x s.size cx ∧ Below W2.heap.size W2 (errBox W2) ∧ (errBox W2).heap[W2.heap.size]? = some (.cells #[.int .i64 0] 28 (0, 0))) from ⟨hBx, hE, b4⟩
  have hRd := xReading_any 42 #[.pointer (some ⟨q, 0, none⟩), .pointer (some ⟨q + 1, 0, none⟩), .pointer (some ⟨q + 1 + 1, 0, none⟩)] W2
    (fun u => ∃ p l, pieceL s.data.toList = .ok (p, l) ∧ TakeFIs (q + 1) (q + 1 + 1) s.size (errBox W2) (.ok (p, l)) (.returned (.tuple #[])) u)
    (fun k u => pieceL s.data.toList = .error k ∧ Below (errBox W2).heap.size (errBox W2) u)
    (enters_of Try.func42 (by kernel_rfl) rfl)
    (hF.mono fun e u h => by
      cases hR : pieceL s.data.toList with
      | error k =>
        rw [hR] at h
        exact .inr ⟨k, h.1, rfl, h.2⟩
      | ok pl =>
        obtain ⟨⟨t, b⟩, l⟩ := pl
        rw [hR] at h
        obtain ⟨h1, h2⟩ := h
        exact .inl ⟨h1, (t, b), l, rfl, rfl, h2⟩)
    (fun u h => by
      obtain ⟨⟨t, b⟩, l, _, _, _, _, hk⟩ := h
      exact (hk.block _ (block_lt HB.out.2.2) (by simp; have := HB.out.1.size2; omega)).trans HB.out.2.2)
    (fun k u h => (h.2.block _ (block_lt HB.out.2.2)).trans HB.out.2.2)
  clear hF hBx hE b4 hS
  go_enter Try.func19, Try.ntmps19
  go_wp2_with fail
  refine hRd.mono ?_
  rintro e w3 (⟨rfl, u, ⟨⟨t, b⟩, l, hR, _, ⟨bv, hbp, hnb⟩, hbt, hk⟩, hk3⟩ | ⟨k, rfl, u, ⟨hR, hb⟩, hk3⟩)
  · have HRR := show Hid (pieceL s.data.toList = .ok ((t, b), l)) from hR
    have hz2 := HB.out.1.size2
    have hq := HB.out.1.size
    have hez : (errBox W2).heap.size = W2.heap.size + 1 := by simp [errBox]
    have hp3 := (hk3.block (q + 1) (block_lt hbp) (by simp; omega)).trans hbp
    have ht3 := (hk3.block (q + 1 + 1) (block_lt hbt) (by simp; omega)).trans hbt
    have hn3 := hnb.kept hk3 (fun p hp => by simp at hp; omega)
    have hBw : Below w.heap.size w w3 := by
      have h1 := HB.out.1.below.trans (HB.out.2.1.mono HB.out.1.below.size)
      have h2 := h1.trans (hk.below (B := w.heap.size) h1.size (fun p hp => by simp at hp; omega))
      exact h2.trans (hk3.below h2.size (fun p hp => by simp at hp; omega))
    obtain ⟨y, c, rfl, hI, hfr⟩ := hn3
    have c0 := block_cell (v := .int .u8 (t.toNat : Int)) 0 hp3 rfl
    have c1 := block_cell (v := .slice y b.length c) 1 hp3 rfl
    have c2 := block_cell (v := .int .i64 ((s.size : Int) - (l.length : Int))) 0 ht3 rfl
    have f0 := block_free 0 hp3
    have f1 := block_free 1 hp3
    have f2 := block_free 0 ht3
    have HN := show Hid (NewB (q + 1 + 1 + 1) w3 (.slice y b.length c) b ∧ Below w.heap.size w w3 ∧ w3.heap[q + 1]? = some (.cells #[.int .u8 (t.toNat : Int), .slice y b.length c] 26 (0, 0)) ∧ w3.heap[q + 1 + 1]? = some (.cells #[.int .i64 ((s.size : Int) - (l.length : Int))] 3 (0, 0)) ∧ w.heap.size = q) from ⟨⟨y, c, rfl, hI, fun k o hy => by have := hfr k o hy; omega⟩, hBw, hp3, ht3, hq⟩
    obtain ⟨z, hz⟩ : ∃ z : Int, (s.size : Int) - (l.length : Int) = z := ⟨_, rfl⟩
    have HZ := show Hid ((s.size : Int) - (l.length : Int) = z) from hz
    rw [hz] at c2 HN
    clear hRd hnb hk hk3 hbp hbt hp3 ht3 hBw hI hfr hR hz hez hz2
    go_wp2_with fail
    have HE := show Hid (_ ∧ _) from take_end (.int .u8 (t.toNat : Int)) (.slice y b.length c) (.int .i64 z) HN.out.2.2.1 HN.out.2.2.2.1 HN.out.2.1 HN.out.2.2.2.2
    go_region
    generalize (((w3.setCell ⟨q + 1, 0, none⟩ (.int .u8 (t.toNat : Int))).setCell ⟨q + 1, 1, none⟩ (.slice y b.length c)).setCell ⟨q + 1 + 1, 0, none⟩ (.int .i64 z)).drew = W5 at *
    obtain ⟨⟨q0, q1, q2⟩, hB5, hk5⟩ := HE.out
    have HF := show Hid (TakeIs s.size w (pieceL s.data.toList) (.returned (.tuple #[.agg #[.int .u8 (t.toNat : Int), .slice y b.length c], .int .i64 z, .int .i64 0])) W5) from by
      unfold Hid
      rw [HRR.out, ← HZ.out]
      obtain ⟨y5, c5, h6, h7, _⟩ := HN.out.1.kept hk5 (fun p hp => by simp at hp; omega)
      simp only [Value.slice.injEq, true_and] at h6
      obtain ⟨rfl, rfl⟩ := h6
      exact ⟨⟨_, _, rfl, h7⟩, hB5⟩
    clear HE hk5 hB5 HN
    go_wp2_with fail
    (try simp only [Exit.inBlock, Exit.then])
    refine bodyPost_ret (v := .tuple #[.agg #[.int .u8 (t.toNat : Int), .slice y b.length c], .int .i64 z, .int .i64 0]) (by simp [results, Try.results19, go_sem, q0, q1, q2]) rfl HF.out
  · have HRR := show Hid (pieceL s.data.toList = .error k) from hR
    have hz2 := HB.out.1.size2
    have hq := HB.out.1.size
    have hez : (errBox W2).heap.size = W2.heap.size + 1 := by simp [errBox]
    have hp2 := (HB.out.2.1.block _ (block_lt HB.out.1.p)).trans HB.out.1.p
    have ht2 := (HB.out.2.1.block _ (block_lt HB.out.1.t)).trans HB.out.1.t
    have hp3 := (hk3.block (q + 1) (Nat.lt_of_lt_of_le (block_lt hp2) hb.size) (by simp; omega)).trans ((hb.block _ (block_lt hp2)).trans hp2)
    have ht3 := (hk3.block (q + 1 + 1) (Nat.lt_of_lt_of_le (block_lt ht2) hb.size) (by simp; omega)).trans ((hb.block _ (block_lt ht2)).trans ht2)
    have hBw : Below w.heap.size w w3 := by
      have h1 := HB.out.1.below.trans (HB.out.2.1.mono HB.out.1.below.size)
      have h2 := h1.trans (hb.mono h1.size)
      exact h2.trans (hk3.below h2.size (fun p hp => by simp at hp; omega))
    have c0 := block_cell (v := .int .u8 0) 0 hp3 rfl
    have c1 := block_cell (v := .slice none 0 0) 1 hp3 rfl
    have c2 := block_cell (v := .int .i64 0) 0 ht3 rfl
    have f0 := block_free 0 hp3
    have f1 := block_free 1 hp3
    have f2 := block_free 0 ht3
    have HE := show Hid (_ ∧ _) from take_end (.int .u8 0) (.slice none 0 0) (.int .i64 0) hp3 ht3 hBw hq
    clear hRd hb hk3 hp2 ht2 hp3 ht3 hBw hR hez hz2
    go_wp2_with fail
    go_region
    generalize (((w3.setCell ⟨q + 1, 0, none⟩ (.int .u8 0)).setCell ⟨q + 1, 1, none⟩ (.slice none 0 0)).setCell ⟨q + 1 + 1, 0, none⟩ (.int .i64 0)).drew = W5 at *
    obtain ⟨⟨q0, q1, q2⟩, hB5, _⟩ := HE.out
    have HF := show Hid (TakeIs s.size w (pieceL s.data.toList) (.returned (.tuple #[.agg #[.int .u8 0, .slice none 0 0], .int .i64 0, .int .i64 (k : Int)])) W5) from by
      unfold Hid
      rw [HRR.out]
      exact ⟨rfl, hB5⟩
    clear HE hB5
    go_wp2_with fail
    (try simp only [Exit.inBlock, Exit.then])
    refine bodyPost_ret (v := .tuple #[.agg #[.int .u8 0, .slice none 0 0], .int .i64 0, .int .i64 (k : Int)]) (by simp [results, Try.results19, go_sem, q0, q1, q2]) rfl HF.out
end Go.Proofs.Ythdoginhbhdmbaa
