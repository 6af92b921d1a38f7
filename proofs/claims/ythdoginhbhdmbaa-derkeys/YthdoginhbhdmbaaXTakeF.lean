/-
  Package der: Take's closure.
-/
import Derived.Test.YthdoginhbhdmbaaXSplit
namespace Go.Proofs.Ythdoginhbhdmbaa
open Go.RowKit Ch
set_option maxRecDepth 100000

theorem KeptX.more {ps qs : List Nat} {w w' : World} (h : KeptX ps w w') (hs : ∀ p ∈ ps, p ∈ qs) : KeptX qs w w' := ⟨h.os, h.tape, h.output, h.size, fun k hk hn => h.block k hk (fun hm => hn (hs k hm))⟩
theorem keptX_at {ps : List Nat} {p i : Nat} {v : Value} (w : World) (h : p ∈ ps) : KeptX ps w (w.setCell ⟨p, i, none⟩ v) :=
  ⟨rfl, rfl, rfl, by simp, fun k _ hn => Below.heap_setCell _ _ _ _ (fun e => hn (e ▸ h))⟩
/-- Bytes in new memory. -/
def NewB (B : Nat) (w : World) (v : Value) (l : List UInt8) : Prop := ∃ y c, v = .slice y l.length c ∧ IsBytes w (.slice y l.length c) ⟨l.toArray⟩ ∧ ∀ k o, y = some ⟨k, o, none⟩ → B ≤ k
theorem NewB.kept {B : Nat} {ps : List Nat} {w w' : World} {v : Value} {l : List UInt8} (h : NewB B w v l) (hk : KeptX ps w w') (hp : ∀ p ∈ ps, p < B) : NewB B w' v l := by
  obtain ⟨y, c, h1, h2, h3⟩ := h
  have h4 : BytesOff ps w v l := ⟨y, c, h1, h2, fun b o _ hy hm => by have := h3 b o hy; have := hp b hm; omega⟩
  obtain ⟨y2, c2, h5, h6, _⟩ := h4.kept hk (fun k hk => hk)
  rw [h1] at h5
  simp only [Value.slice.injEq, true_and] at h5
  obtain ⟨rfl, rfl⟩ := h5
  exact ⟨y, c, h1, h6, h3⟩
/-- What Take's closure leaves. -/
def TakeFIs (pp pt n : Nat) (w : World) (r : Except Nat ((UInt8 × List UInt8) × List UInt8)) (e : Ending) (w' : World) : Prop := match r with
  | .error k => e = .panicked (PE k) ∧ Below w.heap.size w w'
  | .ok ((t, b), l) => e = .returned (.tuple #[]) ∧ (∃ bv, w'.heap[pp]? = some (.cells #[.int .u8 (t.toNat : Int), bv] 26 (0, 0)) ∧ NewB w.heap.size w' bv b) ∧ w'.heap[pt]? = some (.cells #[.int .i64 ((n : Int) - (l.length : Int))] 3 (0, 0)) ∧ KeptX [pp, pt] w w'
set_option maxHeartbeats 4000000 in
theorem xTakeF_any (pb pp pt : Nat) (x : Option Addr) (cx : Nat) (s : ByteArray) (w : World) (h1 : w.heap[pb]? = some (.cells #[.slice x s.size cx] 24 (0, 0))) (h2 : w.heap[pp]? = some (.cells #[.int .u8 0, .slice none 0 0] 26 (0, 0))) (h3 : w.heap[pt]? = some (.cells #[.int .i64 0] 3 (0, 0))) (hpt : pp ≠ pt) (hbp : pb ≠ pp)
    (hS : IsBytes w (.slice x s.size cx) s) (hs : s.size ≤ 1000000) :
    Calls Try.prog 42 #[.pointer (some ⟨pb, 0, none⟩), .pointer (some ⟨pp, 0, none⟩), .pointer (some ⟨pt, 0, none⟩)] w (TakeFIs pp pt s.size w (pieceL s.data.toList)) := by
  have hN := heap_push_at w (.cells #[.slice x s.size cx] 66)
  have hb0 : Below w.heap.size w (w.alloc (.cells #[.slice x s.size cx] 66)) := (Below.refl _ w).alloc (Nat.le_refl _) _
  have hsl : s.data.toList.length = s.size := len_eq s
  have hcx : s.size ≤ cx := by
    obtain ⟨_, _, e1, e2, _⟩ := hS
    simp only [Value.slice.injEq] at e1
    omega
  obtain ⟨W0, hW0⟩ : ∃ W, (w.alloc (.cells #[.slice x s.size cx] 66)) = W := ⟨_, rfl⟩
  rw [hW0] at hN hb0
  have hx0 : XRd w.heap.size s.data.toList W0 := ⟨x, cx, by rw [hsl]; exact hN, by rw [hsl]; exact hcx, w, Nat.le_refl _, by rw [hsl]; exact hS, hb0⟩
  have hP := xPiece_any w.heap.size s.data.toList W0 hx0 (by omega)
  have g1 := block_cell (v := .slice x s.size cx) 0 h1 rfl
  have HW := show Hid (w.heap[pb]? = some (.cells #[.slice x s.size cx] 24 (0, 0)) ∧ w.heap[pp]? = some (.cells #[.int .u8 0, .slice none 0 0] 26 (0, 0)) ∧ w.heap[pt]? = some (.cells #[.int .i64 0] 3 (0, 0)) ∧ Below w.heap.size w W0 ∧ pp ≠ pt ∧ pb ≠ pp) from ⟨h1, h2, h3, hb0, hpt, hbp⟩
  have HZ := show Hid (s.data.toList.length = s.size) from hsl
  have hrl := hx0.lt
  clear h1 h2 h3 hN hb0 hsl hcx hx0 hS hpt hbp
  obtain ⟨l0, hl0⟩ : ∃ l, s.data.toList = l := ⟨_, rfl⟩
  rw [hl0] at hP HZ ⊢
  cases hR : pieceL l0 with
  | error k =>
    rw [hR] at hP
    clear hR
    have HLT := show Hid (w.heap.size < W0.heap.size) from hrl
    go_enter Try.func42, Try.ntmps42
    go_wp2_with fail
    refine hP.mono ?_
    rintro e w1 ⟨rfl, hk⟩
    exact ⟨rfl, rfl, HW.out.2.2.2.1.trans (hk.one HLT.out)⟩
  | ok pq =>
    obtain ⟨⟨tt, bb⟩, q⟩ := pq
    have hback := (pieceL_back hR).1
    have hql : q.length ≤ l0.length := by
      have := congrArg List.length hback
      rw [List.length_append] at this
      omega
    rw [hR] at hP
    have HLT := show Hid (w.heap.size < W0.heap.size ∧ q.length ≤ s.size) from ⟨hrl, by have := HZ.out; omega⟩
    clear hR hback hql hrl
    go_enter Try.func42, Try.ntmps42
    go_wp2_with fail
    refine hP.mono ?_
    rintro e w1 ⟨⟨bv, rfl, yb, cb, rfl, hbI, hbF⟩, hx1, hk1⟩
    have hlt1 := HLT.out.1
    have kp : w1.heap[pp]? = some (.cells #[.int .u8 0, .slice none 0 0] 26 (0, 0)) := by
      have h5 := block_lt HW.out.2.1
      exact (hk1.block pp (by omega) (by simp; omega)).trans ((HW.out.2.2.2.1.block pp h5).trans HW.out.2.1)
    have kt : w1.heap[pt]? = some (.cells #[.int .i64 0] 3 (0, 0)) := by
      have h5 := block_lt HW.out.2.2.1
      exact (hk1.block pt (by omega) (by simp; omega)).trans ((HW.out.2.2.2.1.block pt h5).trans HW.out.2.2.1)
    have kb : w1.heap[pb]? = some (.cells #[.slice x s.size cx] 24 (0, 0)) := by
      have h5 := block_lt HW.out.1
      exact (hk1.block pb (by omega) (by simp; omega)).trans ((HW.out.2.2.2.1.block pb h5).trans HW.out.1)
    have hBw : Below w.heap.size w w1 := HW.out.2.2.2.1.trans (hk1.one hlt1)
    have hnb : NewB w.heap.size w1 (.slice yb bb.length cb) bb := ⟨yb, cb, rfl, hbI, fun k o hy => by have := hbF k o hy; omega⟩
    obtain ⟨yq, cq, hrb, _, _⟩ := id hx1
    have p0 := block_cell (v := .int .u8 0) 0 kp rfl
    have p1 := block_cell (v := .slice none 0 0) 1 kp rfl
    have fp0 := block_free 0 kp
    have fp1 := block_free 1 kp
    -- the world behind the piece's store
    have kp2 : ((w1.setCell ⟨pp, 0, none⟩ (.int .u8 (tt.toNat : Int))).setCell ⟨pp, 1, none⟩ (.slice yb bb.length cb)).heap[pp]? = some (.cells #[.int .u8 (tt.toNat : Int), .slice yb bb.length cb] 26 (0, 0)) := setCell_block (i := 1) (u := .slice yb bb.length cb) (setCell_block (i := 0) (u := .int .u8 (tt.toNat : Int)) kp)
    have hkk : KeptX [pp, pt] w1 ((w1.setCell ⟨pp, 0, none⟩ (.int .u8 (tt.toNat : Int))).setCell ⟨pp, 1, none⟩ (.slice yb bb.length cb)) := (keptX_at w1 (by simp)).trans (keptX_at _ (by simp))
    have hkk1 : KeptX [pp] w1 ((w1.setCell ⟨pp, 0, none⟩ (.int .u8 (tt.toNat : Int))).setCell ⟨pp, 1, none⟩ (.slice yb bb.length cb)) := (keptX_at w1 (by simp)).trans (keptX_at _ (by simp))
    obtain ⟨W2, hW2⟩ : ∃ W, ((w1.setCell ⟨pp, 0, none⟩ (.int .u8 (tt.toNat : Int))).setCell ⟨pp, 1, none⟩ (.slice yb bb.length cb)) = W := ⟨_, rfl⟩
    rw [hW2] at kp2 hkk hkk1
    have kt2 := (hkk1.block pt (block_lt kt) (by simp; exact fun h => HW.out.2.2.2.2.1 h.symm)).trans kt
    have kb2 := (hkk1.block pb (block_lt kb) (by simp; exact HW.out.2.2.2.2.2)).trans kb
    have krb2 := (hkk1.block w.heap.size (block_lt hrb) (by simp; have := block_lt HW.out.2.1; omega)).trans hrb
    have c1 := block_cell (v := .slice x s.size cx) 0 kb2 rfl
    have c2 := block_cell (v := .slice yq q.length cq) 0 krb2 rfl
    have c3 := block_cell (v := .int .i64 0) 0 kt2 rfl
    have f3 := block_free 0 kt2
    have hsub : IntKind.i64.wrap ((s.size : Int) - (q.length : Int)) = (s.size : Int) - (q.length : Int) := by
      have := HLT.out.2
      rw [IntKind.wrap_i64]
      omega
    have kt3 := setCell_block (i := 0) (u := .int .i64 ((s.size : Int) - (q.length : Int))) kt2
    have kp3 := block_other ⟨pt, 0, none⟩ (.int .i64 ((s.size : Int) - (q.length : Int))) kp2 HW.out.2.2.2.2.1
    have hk3 : KeptX [pp, pt] w1 (W2.setCell ⟨pt, 0, none⟩ (.int .i64 ((s.size : Int) - (q.length : Int)))) := hkk.trans (keptX_at _ (by simp))
    have hlp : ∀ p ∈ [pp, pt], p < w.heap.size := fun p hp => by
      simp at hp
      rcases hp with rfl | rfl
      · exact block_lt HW.out.2.1
      · exact block_lt HW.out.2.2.1
    have HF := show Hid (TakeFIs pp pt s.size w (.ok ((tt, bb), q)) (.returned (.tuple #[])) (W2.setCell ⟨pt, 0, none⟩ (.int .i64 ((s.size : Int) - (q.length : Int))))) from
      ⟨rfl, ⟨_, kp3, hnb.kept hk3 hlp⟩, kt3, (KeptX.of hBw).trans hk3⟩
    clear hP hbI hbF hx1 hk1 kp kt kb hBw hnb hrb kp2 hkk hkk1 kt2 kb2 krb2 kt3 kp3 hk3 hlp hlt1
    go_wp2_with fail
    go_end0
    exact HF.out
end Go.Proofs.Ythdoginhbhdmbaa
