/-
  Package der: the reader's piece.
-/
import Derived.Test.YthdoginhbhdmbaaXLen
import Derived.Handy
import Derived.Deep.WholeRow
namespace Go.Proofs.Ythdoginhbhdmbaa
open Go.RowKit Ch
set_option maxRecDepth 100000

theorem XRd.later {rb : Nat} {l : List UInt8} {W W' : World} (h : XRd rb l W) (hb : Below W.heap.size W W') : XRd rb l W' := by
  obtain ⟨y, c, h1, h2, h3⟩ := h
  exact ⟨y, c, (hb.block rb (block_lt h1)).trans h1, h2, h3.kept (KeptX.of hb)⟩
/-- Bytes that don't lie in these blocks. -/
def BytesOff (bs : List Nat) (w : World) (v : Value) (l : List UInt8) : Prop := ∃ y c, v = .slice y l.length c ∧ IsBytes w (.slice y l.length c) ⟨l.toArray⟩ ∧ ∀ b o, l.length ≠ 0 → y = some ⟨b, o, none⟩ → b ∉ bs
theorem BytesOff.kept {bs cs : List Nat} {w w' : World} {v : Value} {l : List UInt8} (h : BytesOff bs w v l) (hk : KeptX cs w w') (hc : ∀ k ∈ cs, k ∈ bs) : BytesOff bs w' v l := by
  obtain ⟨y, c, rfl, h1, h2⟩ := h
  refine ⟨y, c, rfl, ?_, h2⟩
  obtain ⟨a, cap, hv, hcc, hm, hr⟩ := h1
  refine ⟨a, cap, hv, hcc, hm, ?_⟩
  rcases hr with h3 | ⟨x, h3, h4⟩
  · exact .inl h3
  · refine .inr ⟨x, h3, ?_⟩
    by_cases h00 : l.length = 0
    · exact .inl (by rw [size_of_list]; exact h00)
    rcases h4 with h4 | ⟨b, o, h5, h6, h7⟩
    · exact .inl h4
    · refine .inr ⟨b, o, h5, Nat.lt_of_lt_of_le h6 hk.size, fun i hi => ?_⟩
      have hb : b ∉ bs := by
        simp only [Value.slice.injEq] at hv
        exact h2 b o h00 (by rw [hv.1, h3, h5])
      have e : w'.cell? ⟨b, o + i, none⟩ = w.cell? ⟨b, o + i, none⟩ := by
        unfold World.cell?
        rw [hk.block b h6 (fun h => hb (hc b h))]
      rw [e]
      exact h7 i hi
theorem BytesOff.is {bs : List Nat} {w : World} {v : Value} {l : List UInt8} (h : BytesOff bs w v l) : IsBytes w v ⟨l.toArray⟩ := by
  obtain ⟨y, c, rfl, h1, _⟩ := h
  exact h1
theorem KeptX.new {ps : List Nat} {w u : World} {q i : Nat} {v : Value} (h : KeptX ps w u) (hq : w.heap.size ≤ q) : KeptX ps w (u.setCell ⟨q, i, none⟩ v) :=
  ⟨h.os, h.tape, h.output, by have := h.size; simpa using this, fun k hk hn => (Below.heap_setCell _ _ _ _ (by show k ≠ q; omega)).trans (h.block k hk hn)⟩
theorem keptX_put (w : World) (q i : Nat) (v : Value) : KeptX [q] w (w.setCell ⟨q, i, none⟩ v) :=
  ⟨rfl, rfl, rfl, by simp, fun k _ hn => Below.heap_setCell _ _ _ _ (by simp at hn; exact hn)⟩
theorem XRd.put {rb q i : Nat} {l : List UInt8} {W : World} {v : Value} (h : XRd rb l W) (hq : rb < q) : XRd rb l (W.setCell ⟨q, i, none⟩ v) := by
  obtain ⟨y, c, h1, h2, W0, h3, h4, h5⟩ := h
  refine ⟨y, c, block_other ⟨q, i, none⟩ v h1 (by show rb ≠ q; omega), h2, W0, h3, h4, h5.trans ?_⟩
  exact (keptX_put W q i v).below h5.size (fun p hp => by simp at hp; omega)
/-- What piece answers. -/
def PieceIs (rb : Nat) (w : World) (r : Except Nat ((UInt8 × List UInt8) × List UInt8)) (e : Ending) (w' : World) : Prop := match r with
  | .error k => e = .panicked (PE k) ∧ KeptX [rb] w w'
  | .ok ((t, b), l) => (∃ v, e = .returned (.agg #[.int .u8 (t.toNat : Int), v]) ∧ (∃ y c, v = .slice y b.length c ∧ IsBytes w' v ⟨b.toArray⟩ ∧ ∀ k o, y = some ⟨k, o, none⟩ → w.heap.size ≤ k)) ∧ XRd rb l w' ∧ KeptX [rb] w w'
set_option maxHeartbeats 4000000 in
theorem xPiece_any (rb : Nat) (l : List UInt8) (w : World) (h : XRd rb l w) (hl : l.length ≤ 1000000) :
    Calls Try.prog 43 #[.pointer (some ⟨rb, 0, none⟩)] w (PieceIs rb w (pieceL l)) := by
  obtain ⟨w0, hw0⟩ : ∃ u, w.alloc (.cells #[.int .u8 0, .slice none 0 0] 26) = u := ⟨_, rfl⟩
  have hN := heap_push_at w (.cells #[.int .u8 0, .slice none 0 0] 26)
  have hb0 : Below w.heap.size w w0 := by rw [← hw0]; exact (Below.refl _ w).alloc (Nat.le_refl _) _
  rw [hw0] at hN
  have hlt := h.lt
  have h0 := h.later hb0
  obtain ⟨q, hq⟩ : ∃ q, w.heap.size = q := ⟨_, rfl⟩
  have HQ := show Hid (rb < q ∧ w0.heap[q]? = some (.cells #[.int .u8 0, .slice none 0 0] 26 (0, 0)) ∧ KeptX [rb] w w0 ∧ w.heap.size = q) from ⟨by omega, by rw [← hq]; exact hN, KeptX.of hb0, hq⟩
  clear h hN hlt hb0
  cases l with
  | nil =>
    have h1 := show Calls Try.prog 57 #[.pointer (some ⟨rb, 0, none⟩), .int .i64 1] w0 _ from xNext_err rb [] 1 w0 h0 (by decide)
    clear h0
    go_enter Try.func43, Try.ntmps43
    go_wp2_with fail
    refine h1.mono ?_
    rintro e w1 ⟨rfl, hk⟩
    exact ⟨rfl, rfl, HQ.out.2.2.1.trans hk⟩
  | cons t r =>
    have h1 := show Calls Try.prog 57 #[.pointer (some ⟨rb, 0, none⟩), .int .i64 1] w0 _ from xNext_ok rb (t :: r) 1 w0 h0 (by simp)
    have e1 : (t :: r).take 1 = [t] := rfl
    have e2 : (t :: r).drop 1 = r := rfl
    rw [e1, e2] at h1
    have hrl : r.length ≤ 1000000 := by simp at hl; omega
    have HL := show Hid (pieceL (t :: r) = if t.toNat % 32 = 31 then .error 10 else match lenL r with
      | .error k => .error k
      | .ok (n, s) => if s.length < n then .error 11 else .ok ((t, s.take n), s.drop n)) from rfl
    obtain ⟨R, hR⟩ : ∃ R, pieceL (t :: r) = R := ⟨_, rfl⟩
    rw [hR] at HL ⊢
    clear h0 e1 e2 hR hl
    have hT := xIsTag_any t
    by_cases c1 : t.toNat % 32 = 31
    · have hd : decide (t.toNat % 32 ≠ 31) = false := by simp [c1]
      rw [hd] at hT
      have HR := show Hid (R = .error 10) from by unfold Hid; rw [HL.out, if_pos c1]
      have hR := xNeed_err 10
      clear c1 hd HL
      go_enter Try.func43, Try.ntmps43
      go_wp2_with fail
      refine h1.mono ?_
      rintro e w1 ⟨⟨y, c, rfl, _, hs⟩, hx, hk⟩
      obtain ⟨b, o, rfl, gx⟩ := src_first hs
      have HF := show Hid (KeptX [rb] w w1) from HQ.out.2.2.1.trans hk
      clear hs hx hk h1
      go_wp2_with fail
      refine (hT _).mono ?_
      rintro e w2 ⟨rfl, rfl⟩
      go_wp2_with fail
      refine (hR _).mono ?_
      rintro e w3 ⟨rfl, rfl⟩
      rw [HR.out]
      exact ⟨rfl, rfl, HF.out⟩
    · have hd : decide (t.toNat % 32 ≠ 31) = true := by simp [c1]
      rw [hd] at hT
      have HL2 := show Hid (R = match lenL r with
        | .error k => .error k
        | .ok (n, s) => if s.length < n then .error 11 else .ok ((t, s.take n), s.drop n)) from by unfold Hid; rw [HL.out, if_neg c1]
      have hR := xNeed_ok 10
      clear c1 hd HL
      go_enter Try.func43, Try.ntmps43
      go_wp2_with fail
      refine h1.mono ?_
      rintro e w1 ⟨⟨y, c, rfl, _, hs⟩, hx, hk⟩
      obtain ⟨b, o, rfl, gx⟩ := src_first hs
      have hLen := xLength_any rb r w1 hx
      have HF := show Hid (KeptX [rb] w0 w1) from hk
      clear hs hx hk h1
      go_wp2_with fail
      refine (hT _).mono ?_
      rintro e w2 ⟨rfl, rfl⟩
      go_wp2_with fail
      refine (hR _).mono ?_
      rintro e w3 ⟨rfl, rfl⟩
      clear hT hR gx
      go_wp2_with fail
      refine hLen.mono ?_
      intro e w4 hLI
      cases hlr : lenL r with
      | error k =>
        rw [hlr] at hLI HL2
        have HR := show Hid (R = .error k) from HL2.out
        obtain ⟨rfl, hk4⟩ := hLI
        clear HL2 hlr hLen
        rw [HR.out]
        exact ⟨rfl, rfl, (HQ.out.2.2.1.trans HF.out).trans hk4⟩
      | ok yy =>
        obtain ⟨n, s⟩ := yy
        rw [hlr] at hLI HL2
        have HL3 := show Hid (R = if s.length < n then .error 11 else .ok ((t, s.take n), s.drop n)) from HL2.out
        obtain ⟨rfl, hx4, hk4⟩ := hLI
        have HF4 := show Hid (KeptX [rb] w0 w4) from HF.out.trans hk4
        clear HL2 hLen hk4 HF
        by_cases c2 : s.length < n
        · have h2 := xNext_err rb s n w4 hx4 c2
          have HR := show Hid (R = .error 11) from by unfold Hid; rw [HL3.out, if_pos c2]
          clear c2 HL3 hx4 hlr
          go_wp2_with fail
          refine h2.mono ?_
          rintro e w5 ⟨rfl, hk5⟩
          rw [HR.out]
          exact ⟨rfl, rfl, (HQ.out.2.2.1.trans HF4.out).trans hk5⟩
        · have h2 := xNext_ok rb s n w4 hx4 (by omega)
          have HR := show Hid (R = .ok ((t, s.take n), s.drop n)) from by unfold Hid; rw [HL3.out, if_neg c2]
          have hsl : n ≤ 1000000 := by
            have := (lenL_back hlr).1
            have h9 := congrArg List.length this
            rw [List.length_append] at h9
            omega
          have hsl2 : (s.take n).length = n := by rw [List.length_take]; omega
          clear c2 HL3 hx4 hlr
          go_wp2_with fail
          refine h2.mono ?_
          rintro e w5 ⟨⟨y5, c5, rfl, _, hs5⟩, hx5, hk5⟩
          obtain ⟨bl, hbl⟩ : ∃ bl, s.take n = bl := ⟨_, rfl⟩
          rw [hbl] at hs5 HR hsl2
          have hz : (⟨bl.toArray⟩ : ByteArray).size = n := by rw [size_of_list]; exact hsl2
          have hC := cBytesClone_any y5 n c5 ⟨bl.toArray⟩ w5 hs5.is hz.symm (by rw [hz]; exact hsl)
          have HX5 := show Hid (XRd rb (s.drop n) w5 ∧ KeptX [rb] w0 w5) from ⟨hx5, HF4.out.trans hk5⟩
          clear h2 hs5 hx5 hk5 hbl HF4
          go_wp2_with fail
          refine hC.mono ?_
          rintro e w6 ⟨v6, rfl, ho6, hb6⟩
          have hI6 := own_bytes (s := ⟨bl.toArray⟩) ho6
          rw [hz] at ho6
          obtain ⟨y6, c6, rfl⟩ := own_shape ho6
          have hFr := show Hid (∀ k o, y6 = some ⟨k, o, none⟩ → w5.heap.size ≤ k) from fun k o hy => by
            rcases ho6.2 with ⟨h9, _⟩ | ⟨g9, _, _, h9, h10, _⟩
            · simp only [Value.slice.injEq] at h9
              rw [h9.1] at hy
              cases hy
            · simp only [Value.slice.injEq] at h9
              rw [h9.1] at hy
              simp only [Option.some.injEq, Addr.mk.injEq] at hy
              omega
          have hq6 : w6.heap[q]? = some (.cells #[.int .u8 0, .slice none 0 0] 26 (0, 0)) := by
            have h11 := (HX5.out.2.block q (block_lt HQ.out.2.1) (by simp; have := HQ.out.1; omega)).trans HQ.out.2.1
            exact (hb6.block q (block_lt h11)).trans h11
          have g0 := block_cell (v := .int .u8 0) 0 hq6 rfl
          have g1 := block_cell (v := .slice none 0 0) 1 hq6 rfl
          have r0 := block_free 0 hq6
          have r1 := block_free 1 hq6
          clear hC ho6
          go_wp2_with fail
          have hq7 : ((w6.setCell ⟨q, 0, none⟩ (.int .u8 (t.toNat : Int))).setCell ⟨q, 1, none⟩ (.slice y6 n c6)).heap[q]? = some (.cells #[.int .u8 (t.toNat : Int), .slice y6 n c6] 26 (0, 0)) := setCell_block (i := 1) (u := .slice y6 n c6) (setCell_block (i := 0) (u := .int .u8 (t.toNat : Int)) hq6)
          have hx7 : XRd rb (s.drop n) ((w6.setCell ⟨q, 0, none⟩ (.int .u8 (t.toNat : Int))).setCell ⟨q, 1, none⟩ (.slice y6 n c6)) := ((HX5.out.1.later hb6).put HQ.out.1).put HQ.out.1
          have hk7 : KeptX [rb] w ((w6.setCell ⟨q, 0, none⟩ (.int .u8 (t.toNat : Int))).setCell ⟨q, 1, none⟩ (.slice y6 n c6)) := (((HQ.out.2.2.1.trans HX5.out.2).trans (KeptX.of hb6)).new (by rw [HQ.out.2.2.2]; exact Nat.le_refl _)).new (by rw [HQ.out.2.2.2]; exact Nat.le_refl _)
          have hq5 : q < w5.heap.size := by
            have h11 := HX5.out.2.size
            have h12 := block_lt HQ.out.2.1
            omega
          have hi7 : IsBytes ((w6.setCell ⟨q, 0, none⟩ (.int .u8 (t.toNat : Int))).setCell ⟨q, 1, none⟩ (.slice y6 n c6)) (.slice y6 n c6) ⟨bl.toArray⟩ := by
            have h13 : BytesOff [q] w6 (.slice y6 n c6) bl := ⟨y6, c6, by rw [hsl2], by rw [hsl2]; exact hI6, fun b' o' _ hy => by
              have := hFr.out b' o' hy
              simp
              omega⟩
            exact ((h13.kept (keptX_put w6 q 0 _) (fun _ h => h)).kept (keptX_put _ q 1 _) (fun _ h => h)).is
          have HP := show Hid (PieceIs rb w R (.returned (.agg #[.int .u8 (t.toNat : Int), .slice y6 n c6])) ((w6.setCell ⟨q, 0, none⟩ (.int .u8 (t.toNat : Int))).setCell ⟨q, 1, none⟩ (.slice y6 n c6))) from by
            unfold Hid
            rw [HR.out]
            refine ⟨⟨_, rfl, y6, c6, by rw [hsl2], hi7, fun k' o' hy => ?_⟩, hx7, hk7⟩
            have h14 := hFr.out k' o' hy
            have h15 := HQ.out.2.2.2
            omega
          generalize ((w6.setCell ⟨q, 0, none⟩ (.int .u8 (t.toNat : Int))).setCell ⟨q, 1, none⟩ (.slice y6 n c6)) = W7 at *
          have k0 := block_cell (v := .int .u8 (t.toNat : Int)) 0 hq7 rfl
          have k1 := block_cell (v := .slice y6 n c6) 1 hq7 rfl
          clear hx7 hk7 hi7 hFr hI6 hb6 g0 g1 r0 r1 hq6
          (try simp only [Exit.inBlock, Exit.then])
          refine bodyPost_ret (v := .agg #[.int .u8 (t.toNat : Int), .slice y6 n c6]) ?_ rfl HP.out
          simp [results, Try.results43, go_sem, k0, k1]
end Go.Proofs.Ythdoginhbhdmbaa
