/-
  Package der: ParseInfo of what Info made.
  Package der: keyForm of what Cert made.
  Package der: FromCert of what Cert made.
-/
import Derived.Test.YthdoginhbhdmbaaXKeyW
namespace Go.Proofs.Ythdoginhbhdmbaa
open Go.RowKit Ch
set_option maxRecDepth 100000

set_option maxHeartbeats 8000000 in
theorem xParseInfoF_ok (pb pk : Nat) (x : Option Addr) (nB cx : Nat) (N E : List UInt8) (w : World) (h1 : w.heap[pb]? = some (.cells #[.slice x nB cx] 24 (0, 0))) (h2 : w.heap[pk]? = some (.cells #[.slice none 0 0, .slice none 0 0, .slice none 0 0] 36 (0, 0))) (hS : IsBytes w (.slice x nB cx) ⟨(infoL N E).toArray⟩) (zN : N.length ≤ 10000) (zE : E.length ≤ 10000) (bN : bareL N ≠ []) (bE : bareL E ≠ []) (hr : rightP (bareL N) (bareL E) []) :
    Calls Try.prog 36 #[.pointer (some ⟨pb, 0, none⟩), .pointer (some ⟨pk, 0, none⟩)] w fun e w' => e = .returned (.tuple #[]) ∧ ∃ y k c y2 k2 c2, w'.heap[pk]? = some (.cells #[.slice y k c, .slice y2 k2 c2, .slice none 0 0] 36 (0, 0)) ∧ IsBytes w' (.slice y k c) ⟨(bareL N).toArray⟩ ∧ IsBytes w' (.slice y2 k2 c2) ⟨(bareL E).toArray⟩ ∧ KeptX [pk] w w' := by
  have c0 := block_cell (v := .slice x nB cx) 0 h1 rfl
  have HK := show Hid (w.heap[pk]? = some (.cells #[.slice none 0 0, .slice none 0 0, .slice none 0 0] 36 (0, 0))) from h2
  have HZ := show Hid (N.length ≤ 10000 ∧ E.length ≤ 10000 ∧ bareL N ≠ [] ∧ bareL E ≠ [] ∧ rightP (bareL N) (bareL E) []) from ⟨zN, zE, bN, bE, hr⟩
  obtain ⟨W1, hW1⟩ : ∃ W, w.alloc (.cells #[.int .u8 48] 5) = W := ⟨_, rfl⟩
  have b1 : Below w.heap.size w W1 := by rw [← hW1]; exact alB _ _
  have i1 : IsBytes W1 (.slice (some ⟨w.heap.size, 0, none⟩) 1 1) ⟨([48] : List UInt8).toArray⟩ := by rw [← hW1]; exact litM w ⟨#[48]⟩ _ _ rfl (show (1 : Nat) ≤ maxLen by unfold maxLen; decide)
  have hO := show Calls Try.prog 38 #[.slice x nB cx, .slice (some ⟨w.heap.size, 0, none⟩) 1 1] W1 _ from xOnly_ok (.slice x nB cx) (.slice (some ⟨w.heap.size, 0, none⟩) 1 1) (infoL N E) [48] [(48, formB N E)] W1 (hS.later b1) i1 (oneB_put _) (allc ⟨tk (t := 48) rfl, by have := formB_le N E zN zE; simp only; omega⟩ alln) rfl (by have := infoL_le N E zN zE; omega)
  have HB1 := show Hid (Below w.heap.size w W1) from b1
  clear h1 h2 zN zE bN bE hr b1 i1 hS
  go_enter Try.func36, Try.ntmps36
  go_wp2_with fail
  refine hO.mono ?_
  rintro e w2 ⟨⟨v2, rfl, p2⟩, b2⟩
  obtain ⟨x2, cx2, rfl⟩ := p2.shape
  obtain ⟨n2, hn2⟩ : ∃ n, ([(48, formB N E)] : List (UInt8 × List UInt8)).length = n := ⟨_, rfl⟩
  have hn2' : n2 = 1 := hn2.symm
  rw [hn2] at p2 ⊢
  obtain ⟨_, b, o, ya, ka, ca, rfl, _, _, g1, ia, hka⟩ := isPs_at p2 (i := 0) rfl
  rw [Nat.zero_mul, Nat.add_zero] at g1
  have i0n : (0 : Int) < (n2 : Int) := by omega
  have hKW := xKeyWithin_ok N E (.slice ya ka ca) w2 ia HZ.out.1 HZ.out.2.1 HZ.out.2.2.1 HZ.out.2.2.2.1 HZ.out.2.2.2.2
  have HB2 := show Hid (Below w.heap.size w w2) from bl2 HB1.out b2
  clear hO p2 b2 hn2 hn2' ia hka HB1 hW1 c0
  go_wp2_with fail
  refine hKW.mono ?_
  rintro e w3 ⟨⟨y, k, c, y2, k2, c2, rfl, i1, i2⟩, b3⟩
  have HP := show Hid (Below w.heap.size w w3) from bl2 HB2.out b3
  clear hKW b3 HB2 g1
  have hq := (HP.out.block pk (block_lt HK.out)).trans HK.out
  have f0 := block_free 0 hq
  have f1 := block_free 1 hq
  have f2 := block_free 2 hq
  have g0 := block_cell (v := .slice none 0 0) 0 hq rfl
  have g1 := block_cell (v := .slice none 0 0) 1 hq rfl
  have g2 := block_cell (v := .slice none 0 0) 2 hq rfl
  have HE := show Hid (_ ∧ _) from key_stored (.slice y k c) (.slice y2 k2 c2) (.slice none 0 0) hq
  have HJ := show Hid (IsBytes w3 (.slice y k c) ⟨(bareL N).toArray⟩ ∧ IsBytes w3 (.slice y2 k2 c2) ⟨(bareL E).toArray⟩ ∧ BoxN w3 pk) from ⟨i1, i2, boxN_nil hq⟩
  clear i1 i2 hq
  go_wp2_with fail
  generalize (((w3.setCell ⟨pk, 0, none⟩ (.slice y k c)).setCell ⟨pk, 1, none⟩ (.slice y2 k2 c2)).setCell ⟨pk, 2, none⟩ (.slice none 0 0)) = W5 at *
  obtain ⟨hb5, hk5⟩ := HE.out
  have HF := show Hid (W5.heap[pk]? = some (.cells #[.slice y k c, .slice y2 k2 c2, .slice none 0 0] 36 (0, 0)) ∧ IsBytes W5 (.slice y k c) ⟨(bareL N).toArray⟩ ∧ IsBytes W5 (.slice y2 k2 c2) ⟨(bareL E).toArray⟩ ∧ KeptX [pk] w W5) from ⟨hb5, HJ.out.1.keptN hk5 (allc HJ.out.2.2 alln), HJ.out.2.1.keptN hk5 (allc HJ.out.2.2 alln), (KeptX.of HP.out).trans hk5⟩
  clear HE hb5 hk5
  go_end0
  exact ⟨rfl, _, _, _, _, _, _, HF.out⟩
set_option maxHeartbeats 8000000 in
theorem xParseInfo_ok (v : Value) (N E : List UInt8) (w : World) (hS : IsBytes w v ⟨(infoL N E).toArray⟩) (zN : N.length ≤ 10000) (zE : E.length ≤ 10000) (bN : bareL N ≠ []) (bE : bareL E ≠ []) (hr : rightP (bareL N) (bareL E) []) :
    Calls Try.prog 15 #[v] w fun e w' => (∃ y k c y2 k2 c2, e = .returned (.tuple #[.agg #[.slice y k c, .slice y2 k2 c2, .slice none 0 0], .int .i64 0]) ∧ IsBytes w' (.slice y k c) ⟨(bareL N).toArray⟩ ∧ IsBytes w' (.slice y2 k2 c2) ⟨(bareL E).toArray⟩) ∧ Below w.heap.size w w' := by
  have hmf : ∀ (fn : Fn) (first cap : Array Value) (w : World), (Instr.makeFunc fn first cap).run Try.prog w = .ok (.func fn first cap) w := fun _ _ _ _ => rfl
  obtain ⟨x, nB, cx, rfl⟩ := isb_open hS
  obtain ⟨q, hq⟩ : ∃ q, w.heap.size = q := ⟨_, rfl⟩
  have hz1 : (w.alloc (.cells #[.slice x nB cx] 24)).heap.size = q + 1 := by simp [hq]
  have hz2 : ((w.alloc (.cells #[.slice x nB cx] 24)).alloc (.cells #[.slice none 0 0, .slice none 0 0, .slice none 0 0] 36)).heap.size = q + 1 + 1 := by simp [hq]
  have b1 := heap_push_at w (.cells #[.slice x nB cx] 24)
  rw [hq] at b1
  have b2 := heap_push_at (w.alloc (.cells #[.slice x nB cx] 24)) (.cells #[.slice none 0 0, .slice none 0 0, .slice none 0 0] 36)
  rw [hz1] at b2
  have b12 := block_alloc (.cells #[.slice none 0 0, .slice none 0 0, .slice none 0 0] 36) b1
  have hb2 : Below w.heap.size w ((w.alloc (.cells #[.slice x nB cx] 24)).alloc (.cells #[.slice none 0 0, .slice none 0 0, .slice none 0 0] 36)) := (alB _ _).trans ((alB _ _).mono (by rw [hz1]; omega))
  obtain ⟨W2, hW2⟩ : ∃ W, ((w.alloc (.cells #[.slice x nB cx] 24)).alloc (.cells #[.slice none 0 0, .slice none 0 0, .slice none 0 0] 36)) = W := ⟨_, rfl⟩
  rw [hW2] at hz2 b2 b12 hb2
  have b3 := heap_push_at W2 (.cells #[.int .i64 0] 28)
  have hE : Below W2.heap.size W2 (errBox W2) := alB _ _
  have hF := xParseInfoF_ok q (q + 1) x nB cx N E (errBox W2) (block_alloc _ b12) (block_alloc _ b2) ((hS.later hb2).later hE) zN zE bN bE hr
  have HW := show Hid (Below w.heap.size w W2 ∧ Below W2.heap.size W2 (errBox W2) ∧ (errBox W2).heap[W2.heap.size]? = some (.cells #[.int .i64 0] 28 (0, 0)) ∧ W2.heap.size = q + 1 + 1 ∧ w.heap.size = q) from ⟨hb2, hE, b3, hz2, hq⟩
  clear hz1 b1 b2 b12 b3 hb2 hE hS hz2
  have hRd := xReading_any 36 #[.pointer (some ⟨q, 0, none⟩), .pointer (some ⟨q + 1, 0, none⟩)] W2
    (fun u => ∃ y k c y2 k2 c2, u.heap[q + 1]? = some (.cells #[.slice y k c, .slice y2 k2 c2, .slice none 0 0] 36 (0, 0)) ∧ IsBytes u (.slice y k c) ⟨(bareL N).toArray⟩ ∧ IsBytes u (.slice y2 k2 c2) ⟨(bareL E).toArray⟩ ∧ KeptX [q + 1] (errBox W2) u)
    (fun _ _ => False)
    (enters_of Try.func36 (by kernel_rfl) rfl)
    (hF.mono fun e u h => .inl h)
    (fun u h => by
      obtain ⟨_, _, _, _, _, _, _, _, _, hk⟩ := h
      exact (hk.block _ (block_lt HW.out.2.2.1) (by simp; have := HW.out.2.2.2.1; omega)).trans HW.out.2.2.1)
    (fun _ _ h => h.elim)
  clear hF
  go_enter Try.func15, Try.ntmps15
  go_wp2_with fail
  refine hRd.mono ?_
  rintro e w3 (⟨rfl, u, ⟨y, k, c, y2, k2, c2, hbv, i1, i2, hk⟩, hk3⟩ | ⟨k, rfl, u, h, _⟩)
  · have hbe : BoxN u W2.heap.size := ⟨_, _, _, (hk.block _ (block_lt HW.out.2.2.1) (by simp; have := HW.out.2.2.2.1; omega)).trans HW.out.2.2.1, fun i z => by
      rcases i with _ | i <;> simp⟩
    have j1 := i1.keptN hk3 (allc hbe alln)
    have j2 := i2.keptN hk3 (allc hbe alln)
    have hb3 : w3.heap[q + 1]? = some (.cells #[.slice y k c, .slice y2 k2 c2, .slice none 0 0] 36 (0, 0)) := (hk3.block _ (block_lt hbv) (by simp; have := HW.out.2.2.2.1; omega)).trans hbv
    have hBw : Below w.heap.size w w3 := by
      have h1 := HW.out.1.trans (HW.out.2.1.mono HW.out.1.size)
      have h2 := hk.below (B := w.heap.size) h1.size (fun p hp => by simp at hp; have := HW.out.2.2.2.2; omega)
      have h3 := h1.trans h2
      exact h3.trans (hk3.below h3.size (fun p hp => by simp at hp; have := HW.out.2.2.2.1; have := HW.out.2.2.2.2; omega))
    have hbn : BoxN w3 (q + 1) := ⟨_, _, _, hb3, fun i z => by
      rcases i with _ | _ | _ | i <;> simp⟩
    have g0 := block_cell (v := .slice y k c) 0 hb3 rfl
    have g1 := block_cell (v := .slice y2 k2 c2) 1 hb3 rfl
    have g2 := block_cell (v := .slice none 0 0) 2 hb3 rfl
    have f0 := block_free 0 hb3
    have f1 := block_free 1 hb3
    have f2 := block_free 2 hb3
    have HE := show Hid (_ ∧ _) from key_stored (.slice y k c) (.slice y2 k2 c2) (.slice none 0 0) hb3
    have HJ := show Hid (IsBytes w3 (.slice y k c) ⟨(bareL N).toArray⟩ ∧ IsBytes w3 (.slice y2 k2 c2) ⟨(bareL E).toArray⟩ ∧ Below w.heap.size w w3 ∧ BoxN w3 (q + 1)) from ⟨j1, j2, hBw, hbn⟩
    clear hRd i1 i2 j1 j2 hbe hb3 hBw hk hk3 hbv hbn
    go_wp2_with fail
    generalize (((w3.setCell ⟨q + 1, 0, none⟩ (.slice y k c)).setCell ⟨q + 1, 1, none⟩ (.slice y2 k2 c2)).setCell ⟨q + 1, 2, none⟩ (.slice none 0 0)) = W5 at *
    obtain ⟨hb5, hk5⟩ := HE.out
    have q0 := block_cell (v := .slice y k c) 0 hb5 rfl
    have q1 := block_cell (v := .slice y2 k2 c2) 1 hb5 rfl
    have q2 := block_cell (v := .slice none 0 0) 2 hb5 rfl
    have HF := show Hid (IsBytes W5 (.slice y k c) ⟨(bareL N).toArray⟩ ∧ IsBytes W5 (.slice y2 k2 c2) ⟨(bareL E).toArray⟩ ∧ Below w.heap.size w W5) from ⟨HJ.out.1.keptN hk5 (allc HJ.out.2.2.2 alln), HJ.out.2.1.keptN hk5 (allc HJ.out.2.2.2 alln), HJ.out.2.2.1.trans (hk5.below HJ.out.2.2.1.size (fun p hp => by
      simp at hp
      have := HW.out.2.2.2.2
      omega))⟩
    (try simp only [Exit.inBlock, Exit.then])
    refine bodyPost_ret (v := .tuple #[.agg #[.slice y k c, .slice y2 k2 c2, .slice none 0 0], .int .i64 0]) (by simp [results, Try.results15, go_sem, q0, q1, q2]) rfl ⟨⟨_, _, _, _, _, _, rfl, HF.out.1, HF.out.2.1⟩, HF.out.2.2⟩
  · exact h.elim
end Go.Proofs.Ythdoginhbhdmbaa

namespace Go.Proofs.Ythdoginhbhdmbaa
open Go.RowKit Ch
set_option maxRecDepth 100000

theorem ownL_lit (w : World) (l : List UInt8) (C : Array Value) (hC : C.toList = Lib.byteCells l) (n : Nat) (hn : l.length = n) (h : n ≤ maxLen) : OwnL w.heap.size (w.alloc (.cells C 5)) (.slice (some ⟨w.heap.size, 0, none⟩) n n) l := by
  subst hn
  have hs : C.size = l.length := by rw [← Array.length_toList, hC]; simp [Lib.byteCells]
  refine ⟨by simp [Lib.byteCells], .inr ⟨w.heap.size, l.length, C, rfl, Nat.le_refl _, heap_push_at w _, Nat.le_refl _, h, by omega, ?_⟩⟩
  rw [Nat.mul_one, hC]
  exact List.take_of_length_le (by simp [Lib.byteCells])
theorem IsPs.rest {w : World} {b o n c : Nat} {p : UInt8 × List UInt8} {ps : List (UInt8 × List UInt8)} (h : IsPs w (.slice (some ⟨b, o, none⟩) n c) (p :: ps)) : n ≤ c ∧ n = ps.length + 1 ∧ IsPs w (.slice (some ⟨b, o + 2, none⟩) (n - 1) (c - 1)) ps := by
  obtain ⟨y, c', h0, h1, h2⟩ := h
  simp only [Value.slice.injEq] at h0
  obtain ⟨rfl, hn, rfl⟩ := h0
  rw [List.length_cons] at hn h1
  refine ⟨by omega, hn, some ⟨b, o + 2, none⟩, c - 1, by rw [hn, Nat.add_sub_cancel], by omega, fun i q hq => ?_⟩
  obtain ⟨b', o', yb, cb, e, h3, h4, h5, h6⟩ := h2 (i + 1) q (by simpa using hq)
  simp only [Option.some.injEq, Addr.mk.injEq, and_true] at e
  obtain ⟨rfl, rfl⟩ := e
  refine ⟨b, o + 2, yb, cb, rfl, h3, ?_, ?_, h6⟩
  · rw [show o + 2 + i * 2 = o + (i + 1) * 2 by omega]
    exact h4
  · rw [show o + 2 + i * 2 + 1 = o + (i + 1) * 2 + 1 by omega]
    exact h5
/-- The pieces of what a certificate says. -/
def certPs (g o d f : List UInt8) : List (UInt8 × List UInt8) := [(160, putL1 (2, [2])), (2, [1]), (48, g), (48, o), (48, d), (48, o), (48, f)]
set_option maxHeartbeats 8000000 in
theorem xKeyForm_ok (v : Value) (B g o d f : List UInt8) (w : World) (hS : IsBytes w v ⟨B.toArray⟩) (hB : putL (certPs g o d f) = B) (hl : B.length ≤ 100000) (zg : g.length ≤ 100000) (zo : o.length ≤ 100000) (zd : d.length ≤ 100000) (zf : f.length ≤ 100000) :
    Calls Try.prog 41 #[v] w fun e w' => (∃ y k c, e = .returned (.slice y k c) ∧ IsBytes w' (.slice y k c) ⟨f.toArray⟩) ∧ Below w.heap.size w w' := by
  obtain ⟨x, cx, rfl⟩ := isb_shape hS
  have hz : (⟨B.toArray⟩ : ByteArray).size = B.length := size_of_list B
  have hP := xPieces_any x cx ⟨B.toArray⟩ w (by rw [hz]; exact hS) (by rw [hz]; omega)
  rw [hz, show (⟨B.toArray⟩ : ByteArray).data.toList = B from List.toList_toArray] at hP
  have hs : splitL B.length B = .ok (certPs g o d f) := by
    rw [← hB]
    refine splitL_put _ _ ?_ ?_
    · exact allc ⟨tk (t := 160) rfl, by decide⟩ (allc ⟨tk (t := 2) rfl, by decide⟩ (allc ⟨tk (t := 48) rfl, by simp only; omega⟩ (allc ⟨tk (t := 48) rfl, by simp only; omega⟩ (allc ⟨tk (t := 48) rfl, by simp only; omega⟩ (allc ⟨tk (t := 48) rfl, by simp only; omega⟩ (allc ⟨tk (t := 48) rfl, by simp only; omega⟩ alln))))))
    · simp only [certPs, putL, List.length_append, List.length_cons, List.length_nil]
      have h1 := putL1_length (48, g)
      have h2 := putL1_length (48, o)
      have h3 := putL1_length (48, d)
      have h4 := putL1_length (48, f)
      omega
  rw [hs] at hP
  obtain ⟨k, hk⟩ : ∃ k, B.length = k := ⟨_, rfl⟩
  rw [hk] at hP ⊢
  clear hS hB hl zg zo zd zf hz hs hk
  go_enter Try.func41, Try.ntmps41
  go_wp2_with fail
  refine hP.mono ?_
  rintro e w2 ⟨⟨v2, rfl, p2⟩, b2⟩
  obtain ⟨x2, cx2, rfl⟩ := p2.shape
  obtain ⟨q1, b, oo, _, _, _, rfl, _, _, q2, _, q3⟩ := isPs_at p2 (i := 0) (t := 160) (bl := putL1 (2, [2])) rfl
  clear q1 q2 q3
  obtain ⟨n2, hn2⟩ : ∃ n, (certPs g o d f).length = n := ⟨_, rfl⟩
  have hn2' : n2 = 7 := hn2.symm
  rw [hn2] at p2 ⊢
  obtain ⟨hcx, q4, p3⟩ := IsPs.rest (p := (160, putL1 (2, [2]))) p2
  obtain ⟨q5, b', oo', y5, k5, c5, e5, _, _, g5, i5, hk5⟩ := isPs_at p3 (i := 5) (t := 48) (bl := f) rfl
  simp only [Option.some.injEq, Addr.mk.injEq, and_true] at e5
  obtain ⟨rfl, rfl⟩ := e5
  obtain ⟨W1, hW1⟩ : ∃ W, w2.alloc (.cells #[.int .u8 160] 5) = W := ⟨_, rfl⟩
  have b1 : Below w2.heap.size w2 W1 := by rw [← hW1]; exact alB _ _
  have i1 : IsBytes W1 (.slice (some ⟨w2.heap.size, 0, none⟩) 1 1) ⟨([160] : List UInt8).toArray⟩ := by rw [← hW1]; exact litM w2 ⟨#[160]⟩ _ _ rfl (show (1 : Nat) ≤ maxLen by unfold maxLen; decide)
  have hBg := show Calls Try.prog 56 #[.slice (some ⟨b, oo, none⟩) n2 cx2, .slice (some ⟨w2.heap.size, 0, none⟩) 1 1] W1 _ from xBegin_ok (.slice (some ⟨b, oo, none⟩) n2 cx2) (.slice (some ⟨w2.heap.size, 0, none⟩) 1 1) (certPs g o d f) [160] W1 (p2.later b1) i1 (fun i t h => by
    rcases i with _ | i
    · simp only [List.getElem?_cons_zero, Option.some.injEq] at h
      subst h
      exact ⟨_, rfl⟩
    · simp at h) (by simp [certPs]) (by simp [certPs])
  obtain ⟨W3, hW3⟩ : ∃ W, W1.alloc (.cells #[.int .u8 2, .int .u8 48, .int .u8 48, .int .u8 48, .int .u8 48] 5) = W := ⟨_, rfl⟩
  have hO3 : OwnL W1.heap.size W3 (.slice (some ⟨W1.heap.size, 0, none⟩) 5 5) [2, 48, 48, 48, 48] := by rw [← hW3]; exact ownL_lit W1 _ _ rfl 5 rfl (by unfold maxLen; decide)
  have b3 : Below W1.heap.size W1 W3 := by rw [← hW3]; exact alB _ _
  obtain ⟨W4, hW4⟩ : ∃ W, W3.alloc (.cells #[.int .u8 48] 5) = W := ⟨_, rfl⟩
  have b4 : Below W3.heap.size W3 W4 := by rw [← hW4]; exact alB _ _
  have i4 : IsBytes W4 (.slice (some ⟨W3.heap.size, 0, none⟩) 1 1) ⟨([48] : List UInt8).toArray⟩ := by rw [← hW4]; exact litM W3 ⟨#[48]⟩ _ _ rfl (show (1 : Nat) ≤ maxLen by unfold maxLen; decide)
  have HO := show Hid (OwnL W1.heap.size W4 (.slice (some ⟨W1.heap.size, 0, none⟩) 5 5) [2, 48, 48, 48, 48] ∧ IsBytes W4 (.slice (some ⟨W3.heap.size, 0, none⟩) 1 1) ⟨([48] : List UInt8).toArray⟩ ∧ Below w2.heap.size w2 W4 ∧ W1.heap.size ≤ W4.heap.size ∧ w2.heap.size ≤ W1.heap.size) from ⟨hO3.later b4, i4, bl2 (bl2 b1 b3) b4, (bl2 b3 b4).size, b1.size⟩
  have HP := show Hid (IsPs w2 (.slice (some ⟨b, oo + 2, none⟩) (n2 - 1) (cx2 - 1)) [(2, [1]), (48, g), (48, o), (48, d), (48, o), (48, f)] ∧ IsBytes w2 (.slice y5 k5 c5) ⟨f.toArray⟩ ∧ Below w.heap.size w w2) from ⟨p3, i5, b2⟩
  have HG := show Hid (w2.cell? ⟨b, oo + 2 + 5 * 2 + 1, none⟩ = some (.slice y5 k5 c5) ∧ b < w2.heap.size) from ⟨g5, cell_lt g5⟩
  have hR := fun wx => xNeed_ok 10 wx
  have j1 : (1 : Int) ≤ (n2 : Int) := by omega
  have j2 : (n2 : Int) ≤ (cx2 : Int) := by omega
  have j3 : (1 : Int) ≤ (cx2 : Int) := by omega
  have j4 : cx2 ≠ 1 := by omega
  have j5 : (5 : Int) < ((n2 - 1 : Nat) : Int) := by omega
  have j6 : 1 ≤ cx2 := by omega
  have j7 : 1 ≤ n2 := by omega
  clear hP p2 b2 p3 g5 i5 hk5 b1 i1 hO3 b3 b4 i4 hn2 hn2' hcx q4 q5
  go_wp2_with fail
  refine hBg.mono ?_
  rintro e w5 ⟨rfl, rfl⟩
  clear hBg
  go_wp2_with (at_builtin; go_must (refine wpList_append_k rfl _ _ rfl w5.heap.size (.slice (some ⟨w5.heap.size, 0, none⟩) 5 5) [2, 48, 48, 48, 48] rfl HO.out.1 _ [48] rfl HO.out.2.1 (by simp) HO.out.2.2.2.1 ?_; intro v6 w6 ho6 hk6 hb6; have hb26 := HO.out.2.2.1.trans ((RowTo.below ⟨ho6, hk6, hb6⟩ HO.out.1 HO.out.2.2.2.1).mono HO.out.2.2.2.2); have hBg2 := xBegin_ok (.slice (some ⟨b, oo + 2, none⟩) (n2 - 1) (cx2 - 1)) v6 [(2, [1]), (48, g), (48, o), (48, d), (48, o), (48, f)] ([2, 48, 48, 48, 48] ++ [48]) w6 (HP.out.1.later hb26) ho6.is (fun i t h => by
    rcases i with _ | _ | _ | _ | _ | _ | i <;> simp at h <;> subst h <;> exact ⟨_, rfl⟩) (by simp) (by simp)))
  refine hBg2.mono ?_
  rintro e w7 ⟨rfl, rfl⟩
  clear hBg2
  have HF := show Hid (IsBytes w7 (.slice y5 k5 c5) ⟨f.toArray⟩ ∧ Below w.heap.size w w7) from ⟨HP.out.2.1.later hb26, bl2 HP.out.2.2 hb26⟩
  have g5 := (hb26.cell (p := ⟨b, oo + 2 + 5 * 2 + 1, none⟩) HG.out.2).trans HG.out.1
  clear ho6 hk6 hb6 hb26
  go_wp2_with fail
  refine (hR _).mono ?_
  rintro e w8 ⟨rfl, rfl⟩
  go_wp2_with fail
  go_ret
  exact ⟨⟨_, _, _, rfl, HF.out.1⟩, HF.out.2⟩
end Go.Proofs.Ythdoginhbhdmbaa

namespace Go.Proofs.Ythdoginhbhdmbaa
open Go.RowKit Ch
set_option maxRecDepth 100000

def kind11B : List UInt8 := putL1 (6, [42, 134, 72, 134, 247, 13, 1, 1, 11]) ++ putL1 (5, [])
def holdB (o : List UInt8) : List UInt8 := putL1 (49, putL1 (48, putL1 (6, [85, 4, 3]) ++ putL1 (12, o)))
def datesB : List UInt8 := putL1 (23, [48, 48, 48, 49, 48, 49, 48, 48, 48, 48, 48, 48, 90]) ++ putL1 (23, [52, 57, 49, 50, 51, 49, 50, 51, 53, 57, 53, 57, 90])
def certF (o N E : List UInt8) : List UInt8 := firstL (kindL 11) (holdL o) (infoL N E)
def certW (o N E : List UInt8) : List UInt8 := putL1 (48, certF o N E) ++ kindL 11 ++ putL1 (3, [0])
theorem certOf_eq (o N E : List UInt8) : certOf (kindL 11) (holdL o) (infoL N E) = putL1 (48, certW o N E) := rfl
theorem certF_put (o N E : List UInt8) : putL (certPs kind11B (holdB o) datesB (formB N E)) = certF o N E := by
  simp only [certPs, putL, List.append_nil]
  unfold certF firstL
  simp only [List.append_assoc]
  rfl
theorem certW_put (o N E : List UInt8) : putL [(48, certF o N E), (48, kind11B), (3, [0])] = certW o N E := by
  simp only [putL, List.append_nil]
  unfold certW
  rw [List.append_assoc]
  rfl
theorem certF_le (o N E : List UInt8) (ho : o.length ≤ 200) (hN : N.length ≤ 10000) (hE : E.length ≤ 10000) : (certF o N E).length ≤ 50000 := firstL_le _ _ _ (Nat.le_of_eq (kindL_len 11)) (holdL_le o ho) (infoL_le N E hN hE)
theorem certW_le (o N E : List UInt8) (ho : o.length ≤ 200) (hN : N.length ≤ 10000) (hE : E.length ≤ 10000) : (certW o N E).length ≤ 50100 := by
  have h1 := up_of (p := (48, certF o N E)) (n := 50000) (certF_le o N E ho hN hE) (by omega)
  have h2 := kindL_len 11
  have h3 : (putL1 (3, ([0] : List UInt8))).length ≤ 10 := by decide
  unfold certW
  rw [List.length_append, List.length_append]
  omega
theorem holdB_le (o : List UInt8) (h : o.length ≤ 200) : (holdB o).length ≤ 1000 := by
  have h1 := holdL_le o h
  have h2 : (holdL o).length = (putL1 (48, holdB o)).length := rfl
  have h3 : (holdB o).length ≤ (putL1 (48, holdB o)).length := by
    show (holdB o).length ≤ ((48 : UInt8) :: (lenB (holdB o).length ++ holdB o)).length
    rw [List.length_cons, List.length_append]
    omega
  omega
set_option maxHeartbeats 8000000 in
theorem xFromCertF_ok (pb pk : Nat) (x : Option Addr) (nB cx : Nat) (N E o : List UInt8) (w : World) (h1 : w.heap[pb]? = some (.cells #[.slice x nB cx] 24 (0, 0))) (h2 : w.heap[pk]? = some (.cells #[.slice none 0 0, .slice none 0 0, .slice none 0 0] 36 (0, 0))) (hS : IsBytes w (.slice x nB cx) ⟨(putL1 (48, certW o N E)).toArray⟩) (zN : N.length ≤ 10000) (zE : E.length ≤ 10000) (bN : bareL N ≠ []) (bE : bareL E ≠ []) (hr : rightP (bareL N) (bareL E) []) (ho : o.length ≤ 200) :
    Calls Try.prog 40 #[.pointer (some ⟨pb, 0, none⟩), .pointer (some ⟨pk, 0, none⟩)] w fun e w' => e = .returned (.tuple #[]) ∧ ∃ y k c y2 k2 c2, w'.heap[pk]? = some (.cells #[.slice y k c, .slice y2 k2 c2, .slice none 0 0] 36 (0, 0)) ∧ IsBytes w' (.slice y k c) ⟨(bareL N).toArray⟩ ∧ IsBytes w' (.slice y2 k2 c2) ⟨(bareL E).toArray⟩ ∧ KeptX [pk] w w' := by
  have c0 := block_cell (v := .slice x nB cx) 0 h1 rfl
  have HK := show Hid (w.heap[pk]? = some (.cells #[.slice none 0 0, .slice none 0 0, .slice none 0 0] 36 (0, 0))) from h2
  have HZ := show Hid (N.length ≤ 10000 ∧ E.length ≤ 10000 ∧ bareL N ≠ [] ∧ bareL E ≠ [] ∧ rightP (bareL N) (bareL E) [] ∧ o.length ≤ 200) from ⟨zN, zE, bN, bE, hr, ho⟩
  obtain ⟨W1, hW1⟩ : ∃ W, w.alloc (.cells #[.int .u8 48] 5) = W := ⟨_, rfl⟩
  have b1 : Below w.heap.size w W1 := by rw [← hW1]; exact alB _ _
  have i1 : IsBytes W1 (.slice (some ⟨w.heap.size, 0, none⟩) 1 1) ⟨([48] : List UInt8).toArray⟩ := by rw [← hW1]; exact litM w ⟨#[48]⟩ _ _ rfl (show (1 : Nat) ≤ maxLen by unfold maxLen; decide)
  have hO := show Calls Try.prog 38 #[.slice x nB cx, .slice (some ⟨w.heap.size, 0, none⟩) 1 1] W1 _ from xOnly_ok (.slice x nB cx) (.slice (some ⟨w.heap.size, 0, none⟩) 1 1) (putL1 (48, certW o N E)) [48] [(48, certW o N E)] W1 (hS.later b1) i1 (oneB_put _) (allc ⟨tk (t := 48) rfl, by have := certW_le o N E ho zN zE; simp only; omega⟩ alln) rfl (by have := up_of (p := (48, certW o N E)) (certW_le o N E ho zN zE) (by omega); omega)
  have HB1 := show Hid (Below w.heap.size w W1) from b1
  clear h1 h2 zN zE bN bE hr ho b1 i1 hS
  go_enter Try.func40, Try.ntmps40
  go_wp2_with fail
  refine hO.mono ?_
  rintro e w2 ⟨⟨v2, rfl, p2⟩, b2⟩
  obtain ⟨x2, cx2, rfl⟩ := p2.shape
  obtain ⟨n2, hn2⟩ : ∃ n, ([(48, certW o N E)] : List (UInt8 × List UInt8)).length = n := ⟨_, rfl⟩
  have hn2' : n2 = 1 := hn2.symm
  rw [hn2] at p2 ⊢
  obtain ⟨q1, b, oo, ya, ka, ca, rfl, _, _, g1, ia, hka⟩ := isPs_at p2 (i := 0) rfl
  rw [Nat.zero_mul, Nat.add_zero] at g1
  have i0n : (0 : Int) < (n2 : Int) := by omega
  obtain ⟨W3, hW3⟩ : ∃ W, w2.alloc (.cells #[.int .u8 48, .int .u8 48, .int .u8 3] 5) = W := ⟨_, rfl⟩
  have b3 : Below w2.heap.size w2 W3 := by rw [← hW3]; exact alB _ _
  have i3 : IsBytes W3 (.slice (some ⟨w2.heap.size, 0, none⟩) 3 3) ⟨([48, 48, 3] : List UInt8).toArray⟩ := by rw [← hW3]; exact litM w2 ⟨#[48, 48, 3]⟩ _ _ rfl (show (3 : Nat) ≤ maxLen by unfold maxLen; decide)
  have hO2 := show Calls Try.prog 38 #[.slice ya ka ca, .slice (some ⟨w2.heap.size, 0, none⟩) 3 3] W3 _ from xOnly_ok (.slice ya ka ca) (.slice (some ⟨w2.heap.size, 0, none⟩) 3 3) (certW o N E) [48, 48, 3] [(48, certF o N E), (48, kind11B), (3, [0])] W3 (ia.later b3) i3 (certW_put o N E) (allc ⟨tk (t := 48) rfl, by have := certF_le o N E HZ.out.2.2.2.2.2 HZ.out.1 HZ.out.2.1; simp only; omega⟩ (allc ⟨tk (t := 48) rfl, by decide⟩ (allc ⟨tk (t := 3) rfl, by decide⟩ alln))) rfl (by have := certW_le o N E HZ.out.2.2.2.2.2 HZ.out.1 HZ.out.2.1; omega)
  have HB3 := show Hid (Below w.heap.size w W3) from bl2 (bl2 HB1.out b2) b3
  clear hO p2 b2 hn2 hn2' ia hka HB1 hW1 c0 b3 i3 q1
  go_wp2_with fail
  refine hO2.mono ?_
  rintro e w4 ⟨⟨v4, rfl, p4⟩, b4⟩
  obtain ⟨x4, cx4, rfl⟩ := p4.shape
  obtain ⟨n4, hn4⟩ : ∃ n, ([(48, certF o N E), (48, kind11B), (3, [0])] : List (UInt8 × List UInt8)).length = n := ⟨_, rfl⟩
  have hn4' : n4 = 3 := hn4.symm
  rw [hn4] at p4 ⊢
  obtain ⟨q1, b5, o5, y5, k5, c5, rfl, _, _, g5, i5, hk5⟩ := isPs_at p4 (i := 0) rfl
  rw [Nat.zero_mul, Nat.add_zero] at g5
  have i0n4 : (0 : Int) < (n4 : Int) := by omega
  have hKF := xKeyForm_ok (.slice y5 k5 c5) (certF o N E) kind11B (holdB o) datesB (formB N E) w4 i5 (certF_put o N E) (by have := certF_le o N E HZ.out.2.2.2.2.2 HZ.out.1 HZ.out.2.1; omega) (by decide) (by have := holdB_le o HZ.out.2.2.2.2.2; omega) (by decide) (by have := formB_le N E HZ.out.1 HZ.out.2.1; omega)
  have HB4 := show Hid (Below w.heap.size w w4) from bl2 HB3.out b4
  clear hO2 p4 b4 hn4 hn4' i5 hk5 HB3 hW3 g1 q1
  go_wp2_with fail
  refine hKF.mono ?_
  rintro e w6 ⟨⟨y6, k6, c6, rfl, i6⟩, b6⟩
  have hKW := xKeyWithin_ok N E (.slice y6 k6 c6) w6 i6 HZ.out.1 HZ.out.2.1 HZ.out.2.2.1 HZ.out.2.2.2.1 HZ.out.2.2.2.2.1
  have HB6 := show Hid (Below w.heap.size w w6) from bl2 HB4.out b6
  clear hKF i6 b6 HB4 g5
  go_wp2_with fail
  refine hKW.mono ?_
  rintro e w3 ⟨⟨y, k, c, y2, k2, c2, rfl, i1, i2⟩, b3⟩
  have HP := show Hid (Below w.heap.size w w3) from bl2 HB6.out b3
  clear hKW b3 HB6
  have hq := (HP.out.block pk (block_lt HK.out)).trans HK.out
  have f0 := block_free 0 hq
  have f1 := block_free 1 hq
  have f2 := block_free 2 hq
  have g0 := block_cell (v := .slice none 0 0) 0 hq rfl
  have g1 := block_cell (v := .slice none 0 0) 1 hq rfl
  have g2 := block_cell (v := .slice none 0 0) 2 hq rfl
  have HE := show Hid (_ ∧ _) from key_stored (.slice y k c) (.slice y2 k2 c2) (.slice none 0 0) hq
  have HJ := show Hid (IsBytes w3 (.slice y k c) ⟨(bareL N).toArray⟩ ∧ IsBytes w3 (.slice y2 k2 c2) ⟨(bareL E).toArray⟩ ∧ BoxN w3 pk) from ⟨i1, i2, boxN_nil hq⟩
  clear i1 i2 hq
  go_wp2_with fail
  generalize (((w3.setCell ⟨pk, 0, none⟩ (.slice y k c)).setCell ⟨pk, 1, none⟩ (.slice y2 k2 c2)).setCell ⟨pk, 2, none⟩ (.slice none 0 0)) = W5 at *
  obtain ⟨hb5, hk5⟩ := HE.out
  have HF := show Hid (W5.heap[pk]? = some (.cells #[.slice y k c, .slice y2 k2 c2, .slice none 0 0] 36 (0, 0)) ∧ IsBytes W5 (.slice y k c) ⟨(bareL N).toArray⟩ ∧ IsBytes W5 (.slice y2 k2 c2) ⟨(bareL E).toArray⟩ ∧ KeptX [pk] w W5) from ⟨hb5, HJ.out.1.keptN hk5 (allc HJ.out.2.2 alln), HJ.out.2.1.keptN hk5 (allc HJ.out.2.2 alln), (KeptX.of HP.out).trans hk5⟩
  clear HE hb5 hk5
  go_end0
  exact ⟨rfl, _, _, _, _, _, _, HF.out⟩
set_option maxHeartbeats 8000000 in
theorem xFromCert_ok (v : Value) (N E : List UInt8) (o : List UInt8) (w : World) (hS : IsBytes w v ⟨(putL1 (48, certW o N E)).toArray⟩) (zN : N.length ≤ 10000) (zE : E.length ≤ 10000) (bN : bareL N ≠ []) (bE : bareL E ≠ []) (hr : rightP (bareL N) (bareL E) []) (hs : o.length ≤ 200) :
    Calls Try.prog 17 #[v] w fun e w' => (∃ y k c y2 k2 c2, e = .returned (.tuple #[.agg #[.slice y k c, .slice y2 k2 c2, .slice none 0 0], .int .i64 0]) ∧ IsBytes w' (.slice y k c) ⟨(bareL N).toArray⟩ ∧ IsBytes w' (.slice y2 k2 c2) ⟨(bareL E).toArray⟩) ∧ Below w.heap.size w w' := by
  have hmf : ∀ (fn : Fn) (first cap : Array Value) (w : World), (Instr.makeFunc fn first cap).run Try.prog w = .ok (.func fn first cap) w := fun _ _ _ _ => rfl
  obtain ⟨x, nB, cx, rfl⟩ := isb_open hS
  obtain ⟨q, hq⟩ : ∃ q, w.heap.size = q := ⟨_, rfl⟩
  have hz1 : (w.alloc (.cells #[.slice x nB cx] 24)).heap.size = q + 1 := by simp [hq]
  have hz2 : ((w.alloc (.cells #[.slice x nB cx] 24)).alloc (.cells #[.slice none 0 0, .slice none 0 0, .slice none 0 0] 36)).heap.size = q + 1 + 1 := by simp [hq]
  have b1 := heap_push_at w (.cells #[.slice x nB cx] 24)
  rw [hq] at b1
  have b2 := heap_push_at (w.alloc (.cells #[.slice x nB cx] 24)) (.cells #[.slice none 0 0, .slice none 0 0, .slice none 0 0] 36)
  rw [hz1] at b2
  have b12 := block_alloc (.cells #[.slice none 0 0, .slice none 0 0, .slice none 0 0] 36) b1
  have hb2 : Below w.heap.size w ((w.alloc (.cells #[.slice x nB cx] 24)).alloc (.cells #[.slice none 0 0, .slice none 0 0, .slice none 0 0] 36)) := (alB _ _).trans ((alB _ _).mono (by rw [hz1]; omega))
  obtain ⟨W2, hW2⟩ : ∃ W, ((w.alloc (.cells #[.slice x nB cx] 24)).alloc (.cells #[.slice none 0 0, .slice none 0 0, .slice none 0 0] 36)) = W := ⟨_, rfl⟩
  rw [hW2] at hz2 b2 b12 hb2
  have b3 := heap_push_at W2 (.cells #[.int .i64 0] 28)
  have hE : Below W2.heap.size W2 (errBox W2) := alB _ _
  have hF := xFromCertF_ok q (q + 1) x nB cx N E o (errBox W2) (block_alloc _ b12) (block_alloc _ b2) ((hS.later hb2).later hE) zN zE bN bE hr hs
  have HW := show Hid (Below w.heap.size w W2 ∧ Below W2.heap.size W2 (errBox W2) ∧ (errBox W2).heap[W2.heap.size]? = some (.cells #[.int .i64 0] 28 (0, 0)) ∧ W2.heap.size = q + 1 + 1 ∧ w.heap.size = q) from ⟨hb2, hE, b3, hz2, hq⟩
  clear hz1 b1 b2 b12 b3 hb2 hE hS hz2
  have hRd := xReading_any 40 #[.pointer (some ⟨q, 0, none⟩), .pointer (some ⟨q + 1, 0, none⟩)] W2
    (fun u => ∃ y k c y2 k2 c2, u.heap[q + 1]? = some (.cells #[.slice y k c, .slice y2 k2 c2, .slice none 0 0] 36 (0, 0)) ∧ IsBytes u (.slice y k c) ⟨(bareL N).toArray⟩ ∧ IsBytes u (.slice y2 k2 c2) ⟨(bareL E).toArray⟩ ∧ KeptX [q + 1] (errBox W2) u)
    (fun _ _ => False)
    (enters_of Try.func40 (by kernel_rfl) rfl)
    (hF.mono fun e u h => .inl h)
    (fun u h => by
      obtain ⟨_, _, _, _, _, _, _, _, _, hk⟩ := h
      exact (hk.block _ (block_lt HW.out.2.2.1) (by simp; have := HW.out.2.2.2.1; omega)).trans HW.out.2.2.1)
    (fun _ _ h => h.elim)
  clear hF
  go_enter Try.func17, Try.ntmps17
  go_wp2_with fail
  refine hRd.mono ?_
  rintro e w3 (⟨rfl, u, ⟨y, k, c, y2, k2, c2, hbv, i1, i2, hk⟩, hk3⟩ | ⟨k, rfl, u, h, _⟩)
  · have hbe : BoxN u W2.heap.size := ⟨_, _, _, (hk.block _ (block_lt HW.out.2.2.1) (by simp; have := HW.out.2.2.2.1; omega)).trans HW.out.2.2.1, fun i z => by
      rcases i with _ | i <;> simp⟩
    have j1 := i1.keptN hk3 (allc hbe alln)
    have j2 := i2.keptN hk3 (allc hbe alln)
    have hb3 : w3.heap[q + 1]? = some (.cells #[.slice y k c, .slice y2 k2 c2, .slice none 0 0] 36 (0, 0)) := (hk3.block _ (block_lt hbv) (by simp; have := HW.out.2.2.2.1; omega)).trans hbv
    have hBw : Below w.heap.size w w3 := by
      have h1 := HW.out.1.trans (HW.out.2.1.mono HW.out.1.size)
      have h2 := hk.below (B := w.heap.size) h1.size (fun p hp => by simp at hp; have := HW.out.2.2.2.2; omega)
      have h3 := h1.trans h2
      exact h3.trans (hk3.below h3.size (fun p hp => by simp at hp; have := HW.out.2.2.2.1; have := HW.out.2.2.2.2; omega))
    have hbn : BoxN w3 (q + 1) := ⟨_, _, _, hb3, fun i z => by
      rcases i with _ | _ | _ | i <;> simp⟩
    have g0 := block_cell (v := .slice y k c) 0 hb3 rfl
    have g1 := block_cell (v := .slice y2 k2 c2) 1 hb3 rfl
    have g2 := block_cell (v := .slice none 0 0) 2 hb3 rfl
    have f0 := block_free 0 hb3
    have f1 := block_free 1 hb3
    have f2 := block_free 2 hb3
    have HE := show Hid (_ ∧ _) from key_stored (.slice y k c) (.slice y2 k2 c2) (.slice none 0 0) hb3
    have HJ := show Hid (IsBytes w3 (.slice y k c) ⟨(bareL N).toArray⟩ ∧ IsBytes w3 (.slice y2 k2 c2) ⟨(bareL E).toArray⟩ ∧ Below w.heap.size w w3 ∧ BoxN w3 (q + 1)) from ⟨j1, j2, hBw, hbn⟩
    clear hRd i1 i2 j1 j2 hbe hb3 hBw hk hk3 hbv hbn
    go_wp2_with fail
    generalize (((w3.setCell ⟨q + 1, 0, none⟩ (.slice y k c)).setCell ⟨q + 1, 1, none⟩ (.slice y2 k2 c2)).setCell ⟨q + 1, 2, none⟩ (.slice none 0 0)) = W5 at *
    obtain ⟨hb5, hk5⟩ := HE.out
    have q0 := block_cell (v := .slice y k c) 0 hb5 rfl
    have q1 := block_cell (v := .slice y2 k2 c2) 1 hb5 rfl
    have q2 := block_cell (v := .slice none 0 0) 2 hb5 rfl
    have HF := show Hid (IsBytes W5 (.slice y k c) ⟨(bareL N).toArray⟩ ∧ IsBytes W5 (.slice y2 k2 c2) ⟨(bareL E).toArray⟩ ∧ Below w.heap.size w W5) from ⟨HJ.out.1.keptN hk5 (allc HJ.out.2.2.2 alln), HJ.out.2.1.keptN hk5 (allc HJ.out.2.2.2 alln), HJ.out.2.2.1.trans (hk5.below HJ.out.2.2.1.size (fun p hp => by
      simp at hp
      have := HW.out.2.2.2.2
      omega))⟩
    (try simp only [Exit.inBlock, Exit.then])
    refine bodyPost_ret (v := .tuple #[.agg #[.slice y k c, .slice y2 k2 c2, .slice none 0 0], .int .i64 0]) (by simp [results, Try.results17, go_sem, q0, q1, q2]) rfl ⟨⟨_, _, _, _, _, _, rfl, HF.out.1, HF.out.2.1⟩, HF.out.2.2⟩
  · exact h.elim
end Go.Proofs.Ythdoginhbhdmbaa
