/-
  The program's reader: a byte more, and copies.
-/
import Derived.Test.YtbhnlomppobbkaaHR4
import Derived.Deep.AppendLies
import Derived.Deep.RegionLawGrows
import Derived.Test.YtbhnlomppobbkaaHHeld
namespace Go.Proofs.Ytbhnlomppobbkaa
open Go.RowKit Ch
set_option maxRecDepth 100000

theorem own_kind {w : World} {base n : Nat} {e : TypeId} {v : Value} {xs : List Value} (h : w.ownsRow base e 1 v n xs) {k : Nat} (hk : v.ownBlock = some k) : ∃ cur, w.heap[k]? = some (.cells cur e (0, 0)) := by
  rcases h.2 with ⟨hv, _⟩ | ⟨g, cap, cur, hv, _, hh, _⟩
  · rw [hv] at hk; cases hk
  · rw [hv] at hk
    simp only [Value.ownBlock, Option.some.injEq] at hk
    subst hk
    exact ⟨cur, hh⟩
/-- What an append and a store into the reader leave. -/
theorem Rd.step {rb : Nat} {s : ByteArray} {most p : Nat} {fv fx bk tv v2 : Value} {text text2 : List UInt8} {W W1 W2 : World} (h : Rd rb s most fv fx bk p text tv W) (h1 : Below W.heap.size W W1) (hg : W1.grownBy W2 tv.ownBlock) (ho : W2.ownsRow (rb + 1) 5 1 v2 text2.length (Lib.byteCells text2)) :
    Rd rb s most fv fx bk p text2 v2 (W2.setCell ⟨rb, 2, none⟩ v2) ∧ Kept rb W (W2.setCell ⟨rb, 2, none⟩ v2) ∧ W2.cell? ⟨rb, 2, none⟩ = some tv ∧ W2.frozen? ⟨rb, 2, none⟩ = false := by
  have hlow : ∀ r, tv.ownBlock = some r → rb + 1 ≤ r := fun r e => (World.ownsRow.lt h.row r e).1
  have hrb := block_lt h.box
  have hz1 := h1.size
  have hbox2 : W2.heap[rb]? = _ := (hg.block rb (by omega) (fun e => by have := hlow rb e.symm; omega)).trans ((h1.block rb hrb).trans h.box)
  have hbel : Below rb W W2 := (h1.mono (by omega)).grown hg (by omega) (fun k e => by have := hlow k e; omega)
  refine ⟨⟨setCell_block (i := 2) hbox2, ownsRow_setCell_below ho (a := ⟨rb, 2, none⟩) (Nat.lt_succ_self _) _, h.src.later (hbel.setCell (p := ⟨rb, 2, none⟩) (Nat.le_refl _) _), h.le⟩, ⟨hbel.setCell (p := ⟨rb, 2, none⟩) (Nat.le_refl _) _, fun k c t fr hk ht h' => ?_⟩, block_cell 2 hbox2 rfl, block_free 2 hbox2⟩
  have hlt := block_lt h'
  refine block_other _ _ ?_ (by simp; omega)
  rw [hg.block k (by omega) (fun e => ?_), h1.block k hlt]
  · exact h'
  · obtain ⟨cur, hc⟩ := own_kind h.row e.symm
    rw [hc] at h'
    simp only [Option.some.injEq, Obj.cells.injEq] at h'
    exact ht h'.2.1.symm
theorem copyL_length (text : List UInt8) (far k : Nat) : (copyL text far k).length = text.length + k := by
  induction k generalizing text with
  | zero => rfl
  | succ k ih => rw [copyL, ih]; simp; omega
theorem text_cell {w : World} {base : Nat} {text : List UInt8} {tv : Value} (h : w.ownsRow base 5 1 tv text.length (Lib.byteCells text)) {i : Nat} (hi : i < text.length) : ∃ g cap, tv = .slice (some ⟨g, 0, none⟩) text.length cap ∧ g < w.heap.size ∧ w.cell? ⟨g, i, none⟩ = some (.int .u8 (((text[i]?).getD 0).toNat : Int)) := by
  obtain ⟨g, cap, hv, _, _, hg, hc, _, _⟩ := own_set h hi
  refine ⟨g, cap, hv, hg, ?_⟩
  rw [hc]
  simp [Lib.byteCells, hi]
theorem copyL_snoc (text : List UInt8) (far k : Nat) : copyL text far (k + 1) = copyL (text ++ [(text[text.length - far]?).getD 0]) far k := rfl
theorem stepAt_lt {l : List UInt8} {i g p x q : Nat} (h : stepAt l i g p = .ok (x, q)) (hi : i < 30) (hg : g = 2 ∨ g = 4) : x < 200000 ∧ p ≤ q ∧ q ≤ 8 * l.length := by
  have hwid : (moreN i g).2 ≤ 16 := by unfold moreN; split; simp; rcases hg with rfl | rfl <;> simp <;> omega
  have hle : (moreN i g).1 ≤ 70000 := by
    have h2 := more_mono hg (i := i) (j := 30) (by omega) (by omega)
    have h3 : (moreN 30 2).1 ≤ 70000 ∧ (moreN 30 4).1 ≤ 70000 := by decide
    rcases hg with rfl | rfl
    · have := h3.1; omega
    · have := h3.2; omega
  unfold stepAt rdNum at h
  split at h
  · rename_i x' q' e
    split at e
    · simp only [Except.ok.injEq, Prod.mk.injEq] at e h
      have h1 := numAt_lt l p (moreN i g).2
      have h2 : 2 ^ (moreN i g).2 ≤ 2 ^ 16 := Nat.pow_le_pow_right (by omega) hwid
      omega
    · cases e
  · cases h
set_option maxHeartbeats 8000000 in
/-- A copy that began with a sign. -/
theorem rdCopying_any (rb : Nat) (s : ByteArray) (most p : Nat) (fv fx bk tv bp : Value) (text : List UInt8) (B : List Nat) (sg : Nat) (w : World) (h : Rd rb s most fv fx bk p text tv w) (hC : IsCodes rb B bp w) (hB : B.length ≤ 400) (hs : s.size ≤ 1000000) (hm : most ≤ 9223372036854775807) (hsg : 257 ≤ sg) (hsg2 : sg < 400) (hT : text.length ≤ 3000000000) :
    Calls Try.prog 62 #[.pointer (some ⟨rb, 0, none⟩), .int .i64 (sg : Int), bp] w (Ends rb w (copyOf B s.data.toList most sg p text) fun x e w' => e = .returned (.tuple #[]) ∧ ∃ tv', Rd rb s most fv fx bk x.1 x.2 tv' w' ∧ Kept rb w w') := by
  obtain ⟨i0, hi, hz0, hz1, hz2⟩ := info5
  obtain ⟨R, hR⟩ : ∃ R, copyOf B s.data.toList most sg p text = R := ⟨_, rfl⟩
  have HR : Hid (copyOf B s.data.toList most sg p text = R) := hR
  rw [hR]
  clear hR
  by_cases h285 : sg ≤ 285
  · have e1 : decide ((sg : Int) ≤ 285) = true := decide_eq_true (by omega)
    have hR1 := fun w => hRequire_ok 10 w
    by_cases hlt : sg < 285
    · have hS4 := rdStep_any rb s most p fv fx bk tv text w h (sg - 257) 4 (by omega) (Or.inr rfl) hs
      rw [show ((sg - 257 : Nat) : Int) = (sg : Int) - 257 by omega] at hS4
      cases hz : stepAt s.data.toList (sg - 257) 4 p with
      | error k =>
        rw [hz] at hS4
        have HZ : Hid (stepAt s.data.toList (sg - 257) 4 p = .error k) := hz
        clear hz
        go_enter Try.func62, Try.ntmps62
        go_wp2_with (first | (go_at_call 49; go_must (refine (hR1 _).mono ?_; rintro e w4 ⟨rfl, hw4⟩; rw [hw4]; clear hw4 w4)) | (go_at_call 64; go_must (refine hS4.mono ?_; rintro e w4 ⟨rfl, hb4⟩)))
        exact ⟨rfl, by rw [show R = .error k by (rw [← HR.out]; unfold copyOf lenAt; simp only [h285, if_true, hlt, HZ.out])]; exact ⟨rfl, hb4⟩⟩
      | ok xq =>
        obtain ⟨x0, p2⟩ := xq
        rw [hz] at hS4
        have hx0 := (stepAt_lt hz (by omega) (Or.inr rfl)).1
        obtain ⟨N, hN⟩ : ∃ N, 3 + x0 = N := ⟨_, rfl⟩
        have eN : (3 : Int) + (x0 : Int) = (N : Int) := by omega
        have HN : Hid (3 + x0 = N) := hN
        have hN3 : N < 300000 := by omega
        clear hN
        have HZ : Hid (stepAt s.data.toList (sg - 257) 4 p = .ok (x0, p2)) := hz
        clear hz
        go_enter Try.func62, Try.ntmps62
        go_wp2_with (first | (go_at_call 49; go_must (refine (hR1 _).mono ?_; rintro e w4 ⟨rfl, hw4⟩; rw [hw4]; clear hw4 w4)) | (go_at_call 64; go_must (refine hS4.mono ?_; rintro e w2 ⟨rfl, hR2, hK2⟩)))
        have hS := rdSign_any rb s most p2 fv fx bk tv bp text B w2 hR2 (hC.kept hK2) hB hs
        cases hx : sgn B s.data.toList p2 with
        | error k =>
          rw [hx] at hS
          have HX : Hid (sgn B s.data.toList p2 = .error k) := hx
          clear hx
          go_wp2_with (go_at_call 61; go_must (refine hS.mono ?_; rintro e w3 ⟨rfl, hb3⟩))
          exact ⟨rfl, by rw [show R = .error k by (rw [← HR.out]; unfold copyOf lenAt; simp only [h285, if_true, hlt, HZ.out, HN.out, HX.out])]; exact ⟨rfl, (hK2).below.trans hb3⟩⟩
        | ok dq =>
          obtain ⟨d, p3⟩ := dq
          rw [hx] at hS
          have HX : Hid (sgn B s.data.toList p2 = .ok (d, p3)) := hx
          have hd := (sgn_ok hx).1
          clear hx
          by_cases hd30 : d < 30
          · have e30 : decide ((d : Int) < 30) = true := decide_eq_true (by omega)
            go_wp2_with (first | (go_at_call 49; go_must (refine (hR1 _).mono ?_; rintro e w4 ⟨rfl, hw4⟩; rw [hw4]; clear hw4 w4)) | (go_at_call 61; go_must (refine hS.mono ?_; rintro e w3 ⟨rfl, hR3, hK3⟩)))
            have hK3' := Kept.trans hK2 hK3
            have hS2 := rdStep_any rb s most p3 fv fx bk tv text w3 hR3 d 2 hd30 (Or.inl rfl) hs
            cases hy : stepAt s.data.toList d 2 p3 with
            | error k =>
              rw [hy] at hS2
              have HY : Hid (stepAt s.data.toList d 2 p3 = .error k) := hy
              clear hy
              go_wp2_with (go_at_call 64; go_must (refine hS2.mono ?_; rintro e w4 ⟨rfl, hb4⟩))
              exact ⟨rfl, by rw [show R = .error k by (rw [← HR.out]; unfold copyOf lenAt; simp only [h285, if_true, hlt, HZ.out, HN.out, HX.out, hd30, if_true, HY.out])]; exact ⟨rfl, hK3'.below.trans hb4⟩⟩
            | ok xq =>
              obtain ⟨x, p4⟩ := xq
              rw [hy] at hS2
              have hx2 := stepAt_lt hy hd30 (Or.inl rfl)
              have HY : Hid (stepAt s.data.toList d 2 p3 = .ok (x, p4)) := hy
              have hx3 := hx2.1
              clear hy hx2
              obtain ⟨far, hf⟩ : ∃ far, 1 + x = far := ⟨_, rfl⟩
              have eF : (1 : Int) + (x : Int) = (far : Int) := by omega
              have HF : Hid (1 + x = far) := hf
              have hf1 : 1 ≤ far := by omega
              clear hf
              obtain ⟨ta, tc, htv⟩ := own_shape hR3.row
              by_cases hfar : far ≤ text.length
              · have efar : decide ((far : Int) ≤ (text.length : Int)) = true := decide_eq_true (by omega)
                have HW4 : Hid (∀ w4, Rd rb s most fv fx bk p4 text tv w4 → w4.cell? ⟨rb, 2, none⟩ = some (.slice ta text.length tc)) := fun w4 h4 => htv ▸ h4.cells.2.2.1
                clear hd htv
                go_wp2_with (first | (go_at_call 49; go_must (refine (hR1 _).mono ?_; rintro e w5 ⟨rfl, hw5⟩; rw [hw5]; clear hw5 w5)) | (go_at_call 64; go_must (refine hS2.mono ?_; rintro e w4 ⟨rfl, hR4, hK4⟩; have hc4 := HW4.out w4 hR4)))
                have hK4' := Kept.trans hK3' hK4
                by_cases hroom : text.length + N ≤ most
                · have hQ := rdRoom_ok rb s most p4 fv fx bk tv text w4 hR4 N hm hroom
                  skip
                  go_wp2_with (go_at_call 50; go_must (refine hQ.mono ?_; rintro e w5 ⟨rfl, hR5, hK5⟩))
                  have hK5' := Kept.trans hK4' hK5
                  have HR' : Hid (R = .ok (p4, copyL text far N)) := by
                    unfold Hid
                    rw [← HR.out]
                    unfold copyOf lenAt
                    simp only [h285, if_true, hlt, HZ.out, HN.out, HX.out, hd30, if_true, HY.out, HF.out, hfar, hroom]
                  have hN2 : N < 300000 := by omega
                  have hfar1 : 1 ≤ far := by omega
                  have hfar2 : far ≤ text.length := by omega
                  clear hK3 hK4 hK5 hS hS2 hQ hroom hfar
                  go_wp2_with fail
                  go_loopw [41] (fun t wr => ∃ (i : Nat) (tx : List UInt8) (v : Value), i ≤ N ∧ t = .int .i64 (i : Int) ∧ Hid (copyL tx far (N - i) = copyL text far N) ∧ tx.length = text.length + i ∧ Rd rb s most fv fx bk p4 tx v wr ∧ Kept rb w wr) (fun t _ => N - (intOf t).toNat)
                  case atStart => exact ⟨0, text, tv, Nat.zero_le _, rfl, rfl, rfl, hR5, hK5'⟩
                  case round =>
                    obtain ⟨i, tx, v, hi1, rfl, hcp, hlen, hR6, hK6⟩ := hrel
                    by_cases hiN : i < N
                    · have hlt2 : tx.length - far < tx.length := by omega
                      obtain ⟨g, cg, rfl, hg, hcl⟩ := text_cell hR6.row hlt2
                      have hcp2 : Hid (copyL (tx ++ [(tx[tx.length - far]?).getD 0]) far (N - (i + 1)) = copyL text far N) := by
                        unfold Hid
                        rw [← hcp.out, ← copyL_snoc]
                        congr 1
                        omega
                      generalize (tx[tx.length - far]?).getD 0 = cb at *
                      obtain ⟨m, hmm⟩ : ∃ m, tx.length = m := ⟨_, rfl⟩
                      have c2 := hR6.cells.2.2.1
                      have f2 := hR6.free 2
                      have hrow6 := hR6.row
                      have hrow6' : wr.drew.ownsRow (rb + 1) 5 1 (.slice (some ⟨g, 0, none⟩) tx.length cg) tx.length (Lib.byteCells tx) := hrow6
                      have hrbw := block_lt hR6.box
                      have ix1 : (0 : Int) ≤ (tx.length : Int) - (far : Int) := by omega
                      have ix2 : (tx.length : Int) - (far : Int) < (tx.length : Int) := by omega
                      have ix3 : ((tx.length : Int) - (far : Int)).toNat = tx.length - far := by omega
                      have ix4 : IntKind.i64.wrap ((tx.length : Int) - (far : Int)) = (tx.length : Int) - (far : Int) := by rw [IntKind.wrap_i64]; omega
                      have ix5 : far ≤ tx.length := by omega
                      have HL : Hid (tx.length = text.length + i) := hlen
                      have hl3 : tx.length ≤ 3001000000 := by omega
                      clear hcp hlen hmm
                      go_wp2_with fail
                      refine until_region (S := fun w' => w'.cell? ⟨rb, 2, none⟩ = some (.slice (some ⟨g, 0, none⟩) tx.length cg)) (z := 22) (by kernel_rfl) (c2) (fun hS => ?_)
                      replace hS : wr.drew.cell? ⟨rb, 2, none⟩ = some (.slice (some ⟨g, 0, none⟩) tx.length cg) := hS
                      refine until_take (i := 0) (v := ?vb1) rfl (by kernel_rfl) (by kernel_rfl) (by kernel_rfl) (by kernel_rfl) (fun _ _ _ h => h) (Or.inl ⟨by rfl, ?hb1⟩) hS ?rb1
                      case hb1 =>
                        intro w hSw
                        replace hSw : w.cell? ⟨rb, 2, none⟩ = some (.slice (some ⟨g, 0, none⟩) tx.length cg) := hSw
                        go_simp
                        try with_reducible rfl
                      refine until_take (i := 1) (v := ?vb2) rfl (by kernel_rfl) (by kernel_rfl) (by kernel_rfl) (by kernel_rfl) (fun _ _ _ h => h) (Or.inl ⟨by rfl, ?hb2⟩) hS ?rb2
                      case hb2 =>
                        intro w hSw
                        replace hSw : w.cell? ⟨rb, 2, none⟩ = some (.slice (some ⟨g, 0, none⟩) tx.length cg) := hSw
                        go_simp
                        try with_reducible rfl
                      refine until_take (i := 2) (v := ?vb3) rfl (by kernel_rfl) (by kernel_rfl) (by kernel_rfl) (by kernel_rfl) (fun _ _ _ h => h) (Or.inl ⟨by rfl, ?hb3⟩) hS ?rb3
                      case hb3 =>
                        intro w hSw
                        replace hSw : w.cell? ⟨rb, 2, none⟩ = some (.slice (some ⟨g, 0, none⟩) tx.length cg) := hSw
                        go_simp
                        try with_reducible rfl
                      refine until_take (i := 3) (v := ?vb4) rfl (by kernel_rfl) (by kernel_rfl) (by kernel_rfl) (by kernel_rfl) (fun _ _ _ h => h) (Or.inl ⟨by rfl, ?hb4⟩) hS ?rb4
                      case hb4 =>
                        intro w hSw
                        replace hSw : w.cell? ⟨rb, 2, none⟩ = some (.slice (some ⟨g, 0, none⟩) tx.length cg) := hSw
                        go_simp
                        try with_reducible rfl
                      refine until_take (i := 4) (v := ?vb5) rfl (by kernel_rfl) (by kernel_rfl) (by kernel_rfl) (by kernel_rfl) (fun _ _ _ h => h) (Or.inl ⟨by rfl, ?hb5⟩) hS ?rb5
                      case hb5 =>
                        intro w hSw
                        replace hSw : w.cell? ⟨rb, 2, none⟩ = some (.slice (some ⟨g, 0, none⟩) tx.length cg) := hSw
                        go_simp
                        try with_reducible rfl
                      refine until_take (i := 5) (v := ?vb6) rfl (by kernel_rfl) (by kernel_rfl) (by kernel_rfl) (by kernel_rfl) (fun _ _ _ h => h) (Or.inl ⟨by rfl, ?hb6⟩) hS ?rb6
                      case hb6 =>
                        intro w hSw
                        replace hSw : w.cell? ⟨rb, 2, none⟩ = some (.slice (some ⟨g, 0, none⟩) tx.length cg) := hSw
                        go_simp
                        try with_reducible rfl
                      refine until_take (i := 6) (v := ?vb7) rfl (by kernel_rfl) (by kernel_rfl) (by kernel_rfl) (by kernel_rfl) (fun _ _ _ h => h) (Or.inl ⟨by rfl, ?hb7⟩) hS ?rb7
                      case hb7 =>
                        intro w hSw
                        replace hSw : w.cell? ⟨rb, 2, none⟩ = some (.slice (some ⟨g, 0, none⟩) tx.length cg) := hSw
                        go_simp
                        try with_reducible rfl
                      refine until_take (i := 7) (v := ?vb8) rfl (by kernel_rfl) (by kernel_rfl) (by kernel_rfl) (by kernel_rfl) (fun _ _ _ h => h) (Or.inl ⟨by rfl, ?hb8⟩) hS ?rb8
                      case hb8 =>
                        intro w hSw
                        replace hSw : w.cell? ⟨rb, 2, none⟩ = some (.slice (some ⟨g, 0, none⟩) tx.length cg) := hSw
                        go_simp
                        try with_reducible rfl
                      refine until_take (i := 8) (v := ?vb9) rfl (by kernel_rfl) (by kernel_rfl) (by kernel_rfl) (by kernel_rfl) (fun _ _ _ h => h) (Or.inl ⟨by rfl, ?hb9⟩) hS ?rb9
                      case hb9 =>
                        intro w hSw
                        replace hSw : w.cell? ⟨rb, 2, none⟩ = some (.slice (some ⟨g, 0, none⟩) tx.length cg) := hSw
                        go_simp
                        try with_reducible rfl
                      refine until_take (i := 9) (v := ?vb10) rfl (by kernel_rfl) (by kernel_rfl) (by kernel_rfl) (by kernel_rfl) (fun _ _ _ h => h) (Or.inl ⟨by rfl, ?hb10⟩) hS ?rb10
                      case hb10 =>
                        intro w hSw
                        replace hSw : w.cell? ⟨rb, 2, none⟩ = some (.slice (some ⟨g, 0, none⟩) tx.length cg) := hSw
                        go_simp
                        try with_reducible rfl
                      refine until_take (i := 10) (v := ?vb11) rfl (by kernel_rfl) (by kernel_rfl) (by kernel_rfl) (by kernel_rfl) (fun _ _ _ h => h) (Or.inl ⟨by rfl, ?hb11⟩) hS ?rb11
                      case hb11 =>
                        intro w hSw
                        replace hSw : w.cell? ⟨rb, 2, none⟩ = some (.slice (some ⟨g, 0, none⟩) tx.length cg) := hSw
                        go_simp
                        try with_reducible rfl
                      refine until_take (i := 11) (v := ?vb12) rfl (by kernel_rfl) (by kernel_rfl) (by kernel_rfl) (by kernel_rfl) (fun _ _ _ h => h) (Or.inl ⟨by rfl, ?hb12⟩) hS ?rb12
                      case hb12 =>
                        intro w hSw
                        replace hSw : w.cell? ⟨rb, 2, none⟩ = some (.slice (some ⟨g, 0, none⟩) tx.length cg) := hSw
                        go_simp
                        try with_reducible rfl
                      refine until_take (i := 12) (v := ?vb13) rfl (by kernel_rfl) (by kernel_rfl) (by kernel_rfl) (by kernel_rfl) (fun _ _ _ h => h) (Or.inl ⟨by rfl, ?hb13⟩) hS ?rb13
                      case hb13 =>
                        intro w hSw
                        replace hSw : w.cell? ⟨rb, 2, none⟩ = some (.slice (some ⟨g, 0, none⟩) tx.length cg) := hSw
                        go_simp
                        try with_reducible rfl
                      refine until_take (i := 13) (v := ?vb14) rfl (by kernel_rfl) (by kernel_rfl) (by kernel_rfl) (by kernel_rfl) (fun _ _ _ h => h) (Or.inl ⟨by rfl, ?hb14⟩) hS ?rb14
                      case hb14 =>
                        intro w hSw
                        replace hSw : w.cell? ⟨rb, 2, none⟩ = some (.slice (some ⟨g, 0, none⟩) tx.length cg) := hSw
                        go_simp
                        try with_reducible rfl
                      refine until_take (i := 14) (v := ?vb15) rfl (by kernel_rfl) (by kernel_rfl) (by kernel_rfl) (by kernel_rfl) (fun _ _ _ h => h) (Or.inl ⟨by rfl, ?hb15⟩) hS ?rb15
                      case hb15 =>
                        intro w hSw
                        replace hSw : w.cell? ⟨rb, 2, none⟩ = some (.slice (some ⟨g, 0, none⟩) tx.length cg) := hSw
                        go_simp
                        try with_reducible rfl
                      refine until_take (i := 15) (v := ?vb16) rfl (by kernel_rfl) (by kernel_rfl) (by kernel_rfl) (by kernel_rfl) (fun _ _ _ h => h) (Or.inl ⟨by rfl, ?hb16⟩) hS ?rb16
                      case hb16 =>
                        intro w hSw
                        replace hSw : w.cell? ⟨rb, 2, none⟩ = some (.slice (some ⟨g, 0, none⟩) tx.length cg) := hSw
                        go_simp
                        try with_reducible rfl
                      refine until_take (i := 16) (v := ?vb17) rfl (by kernel_rfl) (by kernel_rfl) (by kernel_rfl) (by kernel_rfl) (fun _ _ _ h => h) (Or.inl ⟨by rfl, ?hb17⟩) hS ?rb17
                      case hb17 =>
                        intro w hSw
                        replace hSw : w.cell? ⟨rb, 2, none⟩ = some (.slice (some ⟨g, 0, none⟩) tx.length cg) := hSw
                        go_simp
                        try with_reducible rfl
                      refine until_one (i := 17) rfl (by kernel_rfl) (fun K hK => ?_)
                      go_simp
                      refine hK.out _ _ (fun _ => hS) (fun hS' => ?_)
                      replace hS := hS' (by decide)
                      clear hS'
                      try dsimp only at hS
                      clear hK K
                      refine until_one (i := 18) rfl (by kernel_rfl) (fun K hK => ?_)
                      go_simp
                      refine hK.out _ _ (fun _ => (World.cell?_alloc_past _ _ _ hrbw).trans hS) (fun hS' => ?_)
                      replace hS := hS' (by decide)
                      clear hS'
                      try dsimp only at hS
                      clear hK K
                      refine until_one (i := 19) rfl (by kernel_rfl) (fun K hK => ?_)
                      refine step_append_lies _ rfl (.tmp 47) (.tmp 61) 22 rfl (rb + 1) 5 i0 (.int .u8 0) 1 1 Try.underlying22 hi hz0 hz1 hz2 rfl (by decide) (.slice (some ⟨g, 0, none⟩) tx.length cg) tx.length (Lib.byteCells tx) (by simp [Act.eval]) (hrow6'.alloc _) ⟨wr.drew.heap.size, 0, none⟩ 1 1 [.int .u8 (cb.toNat : Int)] (by simp [Act.eval]) rfl (cell_one_new _ _ _) (by intro u hu; simp at hu; subst hu; rfl) (by decide) (by unfold maxLen; omega) (by omega) (by simp; omega) _ rfl ?_
                      intro g2 cap2 w6 hown2 hgrow _ _
                      obtain ⟨hR7, hK7, hcell7, hfr7⟩ := hR6.drew.step ((Below.refl _ wr.drew).alloc (Nat.le_refl _) _) hgrow (own_snoc (c := cb) hown2)
                      have HR7 : Hid (Rd rb s most fv fx bk p4 (tx ++ [cb]) (.slice (some ⟨g2, 0, none⟩) (tx.length + 1) cap2) (w6.setCell ⟨rb, 2, none⟩ (.slice (some ⟨g2, 0, none⟩) (tx.length + 1) cap2))) := hR7
                      clear hR7 hown2 hgrow
                      refine hK.out _ _ (fun _ => hcell7) (fun hS' => ?_)
                      replace hS := hS' (by decide)
                      clear hS'
                      try dsimp only at hS
                      clear hK K
                      refine until_one (i := 20) rfl (by kernel_rfl) (fun K hK => ?_)
                      go_simp
                      refine hK.out _ _ (fun _ => hS) (fun hS' => ?_)
                      replace hS := hS' (by decide)
                      clear hS'
                      try dsimp only at hS
                      clear hK K
                      refine until_take (i := 21) (v := ?vb18) rfl (by kernel_rfl) (by kernel_rfl) (by kernel_rfl) (by kernel_rfl) (fun _ _ _ h => h) (Or.inl ⟨by rfl, ?hb18⟩) hS ?rb18
                      case hb18 =>
                        intro w hSw
                        replace hSw : w.cell? ⟨rb, 2, none⟩ = some (.slice (some ⟨g, 0, none⟩) tx.length cg) := hSw
                        go_simp
                        try with_reducible rfl
                      refine until_one (i := 22) rfl (by kernel_rfl) (fun K hK => ?_)
                      go_simp
                      refine hK.out _ _ (fun h => absurd rfl h) (fun _ => ?_)
                      clear hK K
                      refine until_done (by kernel_rfl) ?_ _
                      go_wp2_with fail
                      go_roundw
                      case rel => exact ⟨i + 1, tx ++ [cb], _, by omega, by go_num, hcp2, by rw [List.length_append, List.length_singleton, HL.out]; omega, HR7.out, hK6.trans (Kept.trans (Kept.refl rb wr).drew hK7)⟩
                      case measure => simp [intOf]; omega
                    · have hiE : i = N := by omega
                      have hcp' : Hid (tx = copyL text far N) := by
                        unfold Hid
                        rw [← hcp.out, hiE, Nat.sub_self]
                        rfl
                      clear hcp hiE
                      go_wp2
                      go_end0
                      rw [HR'.out, ← hcp'.out]
                      exact ⟨rfl, v, hR6, hK6⟩
                · have hQ := rdRoom_err rb s most p4 fv fx bk tv text w4 hR4 N hm (by omega) hroom
                  skip
                  go_wp2_with (go_at_call 50; go_must (refine hQ.mono ?_; rintro e w5 ⟨rfl, hb5⟩))
                  exact ⟨rfl, by rw [show R = .error 12 by (rw [← HR.out]; unfold copyOf lenAt; simp only [h285, if_true, hlt, HZ.out, HN.out, HX.out, hd30, if_true, HY.out, HF.out, hfar, hroom, if_false])]; exact ⟨rfl, hK4'.below.trans hb5⟩⟩
              · have efar : decide ((far : Int) ≤ (text.length : Int)) = false := decide_eq_false (by omega)
                have hE := fun w => hRequire_err 10 w
                have HW4 : Hid (∀ w4, Rd rb s most fv fx bk p4 text tv w4 → w4.cell? ⟨rb, 2, none⟩ = some (.slice ta text.length tc)) := fun w4 h4 => htv ▸ h4.cells.2.2.1
                clear hd htv
                go_wp2_with (first | (go_at_call 64; go_must (refine hS2.mono ?_; rintro e w4 ⟨rfl, hR4, hK4⟩; have hc4 := HW4.out w4 hR4)) | (go_at_call 49; go_must (refine (hE _).mono ?_; rintro e w5 ⟨rfl, hw5⟩; rw [hw5]; clear hw5 w5)))
                exact ⟨rfl, by rw [show R = .error 10 by (rw [← HR.out]; unfold copyOf lenAt; simp only [h285, if_true, hlt, HZ.out, HN.out, HX.out, hd30, if_true, HY.out, HF.out, hfar, if_false])]; exact ⟨rfl, (hK3'.trans hK4).below⟩⟩
          · have e30 : decide ((d : Int) < 30) = false := decide_eq_false (by omega)
            have hE := fun w => hRequire_err 10 w
            go_wp2_with (first | (go_at_call 61; go_must (refine hS.mono ?_; rintro e w3 ⟨rfl, hR3, hK3⟩)) | (go_at_call 49; go_must (refine (hE _).mono ?_; rintro e w4 ⟨rfl, hw4⟩; rw [hw4]; clear hw4 w4)))
            exact ⟨rfl, by rw [show R = .error 10 by (rw [← HR.out]; unfold copyOf lenAt; simp only [h285, if_true, hlt, HZ.out, HN.out, HX.out, hd30, if_false])]; exact ⟨rfl, (Kept.trans hK2 hK3).below⟩⟩
    · have hK0 := Kept.refl rb w
      have h285' : ¬ (sg : Int) < 285 := by omega
      go_enter Try.func62, Try.ntmps62
      go_wp2_with (go_at_call 49; go_must (refine (hR1 _).mono ?_; rintro e w4 ⟨rfl, hw4⟩; rw [hw4]; clear hw4 w4))
      have hS := rdSign_any rb s most p fv fx bk tv bp text B w h (hC.kept hK0) hB hs
      cases hx : sgn B s.data.toList p with
      | error k =>
        rw [hx] at hS
        have HX : Hid (sgn B s.data.toList p = .error k) := hx
        clear hx
        go_wp2_with (go_at_call 61; go_must (refine hS.mono ?_; rintro e w3 ⟨rfl, hb3⟩))
        exact ⟨rfl, by rw [show R = .error k by (rw [← HR.out]; unfold copyOf lenAt; simp only [h285, if_true, hlt, if_false, HX.out])]; exact ⟨rfl, (hK0).below.trans hb3⟩⟩
      | ok dq =>
        obtain ⟨d, p3⟩ := dq
        rw [hx] at hS
        have HX : Hid (sgn B s.data.toList p = .ok (d, p3)) := hx
        have hd := (sgn_ok hx).1
        clear hx
        by_cases hd30 : d < 30
        · have e30 : decide ((d : Int) < 30) = true := decide_eq_true (by omega)
          go_wp2_with (first | (go_at_call 49; go_must (refine (hR1 _).mono ?_; rintro e w4 ⟨rfl, hw4⟩; rw [hw4]; clear hw4 w4)) | (go_at_call 61; go_must (refine hS.mono ?_; rintro e w3 ⟨rfl, hR3, hK3⟩)))
          have hK3' := Kept.trans hK0 hK3
          have hS2 := rdStep_any rb s most p3 fv fx bk tv text w3 hR3 d 2 hd30 (Or.inl rfl) hs
          cases hy : stepAt s.data.toList d 2 p3 with
          | error k =>
            rw [hy] at hS2
            have HY : Hid (stepAt s.data.toList d 2 p3 = .error k) := hy
            clear hy
            go_wp2_with (go_at_call 64; go_must (refine hS2.mono ?_; rintro e w4 ⟨rfl, hb4⟩))
            exact ⟨rfl, by rw [show R = .error k by (rw [← HR.out]; unfold copyOf lenAt; simp only [h285, if_true, hlt, if_false, HX.out, hd30, if_true, HY.out])]; exact ⟨rfl, hK3'.below.trans hb4⟩⟩
          | ok xq =>
            obtain ⟨x, p4⟩ := xq
            rw [hy] at hS2
            have hx2 := stepAt_lt hy hd30 (Or.inl rfl)
            have HY : Hid (stepAt s.data.toList d 2 p3 = .ok (x, p4)) := hy
            have hx3 := hx2.1
            clear hy hx2
            obtain ⟨far, hf⟩ : ∃ far, 1 + x = far := ⟨_, rfl⟩
            have eF : (1 : Int) + (x : Int) = (far : Int) := by omega
            have HF : Hid (1 + x = far) := hf
            have hf1 : 1 ≤ far := by omega
            clear hf
            obtain ⟨ta, tc, htv⟩ := own_shape hR3.row
            by_cases hfar : far ≤ text.length
            · have efar : decide ((far : Int) ≤ (text.length : Int)) = true := decide_eq_true (by omega)
              have HW4 : Hid (∀ w4, Rd rb s most fv fx bk p4 text tv w4 → w4.cell? ⟨rb, 2, none⟩ = some (.slice ta text.length tc)) := fun w4 h4 => htv ▸ h4.cells.2.2.1
              clear hd htv
              go_wp2_with (first | (go_at_call 49; go_must (refine (hR1 _).mono ?_; rintro e w5 ⟨rfl, hw5⟩; rw [hw5]; clear hw5 w5)) | (go_at_call 64; go_must (refine hS2.mono ?_; rintro e w4 ⟨rfl, hR4, hK4⟩; have hc4 := HW4.out w4 hR4)))
              have hK4' := Kept.trans hK3' hK4
              by_cases hroom : text.length + 258 ≤ most
              · have hQ := rdRoom_ok rb s most p4 fv fx bk tv text w4 hR4 258 hm hroom
                skip
                go_wp2_with (go_at_call 50; go_must (refine hQ.mono ?_; rintro e w5 ⟨rfl, hR5, hK5⟩))
                have hK5' := Kept.trans hK4' hK5
                have HR' : Hid (R = .ok (p4, copyL text far 258)) := by
                  unfold Hid
                  rw [← HR.out]
                  unfold copyOf lenAt
                  simp only [h285, if_true, hlt, if_false, HX.out, hd30, if_true, HY.out, HF.out, hfar, hroom]
                have hN2 : 258 < 300000 := by omega
                have hfar1 : 1 ≤ far := by omega
                have hfar2 : far ≤ text.length := by omega
                clear hK3 hK4 hK5 hS hS2 hQ hroom hfar
                go_wp2_with fail
                go_loopw [41] (fun t wr => ∃ (i : Nat) (tx : List UInt8) (v : Value), i ≤ 258 ∧ t = .int .i64 (i : Int) ∧ Hid (copyL tx far (258 - i) = copyL text far 258) ∧ tx.length = text.length + i ∧ Rd rb s most fv fx bk p4 tx v wr ∧ Kept rb w wr) (fun t _ => 258 - (intOf t).toNat)
                case atStart => exact ⟨0, text, tv, Nat.zero_le _, rfl, rfl, rfl, hR5, hK5'⟩
                case round =>
                  obtain ⟨i, tx, v, hi1, rfl, hcp, hlen, hR6, hK6⟩ := hrel
                  by_cases hiN : i < 258
                  · have hlt2 : tx.length - far < tx.length := by omega
                    obtain ⟨g, cg, rfl, hg, hcl⟩ := text_cell hR6.row hlt2
                    have hcp2 : Hid (copyL (tx ++ [(tx[tx.length - far]?).getD 0]) far (258 - (i + 1)) = copyL text far 258) := by
                      unfold Hid
                      rw [← hcp.out, ← copyL_snoc]
                      congr 1
                      omega
                    generalize (tx[tx.length - far]?).getD 0 = cb at *
                    obtain ⟨m, hmm⟩ : ∃ m, tx.length = m := ⟨_, rfl⟩
                    have c2 := hR6.cells.2.2.1
                    have f2 := hR6.free 2
                    have hrow6 := hR6.row
                    have hrow6' : wr.drew.ownsRow (rb + 1) 5 1 (.slice (some ⟨g, 0, none⟩) tx.length cg) tx.length (Lib.byteCells tx) := hrow6
                    have hrbw := block_lt hR6.box
                    have ix1 : (0 : Int) ≤ (tx.length : Int) - (far : Int) := by omega
                    have ix2 : (tx.length : Int) - (far : Int) < (tx.length : Int) := by omega
                    have ix3 : ((tx.length : Int) - (far : Int)).toNat = tx.length - far := by omega
                    have ix4 : IntKind.i64.wrap ((tx.length : Int) - (far : Int)) = (tx.length : Int) - (far : Int) := by rw [IntKind.wrap_i64]; omega
                    have ix5 : far ≤ tx.length := by omega
                    have HL : Hid (tx.length = text.length + i) := hlen
                    have hl3 : tx.length ≤ 3001000000 := by omega
                    clear hcp hlen hmm
                    go_wp2_with fail
                    refine until_region (S := fun w' => w'.cell? ⟨rb, 2, none⟩ = some (.slice (some ⟨g, 0, none⟩) tx.length cg)) (z := 22) (by kernel_rfl) (c2) (fun hS => ?_)
                    replace hS : wr.drew.cell? ⟨rb, 2, none⟩ = some (.slice (some ⟨g, 0, none⟩) tx.length cg) := hS
                    refine until_take (i := 0) (v := ?va1) rfl (by kernel_rfl) (by kernel_rfl) (by kernel_rfl) (by kernel_rfl) (fun _ _ _ h => h) (Or.inl ⟨by rfl, ?ha1⟩) hS ?ra1
                    case ha1 =>
                      intro w hSw
                      replace hSw : w.cell? ⟨rb, 2, none⟩ = some (.slice (some ⟨g, 0, none⟩) tx.length cg) := hSw
                      go_simp
                      try with_reducible rfl
                    refine until_take (i := 1) (v := ?va2) rfl (by kernel_rfl) (by kernel_rfl) (by kernel_rfl) (by kernel_rfl) (fun _ _ _ h => h) (Or.inl ⟨by rfl, ?ha2⟩) hS ?ra2
                    case ha2 =>
                      intro w hSw
                      replace hSw : w.cell? ⟨rb, 2, none⟩ = some (.slice (some ⟨g, 0, none⟩) tx.length cg) := hSw
                      go_simp
                      try with_reducible rfl
                    refine until_take (i := 2) (v := ?va3) rfl (by kernel_rfl) (by kernel_rfl) (by kernel_rfl) (by kernel_rfl) (fun _ _ _ h => h) (Or.inl ⟨by rfl, ?ha3⟩) hS ?ra3
                    case ha3 =>
                      intro w hSw
                      replace hSw : w.cell? ⟨rb, 2, none⟩ = some (.slice (some ⟨g, 0, none⟩) tx.length cg) := hSw
                      go_simp
                      try with_reducible rfl
                    refine until_take (i := 3) (v := ?va4) rfl (by kernel_rfl) (by kernel_rfl) (by kernel_rfl) (by kernel_rfl) (fun _ _ _ h => h) (Or.inl ⟨by rfl, ?ha4⟩) hS ?ra4
                    case ha4 =>
                      intro w hSw
                      replace hSw : w.cell? ⟨rb, 2, none⟩ = some (.slice (some ⟨g, 0, none⟩) tx.length cg) := hSw
                      go_simp
                      try with_reducible rfl
                    refine until_take (i := 4) (v := ?va5) rfl (by kernel_rfl) (by kernel_rfl) (by kernel_rfl) (by kernel_rfl) (fun _ _ _ h => h) (Or.inl ⟨by rfl, ?ha5⟩) hS ?ra5
                    case ha5 =>
                      intro w hSw
                      replace hSw : w.cell? ⟨rb, 2, none⟩ = some (.slice (some ⟨g, 0, none⟩) tx.length cg) := hSw
                      go_simp
                      try with_reducible rfl
                    refine until_take (i := 5) (v := ?va6) rfl (by kernel_rfl) (by kernel_rfl) (by kernel_rfl) (by kernel_rfl) (fun _ _ _ h => h) (Or.inl ⟨by rfl, ?ha6⟩) hS ?ra6
                    case ha6 =>
                      intro w hSw
                      replace hSw : w.cell? ⟨rb, 2, none⟩ = some (.slice (some ⟨g, 0, none⟩) tx.length cg) := hSw
                      go_simp
                      try with_reducible rfl
                    refine until_take (i := 6) (v := ?va7) rfl (by kernel_rfl) (by kernel_rfl) (by kernel_rfl) (by kernel_rfl) (fun _ _ _ h => h) (Or.inl ⟨by rfl, ?ha7⟩) hS ?ra7
                    case ha7 =>
                      intro w hSw
                      replace hSw : w.cell? ⟨rb, 2, none⟩ = some (.slice (some ⟨g, 0, none⟩) tx.length cg) := hSw
                      go_simp
                      try with_reducible rfl
                    refine until_take (i := 7) (v := ?va8) rfl (by kernel_rfl) (by kernel_rfl) (by kernel_rfl) (by kernel_rfl) (fun _ _ _ h => h) (Or.inl ⟨by rfl, ?ha8⟩) hS ?ra8
                    case ha8 =>
                      intro w hSw
                      replace hSw : w.cell? ⟨rb, 2, none⟩ = some (.slice (some ⟨g, 0, none⟩) tx.length cg) := hSw
                      go_simp
                      try with_reducible rfl
                    refine until_take (i := 8) (v := ?va9) rfl (by kernel_rfl) (by kernel_rfl) (by kernel_rfl) (by kernel_rfl) (fun _ _ _ h => h) (Or.inl ⟨by rfl, ?ha9⟩) hS ?ra9
                    case ha9 =>
                      intro w hSw
                      replace hSw : w.cell? ⟨rb, 2, none⟩ = some (.slice (some ⟨g, 0, none⟩) tx.length cg) := hSw
                      go_simp
                      try with_reducible rfl
                    refine until_take (i := 9) (v := ?va10) rfl (by kernel_rfl) (by kernel_rfl) (by kernel_rfl) (by kernel_rfl) (fun _ _ _ h => h) (Or.inl ⟨by rfl, ?ha10⟩) hS ?ra10
                    case ha10 =>
                      intro w hSw
                      replace hSw : w.cell? ⟨rb, 2, none⟩ = some (.slice (some ⟨g, 0, none⟩) tx.length cg) := hSw
                      go_simp
                      try with_reducible rfl
                    refine until_take (i := 10) (v := ?va11) rfl (by kernel_rfl) (by kernel_rfl) (by kernel_rfl) (by kernel_rfl) (fun _ _ _ h => h) (Or.inl ⟨by rfl, ?ha11⟩) hS ?ra11
                    case ha11 =>
                      intro w hSw
                      replace hSw : w.cell? ⟨rb, 2, none⟩ = some (.slice (some ⟨g, 0, none⟩) tx.length cg) := hSw
                      go_simp
                      try with_reducible rfl
                    refine until_take (i := 11) (v := ?va12) rfl (by kernel_rfl) (by kernel_rfl) (by kernel_rfl) (by kernel_rfl) (fun _ _ _ h => h) (Or.inl ⟨by rfl, ?ha12⟩) hS ?ra12
                    case ha12 =>
                      intro w hSw
                      replace hSw : w.cell? ⟨rb, 2, none⟩ = some (.slice (some ⟨g, 0, none⟩) tx.length cg) := hSw
                      go_simp
                      try with_reducible rfl
                    refine until_take (i := 12) (v := ?va13) rfl (by kernel_rfl) (by kernel_rfl) (by kernel_rfl) (by kernel_rfl) (fun _ _ _ h => h) (Or.inl ⟨by rfl, ?ha13⟩) hS ?ra13
                    case ha13 =>
                      intro w hSw
                      replace hSw : w.cell? ⟨rb, 2, none⟩ = some (.slice (some ⟨g, 0, none⟩) tx.length cg) := hSw
                      go_simp
                      try with_reducible rfl
                    refine until_take (i := 13) (v := ?va14) rfl (by kernel_rfl) (by kernel_rfl) (by kernel_rfl) (by kernel_rfl) (fun _ _ _ h => h) (Or.inl ⟨by rfl, ?ha14⟩) hS ?ra14
                    case ha14 =>
                      intro w hSw
                      replace hSw : w.cell? ⟨rb, 2, none⟩ = some (.slice (some ⟨g, 0, none⟩) tx.length cg) := hSw
                      go_simp
                      try with_reducible rfl
                    refine until_take (i := 14) (v := ?va15) rfl (by kernel_rfl) (by kernel_rfl) (by kernel_rfl) (by kernel_rfl) (fun _ _ _ h => h) (Or.inl ⟨by rfl, ?ha15⟩) hS ?ra15
                    case ha15 =>
                      intro w hSw
                      replace hSw : w.cell? ⟨rb, 2, none⟩ = some (.slice (some ⟨g, 0, none⟩) tx.length cg) := hSw
                      go_simp
                      try with_reducible rfl
                    refine until_take (i := 15) (v := ?va16) rfl (by kernel_rfl) (by kernel_rfl) (by kernel_rfl) (by kernel_rfl) (fun _ _ _ h => h) (Or.inl ⟨by rfl, ?ha16⟩) hS ?ra16
                    case ha16 =>
                      intro w hSw
                      replace hSw : w.cell? ⟨rb, 2, none⟩ = some (.slice (some ⟨g, 0, none⟩) tx.length cg) := hSw
                      go_simp
                      try with_reducible rfl
                    refine until_take (i := 16) (v := ?va17) rfl (by kernel_rfl) (by kernel_rfl) (by kernel_rfl) (by kernel_rfl) (fun _ _ _ h => h) (Or.inl ⟨by rfl, ?ha17⟩) hS ?ra17
                    case ha17 =>
                      intro w hSw
                      replace hSw : w.cell? ⟨rb, 2, none⟩ = some (.slice (some ⟨g, 0, none⟩) tx.length cg) := hSw
                      go_simp
                      try with_reducible rfl
                    refine until_one (i := 17) rfl (by kernel_rfl) (fun K hK => ?_)
                    go_simp
                    refine hK.out _ _ (fun _ => hS) (fun hS' => ?_)
                    replace hS := hS' (by decide)
                    clear hS'
                    try dsimp only at hS
                    clear hK K
                    refine until_one (i := 18) rfl (by kernel_rfl) (fun K hK => ?_)
                    go_simp
                    refine hK.out _ _ (fun _ => (World.cell?_alloc_past _ _ _ hrbw).trans hS) (fun hS' => ?_)
                    replace hS := hS' (by decide)
                    clear hS'
                    try dsimp only at hS
                    clear hK K
                    refine until_one (i := 19) rfl (by kernel_rfl) (fun K hK => ?_)
                    refine step_append_lies _ rfl (.tmp 47) (.tmp 61) 22 rfl (rb + 1) 5 i0 (.int .u8 0) 1 1 Try.underlying22 hi hz0 hz1 hz2 rfl (by decide) (.slice (some ⟨g, 0, none⟩) tx.length cg) tx.length (Lib.byteCells tx) (by simp [Act.eval]) (hrow6'.alloc _) ⟨wr.drew.heap.size, 0, none⟩ 1 1 [.int .u8 (cb.toNat : Int)] (by simp [Act.eval]) rfl (cell_one_new _ _ _) (by intro u hu; simp at hu; subst hu; rfl) (by decide) (by unfold maxLen; omega) (by omega) (by simp; omega) _ rfl ?_
                    intro g2 cap2 w6 hown2 hgrow _ _
                    obtain ⟨hR7, hK7, hcell7, hfr7⟩ := hR6.drew.step ((Below.refl _ wr.drew).alloc (Nat.le_refl _) _) hgrow (own_snoc (c := cb) hown2)
                    have HR7 : Hid (Rd rb s most fv fx bk p4 (tx ++ [cb]) (.slice (some ⟨g2, 0, none⟩) (tx.length + 1) cap2) (w6.setCell ⟨rb, 2, none⟩ (.slice (some ⟨g2, 0, none⟩) (tx.length + 1) cap2))) := hR7
                    clear hR7 hown2 hgrow
                    refine hK.out _ _ (fun _ => hcell7) (fun hS' => ?_)
                    replace hS := hS' (by decide)
                    clear hS'
                    try dsimp only at hS
                    clear hK K
                    refine until_one (i := 20) rfl (by kernel_rfl) (fun K hK => ?_)
                    go_simp
                    refine hK.out _ _ (fun _ => hS) (fun hS' => ?_)
                    replace hS := hS' (by decide)
                    clear hS'
                    try dsimp only at hS
                    clear hK K
                    refine until_take (i := 21) (v := ?va18) rfl (by kernel_rfl) (by kernel_rfl) (by kernel_rfl) (by kernel_rfl) (fun _ _ _ h => h) (Or.inl ⟨by rfl, ?ha18⟩) hS ?ra18
                    case ha18 =>
                      intro w hSw
                      replace hSw : w.cell? ⟨rb, 2, none⟩ = some (.slice (some ⟨g, 0, none⟩) tx.length cg) := hSw
                      go_simp
                      try with_reducible rfl
                    refine until_one (i := 22) rfl (by kernel_rfl) (fun K hK => ?_)
                    go_simp
                    refine hK.out _ _ (fun h => absurd rfl h) (fun _ => ?_)
                    clear hK K
                    refine until_done (by kernel_rfl) ?_ _
                    go_wp2_with fail
                    go_roundw
                    case rel => exact ⟨i + 1, tx ++ [cb], _, by omega, by go_num, hcp2, by rw [List.length_append, List.length_singleton, HL.out]; omega, HR7.out, hK6.trans (Kept.trans (Kept.refl rb wr).drew hK7)⟩
                    case measure => simp [intOf]; omega
                  · have hiE : i = 258 := by omega
                    have hcp' : Hid (tx = copyL text far 258) := by
                      unfold Hid
                      rw [← hcp.out, hiE, Nat.sub_self]
                      rfl
                    clear hcp hiE
                    go_wp2
                    go_end0
                    rw [HR'.out, ← hcp'.out]
                    exact ⟨rfl, v, hR6, hK6⟩
              · have hQ := rdRoom_err rb s most p4 fv fx bk tv text w4 hR4 258 hm (by omega) hroom
                skip
                go_wp2_with (go_at_call 50; go_must (refine hQ.mono ?_; rintro e w5 ⟨rfl, hb5⟩))
                exact ⟨rfl, by rw [show R = .error 12 by (rw [← HR.out]; unfold copyOf lenAt; simp only [h285, if_true, hlt, if_false, HX.out, hd30, if_true, HY.out, HF.out, hfar, hroom, if_false])]; exact ⟨rfl, hK4'.below.trans hb5⟩⟩
            · have efar : decide ((far : Int) ≤ (text.length : Int)) = false := decide_eq_false (by omega)
              have hE := fun w => hRequire_err 10 w
              have HW4 : Hid (∀ w4, Rd rb s most fv fx bk p4 text tv w4 → w4.cell? ⟨rb, 2, none⟩ = some (.slice ta text.length tc)) := fun w4 h4 => htv ▸ h4.cells.2.2.1
              clear hd htv
              go_wp2_with (first | (go_at_call 64; go_must (refine hS2.mono ?_; rintro e w4 ⟨rfl, hR4, hK4⟩; have hc4 := HW4.out w4 hR4)) | (go_at_call 49; go_must (refine (hE _).mono ?_; rintro e w5 ⟨rfl, hw5⟩; rw [hw5]; clear hw5 w5)))
              exact ⟨rfl, by rw [show R = .error 10 by (rw [← HR.out]; unfold copyOf lenAt; simp only [h285, if_true, hlt, if_false, HX.out, hd30, if_true, HY.out, HF.out, hfar, if_false])]; exact ⟨rfl, (hK3'.trans hK4).below⟩⟩
        · have e30 : decide ((d : Int) < 30) = false := decide_eq_false (by omega)
          have hE := fun w => hRequire_err 10 w
          go_wp2_with (first | (go_at_call 61; go_must (refine hS.mono ?_; rintro e w3 ⟨rfl, hR3, hK3⟩)) | (go_at_call 49; go_must (refine (hE _).mono ?_; rintro e w4 ⟨rfl, hw4⟩; rw [hw4]; clear hw4 w4)))
          exact ⟨rfl, by rw [show R = .error 10 by (rw [← HR.out]; unfold copyOf lenAt; simp only [h285, if_true, hlt, if_false, HX.out, hd30, if_false])]; exact ⟨rfl, (Kept.trans hK0 hK3).below⟩⟩
  · have e1 : decide ((sg : Int) ≤ 285) = false := decide_eq_false (by omega)
    have hR1 := fun w => hRequire_err 10 w
    go_enter Try.func62, Try.ntmps62
    go_wp2_with (go_at_call 49; go_must (refine (hR1 _).mono ?_; rintro e w1 ⟨rfl, hw1⟩; rw [hw1]; clear hw1 w1))
    exact ⟨rfl, by rw [show R = .error 10 by (rw [← HR.out]; unfold copyOf; simp only [h285, if_false])]; exact ⟨rfl, Below.refl _ _⟩⟩
end Go.Proofs.Ytbhnlomppobbkaa
