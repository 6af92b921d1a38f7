/-
  The program's reader: the signs of a block.
-/
import Derived.Test.YtbhnlomppobbkaaHR5
namespace Go.Proofs.Ytbhnlomppobbkaa
open Go.RowKit Ch
set_option maxRecDepth 100000

/-- The bit at which the reader stands. -/
def atOf (rb : Nat) (w : World) : Nat := (intOf ((w.cell? ⟨rb, 1, none⟩).getD undef)).toNat
theorem atOf_eq {rb : Nat} {s : ByteArray} {most p : Nat} {fv fx bk tv : Value} {text : List UInt8} {W : World} (h : Rd rb s most fv fx bk p text tv W) : atOf rb W = p := by
  unfold atOf
  rw [h.cells.2.1]
  simp [intOf]
theorem len_fin : ∀ i : Fin 28, (moreN i.val 4).1 + 2 ^ (moreN i.val 4).2 ≤ 256 := by decide +kernel
theorem rdNum_ok {l : List UInt8} {k p x q : Nat} (h : rdNum l k p = .ok (x, q)) : x < 2 ^ k ∧ q = p + k ∧ q ≤ 8 * l.length := by
  unfold rdNum at h
  split at h
  · simp only [Except.ok.injEq, Prod.mk.injEq] at h
    rw [← h.1]
    exact ⟨numAt_lt _ _ _, by omega, by omega⟩
  · cases h
theorem lenAt_ok {l : List UInt8} {s p n q : Nat} (h : lenAt l s p = .ok (n, q)) (hs : 257 ≤ s) : n ≤ 258 ∧ p ≤ q := by
  unfold lenAt stepAt at h
  split at h
  · rename_i hlt
    cases hx : rdNum l (moreN (s - 257) 4).2 p with
    | error e => rw [hx] at h; cases h
    | ok xq =>
      obtain ⟨x, q'⟩ := xq
      rw [hx] at h
      simp only [Except.ok.injEq, Prod.mk.injEq] at h
      obtain ⟨h1, h2, _⟩ := rdNum_ok hx
      have := len_fin ⟨s - 257, by omega⟩
      simp only at this
      omega
  · simp only [Except.ok.injEq, Prod.mk.injEq] at h
    omega
theorem copyOf_ok {B : List Nat} {l : List UInt8} {most s p q : Nat} {text t2 : List UInt8} (h : copyOf B l most s p text = .ok (q, t2)) (hs : 257 ≤ s) : t2.length ≤ text.length + 258 ∧ p < q ∧ q ≤ 8 * l.length := by
  unfold copyOf at h
  split at h
  · cases hx : lenAt l s p with
    | error e => rw [hx] at h; cases h
    | ok nq =>
      obtain ⟨n, p2⟩ := nq
      rw [hx] at h
      obtain ⟨h1, h2⟩ := lenAt_ok hx hs
      simp only at h
      cases hy : sgn B l p2 with
      | error e => rw [hy] at h; cases h
      | ok dq =>
        obtain ⟨d, p3⟩ := dq
        rw [hy] at h
        obtain ⟨_, h3, _⟩ := sgn_ok hy
        simp only at h
        split at h
        · rename_i hd
          cases hz : stepAt l d 2 p3 with
          | error e => rw [hz] at h; cases h
          | ok xq =>
            obtain ⟨x, p4⟩ := xq
            rw [hz] at h
            obtain ⟨_, h4, h5⟩ := stepAt_lt hz hd (Or.inl rfl)
            simp only at h
            split at h
            · split at h
              · simp only [Except.ok.injEq, Prod.mk.injEq] at h
                obtain ⟨rfl, rfl⟩ := h
                rw [copyL_length]
                omega
              · cases h
            · cases h
        · cases h
  · cases h
set_option maxHeartbeats 8000000 in
theorem rdSigns_any (rb : Nat) (s : ByteArray) (most p : Nat) (fv fx bk tv cp bp : Value) (text : List UInt8) (L B : List Nat) (w : World) (h : Rd rb s most fv fx bk p text tv w) (hC : IsCodes rb L cp w) (hD : IsCodes rb B bp w) (hL : L.length ≤ 400) (hB : B.length ≤ 400) (hs : s.size ≤ 1000000) (hm : most ≤ 9223372036854775807) (hT : text.length ≤ 300 * p) :
    Calls Try.prog 55 #[.pointer (some ⟨rb, 0, none⟩), cp, bp] w (Ends rb w (signsL L B s.data.toList most p text) fun x e w' => e = .returned (.tuple #[]) ∧ ∃ tv', Rd rb s most fv fx bk x.1 x.2 tv' w' ∧ Kept rb w w') := by
  obtain ⟨i0, hi, hz0, hz1, hz2⟩ := info5
  obtain ⟨R, hR⟩ : ∃ R, signsL L B s.data.toList most p text = R := ⟨_, rfl⟩
  rw [hR]
  unfold signsL at hR
  rw [len_eq] at hR
  have hple := h.le
  go_enter Try.func55, Try.ntmps55
  go_wp2_with fail
  go_loopw [6] (fun _ wr => ∃ (f q : Nat) (tx : List UInt8) (v : Value), Hid (signsF L B s.data.toList most f q tx = R ∧ 8 * s.size + 1 ≤ f + q) ∧ tx.length ≤ 300 * q ∧ Rd rb s most fv fx bk q tx v wr ∧ Kept rb w wr) (fun _ wr => 8 * s.size + 1 - atOf rb wr)
  case atStart => exact ⟨8 * s.size + 1 - p, p, text, tv, ⟨hR, by omega⟩, hT, h, Kept.refl _ _⟩
  case round =>
    obtain ⟨f, q, tx, v, HF, hlen, hW, hK⟩ := hrel
    obtain ⟨hF, hfq⟩ := HF.out
    have hq := hW.le
    have hat := atOf_eq hW
    obtain ⟨f, rfl⟩ : ∃ f', f = f' + 1 := ⟨f - 1, by omega⟩
    rw [signsF] at hF
    have hS := rdSign_any rb s most q fv fx bk v cp tx L wr hW (hC.kept hK) hL hs
    cases hx : sgn L s.data.toList q with
    | error k =>
      rw [hx] at hS hF
      have HR : Hid (Except.error k = R) := hF
      clear hF HF hx hat
      go_wp2_with (go_at_call 61; go_must (refine hS.mono ?_; rintro e w1 ⟨rfl, hb1⟩))
      exact ⟨rfl, by rw [← HR.out]; exact ⟨rfl, hK.below.trans hb1⟩⟩
    | ok sq =>
      obtain ⟨sg, q1⟩ := sq
      rw [hx] at hS hF
      obtain ⟨hsl, hq1, hq2⟩ := sgn_ok hx
      rw [len_eq] at hq2
      clear hx
      simp only at hF
      by_cases h256 : sg < 256
      · rw [if_pos h256] at hF
        by_cases hroom : tx.length + 1 ≤ most
        · rw [if_pos hroom] at hF
          obtain ⟨c, hc⟩ : ∃ c : UInt8, c.toNat = sg := ⟨UInt8.ofNat sg, by rw [UInt8.toNat_ofNat']; omega⟩
          have hc2 : UInt8.ofNat sg = c := by rw [← hc]; exact UInt8.ofNat_toNat
          rw [hc2] at hF
          have HF2 : Hid (signsF L B s.data.toList most f q1 (tx ++ [c]) = R ∧ 8 * s.size + 1 ≤ f + q1) := ⟨hF, by omega⟩
          subst hc
          have HAT : Hid (atOf rb wr = q) := hat
          clear hF HF hat hc2
          have e256 : ((c.toNat : Int)) % 256 = (c.toNat : Int) := by omega
          have hQ := fun w1 h1 => rdRoom_ok rb s most q1 fv fx bk v tx w1 h1 1 hm hroom
          obtain ⟨va, vc, rfl⟩ := own_shape hW.row
          have hl3 : tx.length ≤ 3000000000 := by omega
          go_wp2_with (go_at_call 61; go_must (refine hS.mono ?_; rintro e w1 ⟨rfl, hR1, hK1⟩))
          go_wp2_with (first | (go_at_call 50; go_must (refine (hQ w1 hR1).mono ?_; rintro e w2 ⟨rfl, hR2, hK2⟩; have c2 := hR2.cells.2.2.1; have f2 := hR2.free 2; have hrow2 := hR2.row; have hrb2 := block_lt hR2.box)) | (at_builtin; go_must (refine wpList_append_own _ rfl _ _ 22 rfl (rb + 1) 5 i0 (.int .u8 0) 1 1 Try.underlying22 hi hz0 hz1 hz2 rfl (by decide) _ _ _ rfl (hrow2.alloc _) ⟨w2.heap.size, 0, none⟩ 1 1 [_] rfl rfl (cell_one_new _ _ _) (by intro u hu; simp at hu; subst hu; rfl) (by unfold maxLen; omega) (by omega) (by simp; omega) ?_)))
          intro v' w3 hown3 hgrow _
          obtain ⟨hR4, hK4, hcell4, hfr4⟩ := hR2.step ((Below.refl _ w2).alloc (Nat.le_refl _) _) hgrow (own_snoc (c := c) hown3)
          have HR4 : Hid (Rd rb s most fv fx bk q1 (tx ++ [c]) v' (w3.setCell ⟨rb, 2, none⟩ v') ∧ Kept rb w2 (w3.setCell ⟨rb, 2, none⟩ v')) := ⟨hR4, hK4⟩
          obtain ⟨va2, vc2, rfl⟩ := own_shape hown3
          clear hR4 hK4 hown3 hgrow hS hQ c2 f2 hrow2
          go_wp2_with fail
          go_roundw
          case rel => exact ⟨f, q1, tx ++ [c], _, HF2, by rw [List.length_append, List.length_singleton]; omega, HR4.out.1, ((hK.trans hK1).trans hK2).trans HR4.out.2⟩
          case measure =>
            have h1 := atOf_eq HR4.out.1
            have h2 := HAT.out
            rw [h1, h2]
            omega
        · rw [if_neg hroom] at hF
          have HR : Hid (Except.error 12 = R) := hF
          have hQ := fun w1 h1 => rdRoom_err rb s most q1 fv fx bk v tx w1 h1 1 hm (by omega) hroom
          clear hF HF hat
          go_wp2_with (first | (go_at_call 61; go_must (refine hS.mono ?_; rintro e w1 ⟨rfl, hR1, hK1⟩)) | (go_at_call 50; go_must (refine (hQ _ hR1).mono ?_; rintro e w2 ⟨rfl, hb2⟩)))
          exact ⟨rfl, by rw [← HR.out]; exact ⟨rfl, (hK.trans hK1).below.trans hb2⟩⟩
      · rw [if_neg h256] at hF
        by_cases he : sg = 256
        · rw [if_pos he] at hF
          have HR : Hid (Except.ok (q1, tx) = R) := hF
          have e1 : ¬ (sg : Int) < 256 := by omega
          have e2 : ((sg : Int) == 256) = true := by simp; omega
          clear hF HF hat he
          go_wp2_with (go_at_call 61; go_must (refine hS.mono ?_; rintro e w1 ⟨rfl, hR1, hK1⟩))
          go_wp2
          go_end0
          rw [← HR.out]
          exact ⟨rfl, v, hR1, hK.trans hK1⟩
        · rw [if_neg he] at hF
          have e1 : ¬ (sg : Int) < 256 := by omega
          have e2 : ((sg : Int) == 256) = false := by simp; omega
          have hY := fun w1 h1 hk => rdCopying_any rb s most q1 fv fx bk v bp tx B sg w1 h1 (hD.kept hk) hB hs hm (by omega) (by omega) (by omega)
          cases hx : copyOf B s.data.toList most sg q1 tx with
          | error k =>
            simp only [hx] at hY hF
            have HR : Hid (Except.error k = R) := hF
            clear hF HF hat hx
            go_wp2_with (first | (go_at_call 61; go_must (refine hS.mono ?_; rintro e w1 ⟨rfl, hR1, hK1⟩)) | (go_at_call 62; go_must (refine (hY _ hR1 (hK.trans hK1)).mono ?_; rintro e w2 ⟨rfl, hb2⟩)))
            exact ⟨rfl, by rw [← HR.out]; exact ⟨rfl, (hK.trans hK1).below.trans hb2⟩⟩
          | ok qt =>
            obtain ⟨q2, t2⟩ := qt
            simp only [hx] at hY hF
            obtain ⟨k1, k2, k3⟩ := copyOf_ok hx (by omega)
            rw [len_eq] at k3
            have HF2 : Hid (signsF L B s.data.toList most f q2 t2 = R ∧ 8 * s.size + 1 ≤ f + q2) := ⟨hF, by omega⟩
            have HAT : Hid (atOf rb wr = q) := hat
            clear hF HF hat hx
            go_wp2_with (first | (go_at_call 61; go_must (refine hS.mono ?_; rintro e w1 ⟨rfl, hR1, hK1⟩)) | (go_at_call 62; go_must (refine (hY _ hR1 (hK.trans hK1)).mono ?_; rintro e w2 ⟨rfl, v2, hR2, hK2⟩)))
            go_roundw
            case rel => exact ⟨f, q2, t2, v2, HF2, by omega, hR2, (hK.trans hK1).trans hK2⟩
            case measure =>
              have h1 := atOf_eq hR2
              have h2 := HAT.out
              rw [h1, h2]
              omega
end Go.Proofs.Ytbhnlomppobbkaa
