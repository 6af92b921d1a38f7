/-
  The program's codes in memory, and a sign by its code.
-/
import Derived.Test.YtbhnlomppobbkaaHR3
import Derived.Test.YtbhnlomppobbkaaHCode
import Derived.Outline
namespace Go.Proofs.Ytbhnlomppobbkaa
open Go.RowKit Ch
set_option maxRecDepth 100000

/-- Codes of such lengths, behind the reader. -/
def IsCodes (rb : Nat) (L : List Nat) (cp : Value) (W : World) : Prop := ∃ (cb g cap : Nat) (cc cur : Array Value), cp = .pointer (some ⟨cb, 0, none⟩) ∧ rb < cb ∧ rb < g ∧ W.heap[cb]? = some (.cells cc 81 (0, 0)) ∧ cc[16]? = some (.slice (some ⟨g, 0, none⟩) (total L) cap) ∧ (∀ n, n < 16 → cc[n]? = some (.int .i64 (cz L n : Int))) ∧
  W.heap[g]? = some (.cells cur 3 (0, 0)) ∧ total L ≤ cap ∧ ∀ n r, n < 16 → r < cz L n → cur[sh L n + r]? = some (.int .i64 (theSign L n r : Int))
theorem IsCodes.kept {rb : Nat} {L : List Nat} {cp : Value} {W W' : World} (h : IsCodes rb L cp W) (hk : Kept rb W W') : IsCodes rb L cp W' := by
  obtain ⟨cb, g, cap, cc, cur, h1, h2, h3, h4, h5, h6, h7, h8⟩ := h
  exact ⟨cb, g, cap, cc, cur, h1, h2, h3, hk.other _ _ _ _ h2 (by decide) h4, h5, h6, hk.other _ _ _ _ h3 (by decide) h7, h8⟩
theorem join_bit {c b : Nat} (hc : c < 100000) (hb : b < 2) : bits .or .i64 ((c : Int) * 2) (b : Int) = ((2 * c + b : Nat) : Int) := by
  rw [bits_join .i64 62 (by decide) wraps_i64 1 _ _ (by omega) (by omega) (by omega) (by omega) (by omega) (by omega)]
  omega
set_option maxHeartbeats 8000000 in
theorem rdSign_any (rb : Nat) (s : ByteArray) (most p : Nat) (fv fx bk tv cp : Value) (text : List UInt8) (L : List Nat) (w : World) (h : Rd rb s most fv fx bk p text tv w) (hC : IsCodes rb L cp w) (hL : L.length ≤ 400) (hs : s.size ≤ 1000000) :
    Calls Try.prog 61 #[.pointer (some ⟨rb, 0, none⟩), cp] w (Ends rb w (sgn L s.data.toList p) fun x e w' => e = .returned (.int .i64 (x.1 : Int)) ∧ Rd rb s most fv fx bk x.2 text tv w' ∧ Kept rb w w') := by
  obtain ⟨cb, g, cap, cc, cur, rfl, hrcb, hrg, hbx, hc16, hcn, hgx, hcap, hcur⟩ := hC
  obtain ⟨R, hR⟩ : ∃ R, sgn L s.data.toList p = R := ⟨_, rfl⟩
  have hT : Hid (total L ≤ 6400) := by have := sh_le L 16; unfold Hid total; omega
  rw [hR]
  go_enter Try.func61, Try.ntmps61
  go_wp2_with fail
  go_loopw [5, 6, 7, 8, 9] (fun tc tf ts tw _ wr => ∃ (n c q F S : Nat), n ≤ 15 ∧ tc = .int .i64 (c : Int) ∧ tf = .int .i64 (F : Int) ∧ ts = .int .i64 (S : Int) ∧ tw = .int .i64 ((n : Int) + 1) ∧ Hid (F = first L (n + 1) ∧ S = sh L (n + 1) ∧ sgnF L s.data.toList (16 - n) n c q = R ∧ c < 2 ^ n ∧ F ≤ 2 * c) ∧ Rd rb s most fv fx bk q text tv wr ∧ Kept rb w wr) (fun _ _ _ tw _ _ => 20 - (intOf tw).toNat)
  case atStart => exact ⟨0, 0, p, 0, 0, by omega, rfl, rfl, rfl, rfl, ⟨by simp [first, cz], by simp [sh, cz], hR, by omega, by omega⟩, h, Kept.refl _ _⟩
  case round =>
    obtain ⟨n, c, q, F, S, hn, rfl, rfl, rfl, rfl, HH, hW, hK⟩ := hrel
    obtain ⟨hF, hS, hG, hc, hFc⟩ := HH.out
    have hbw : wr.heap[cb]? = _ := hK.other _ _ _ _ hrcb (by decide) hbx
    have hgw : wr.heap[g]? = _ := hK.other _ _ _ _ hrg (by decide) hgx
    have c16 : wr.cell? ⟨cb, 16, none⟩ = some (.slice (some ⟨g, 0, none⟩) (total L) cap) := block_cell 16 hbw hc16
    have hc2 : 2 ^ n ≤ 2 ^ 15 := Nat.pow_le_pow_right (by omega) hn
    have hfu : 16 - n = (15 - n) + 1 := by omega
    rw [hfu, sgnF, ← hS, ← hF] at hG
    have hTT := hT.out
    have h15 : S < total L → n + 1 < 16 := fun h => by
      rcases Nat.lt_or_ge (n + 1) 16 with h' | h'
      · exact h'
      · obtain rfl : n = 15 := by omega
        rw [hS] at h
        exact absurd h (Nat.lt_irrefl _)
    have hsh : n + 1 < 16 → S + cz L (n + 1) ≤ total L := fun h => by
      have := sh_mono L (a := n + 2) (b := 16) (by omega)
      rw [sh] at this
      rw [hS]
      exact this
    generalize total L = T at *
    by_cases h1 : S < T
    · rw [if_pos h1] at hG
      have hn15 := h15 h1
      have hsz := hsh hn15
      have hcz := cz_le L (n + 1)
      have hN := rdNumber_any rb s most q fv fx bk tv text wr hW 1 (by omega) hs
      unfold rdNum at hN
      rw [len_eq] at hN hG
      by_cases h2 : q + 1 ≤ 8 * s.size
      · rw [if_pos h2] at hN hG
        rw [numAt_one] at hN
        have hb1 := Bool.toNat_le (bitL s.data.toList q)
        have ccell : ∀ w2, Kept rb wr w2 → w2.cell? ⟨cb, n + 1, none⟩ = some (.int .i64 (cz L (n + 1) : Int)) := fun w2 hk => block_cell (n + 1) (hk.other _ _ _ _ hrcb (by decide) hbw) (hcn (n + 1) hn15)
        have gcell : ∀ w2 r, Kept rb wr w2 → r < cz L (n + 1) → w2.cell? ⟨g, S + r, none⟩ = some (.int .i64 (theSign L (n + 1) r : Int)) := fun w2 r hk hr => block_cell (S + r) (hk.other _ _ _ _ hrg (by decide) hgw) (by rw [hS]; exact hcur (n + 1) r hn15 hr)
        have c16' : ∀ w2, Kept rb wr w2 → w2.cell? ⟨cb, 16, none⟩ = some (.slice (some ⟨g, 0, none⟩) T cap) := fun w2 hk => block_cell 16 (hk.other _ _ _ _ hrcb (by decide) hbw) hc16
        have hF2 : first L (n + 2) = 2 * (F + cz L (n + 1)) := by rw [hF]; rfl
        have hS2 : sh L (n + 2) = S + cz L (n + 1) := by rw [hS]; rfl
        have hG15 : 15 - n = 16 - (n + 1) := by omega
        rw [hG15] at hG
        have hp2 : 2 ^ (n + 1) = 2 * 2 ^ n := by rw [Nat.pow_succ]; omega
        generalize (bitL s.data.toList q).toNat = bt at *
        generalize cz L (n + 1) = Z at *
        have ej := join_bit (c := c) (b := bt) (by omega) (by omega)
        obtain ⟨C, hC⟩ : ∃ C, 2 * c + bt = C := ⟨_, rfl⟩
        rw [hC] at ej hG
        have HC : Hid (2 * c + bt = C) := hC
        have hCF : F ≤ C := by omega
        have hC16 : C < 2 ^ (n + 1) := by omega
        have hC17 : C < 100000 := by omega
        have hc3 : c < 65536 := by omega
        have hF3 : F < 200000 := by omega
        by_cases h3 : C < F + Z
        · rw [if_pos h3] at hG
          have HG : Hid (Except.ok (theSign L (n + 1) (C - F), q + 1) = R) := hG
          have g1 := fun w2 hk => gcell w2 (C - F) hk (by omega)
          have i1 : (C : Int) - (F : Int) < (Z : Int) := by omega
          have i2 : S + (C - F) < T := by omega
          obtain ⟨j, hj⟩ : ∃ j, S + (C - F) = j := ⟨_, rfl⟩
          rw [hj] at g1 i2
          have i3 : (S : Int) + (C : Int) - (F : Int) = (j : Int) := by omega
          have HCC : Hid (∀ w2, Kept rb wr w2 → w2.cell? ⟨cb, n + 1, none⟩ = some (.int .i64 (Z : Int))) := ccell
          have HC16 : Hid (∀ w2, Kept rb wr w2 → w2.cell? ⟨cb, 16, none⟩ = some (.slice (some ⟨g, 0, none⟩) T cap)) := c16'
          have HG1 : Hid (∀ w2, Kept rb wr w2 → w2.cell? ⟨g, j, none⟩ = some (.int .i64 (theSign L (n + 1) (C - F) : Int))) := g1
          generalize theSign L (n + 1) (C - F) = sg at *
          clear HH hF hS hG hc hFc hfu hbw hgw ccell gcell c16' g1 hF2 hS2 h15 hsh hC hj hG15 hp2 hcz
          go_wp2_with (go_at_call 42; go_must (refine hN.mono ?_; rintro e w2 ⟨rfl, hR2, hK2⟩; have k1 := HCC.out w2 hK2; have k2 := HC16.out w2 hK2; have k3 := HG1.out w2 hK2))
          go_wp2
          go_ret
          rw [← HG.out]
          exact ⟨rfl, hR2, hK.trans hK2⟩
        · rw [if_neg h3] at hG
          have HH2 : Hid (2 * (F + Z) = first L (n + 1 + 1) ∧ S + Z = sh L (n + 1 + 1) ∧ sgnF L s.data.toList (16 - (n + 1)) (n + 1) C (q + 1) = R ∧ C < 2 ^ (n + 1) ∧ 2 * (F + Z) ≤ 2 * C) := ⟨hF2.symm, hS2.symm, hG, hC16, by omega⟩
          have i1 : ¬ (C : Int) - (F : Int) < (Z : Int) := by omega
          have HCC : Hid (∀ w2, Kept rb wr w2 → w2.cell? ⟨cb, n + 1, none⟩ = some (.int .i64 (Z : Int))) := ccell
          clear HH hF hS hG hc hFc hfu hbw hgw ccell gcell c16' hF2 hS2 h15 hsh hC hG15 hp2 hcz
          go_wp2_with (go_at_call 42; go_must (refine hN.mono ?_; rintro e w2 ⟨rfl, hR2, hK2⟩; have k1 := HCC.out w2 hK2))
          go_roundw
          case rel => exact ⟨n + 1, C, q + 1, 2 * (F + Z), S + Z, by omega, rfl, by go_num, by go_num, by go_num, HH2, hR2, hK.trans hK2⟩
          case measure => simp [intOf]; omega
      · rw [if_neg h2] at hN hG
        have HG : Hid (Except.error 11 = R) := hG
        clear HH hF hS hG hc hFc hfu hbw hgw h15 hsh
        go_wp2_with (go_at_call 42; go_must (refine hN.mono ?_; rintro e w2 ⟨rfl, hb2⟩))
        exact ⟨rfl, by rw [← HG.out]; exact ⟨rfl, hK.below.trans hb2⟩⟩
    · rw [if_neg h1] at hG
      have h1' : ¬ (S : Int) < (T : Int) := by omega
      have HG : Hid (Except.error 10 = R) := hG
      clear HH hF hS hG hc hFc hfu hbw hgw h15 hsh
      go_wp2_with fail
      go_wp2
      exact ⟨rfl, by rw [← HG.out]; exact ⟨rfl, hK.below⟩⟩
end Go.Proofs.Ytbhnlomppobbkaa
