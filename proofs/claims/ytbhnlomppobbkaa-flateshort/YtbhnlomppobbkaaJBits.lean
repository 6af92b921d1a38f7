/-
  The reference's Bits: a row of bits as bytes.
-/
import Derived.Test.YtbhnlomppobbkaaJInt
namespace Go.Proofs.Ytbhnlomppobbkaa
open Go.RowKit Ch
set_option maxRecDepth 100000

theorem take_snoc {α : Type} (l : List α) (i : Nat) {x : α} (h : l[i]? = some x) : l.take (i + 1) = l.take i ++ [x] := by rw [List.take_add_one, h]; rfl
set_option maxHeartbeats 4000000 in
theorem jBits_any (v : Value) (bits : List Bool) (w : World) (hI : IsInts w v (natBits bits)) (hl : bits.length ≤ 100000) :
    Calls Try.prog 29 #[v] w fun e w' => (∃ v', e = .returned v' ∧ w'.ownsRow w.heap.size 5 1 v' (pack bits).length (Lib.byteCells (pack bits))) ∧ Below w.heap.size w w' := by
  obtain ⟨a, cap, rfl, hI2⟩ := hI
  rw [natBits_length] at hI2 ⊢
  have HI : Hid (bits.length = 0 ∨ ∃ b o, a = some ⟨b, o, none⟩ ∧ b < w.heap.size ∧ ∀ i n : Nat, (natBits bits)[i]? = some n → w.cell? ⟨b, o + i, none⟩ = some (.int .i64 (n : Int))) := hI2
  clear hI2
  obtain ⟨n, hn⟩ : ∃ n, bits.length = n := ⟨_, rfl⟩
  rw [hn] at hl ⊢
  have HNB : Hid (bits.length = n) := hn
  clear hn
  go_enter Try.func29, Try.ntmps29
  go_wp2_with fail
  go_loopw [3, 4] (fun u t wr => ∃ (i : Nat) (P : List UInt8), i ≤ n ∧ t = .int .i64 (i : Int) ∧ Hid (pack (bits.take i) = P) ∧ wr.ownsRow w.heap.size 5 1 u P.length (Lib.byteCells P) ∧ Below w.heap.size w wr) (fun _ t _ => n - (intOf t).toNat)
  case atStart => exact ⟨0, [], Nat.zero_le _, rfl, by unfold Hid; rw [List.take_zero]; rfl, World.ownsRow_nil _ _ _ _, Below.refl _ _⟩
  case round =>
    obtain ⟨i, P, hi, rfl, hP, ho, hb⟩ := hrel
    have hbw := hb.size
    by_cases hlt : i < n
    · have hlt2 : (i : Int) < (n : Int) := by omega
      obtain ⟨x, hx⟩ : ∃ x, bits[i]? = some x := ⟨bits[i]'(by rw [HNB.out]; exact hlt), List.getElem?_eq_getElem _⟩
      obtain ⟨b, o, rfl, hbl, hce⟩ : ∃ b o, a = some ⟨b, o, none⟩ ∧ b < w.heap.size ∧ w.cell? ⟨b, o + i, none⟩ = some (.int .i64 (x.toNat : Int)) := by
        rcases HI.out with h0 | ⟨b, o, h1, h2, h3⟩
        · rw [HNB.out] at h0; omega
        · exact ⟨b, o, h1, h2, h3 i _ (by unfold natBits; rw [List.getElem?_map, hx]; rfl)⟩
      obtain ⟨r, hr⟩ : ∃ r, i % 8 = r := ⟨_, rfl⟩
      have er : (i : Int) % 8 = (r : Int) := by omega
      have hr8 : r < 8 := by omega
      have hx1 := Bool.toNat_le x
      have htl : (bits.take i).length = i := by rw [List.length_take, HNB.out]; omega
      obtain ⟨P2, hP2e⟩ : ∃ P2, pack (bits.take (i + 1)) = P2 := ⟨_, rfl⟩
      have HP2 : Hid (pack (bits.take (i + 1)) = P2) := hP2e
      rw [take_snoc bits i hx] at hP2e
      by_cases h0 : i % 8 = 0
      · have er0 : ((r : Int) == 0) = true := by simp; omega
        have hpk := pack_snoc0 (bits.take i) x (by rw [htl]; exact h0)
        obtain ⟨c, hc0⟩ : ∃ c : UInt8, c = 0 := ⟨_, rfl⟩
        have hcn : c.toNat = 0 := by rw [hc0]; rfl
        have hr0 : r = 0 := by omega
        obtain ⟨p, hp⟩ : ∃ p, p = P := ⟨_, rfl⟩
        have hP2 : Hid (p ++ [UInt8.ofNat (c.toNat + x.toNat * 2 ^ r)] = P2) := by
          unfold Hid
          rw [← hP2e, hpk, hP.out, ← hp, hcn, hr0]
          simp
        have HLT : Hid (c.toNat + x.toNat * 2 ^ r < 256) := by unfold Hid; rw [hcn, hr0]; omega
        have HPL : Hid (p.length ≤ 100000) := by unfold Hid; rw [hp, ← hP.out, pack_length, htl]; omega
        have hpl := HPL.out
        have hz : Hid ((0 : Int) = (c.toNat : Int)) := by unfold Hid; rw [hcn]; rfl
        have he : Hid (p ++ [c] = p ++ [c]) := rfl
        subst hp
        have hrm : r ≤ 7 := by omega
        clear hc0 hcn hr0 hpk hP2e hP h0 hr htl
        go_wp2_with (at_builtin; go_must (refine wpList_append_one rfl _ _ rfl w.heap.size _ p rfl ho _ rfl c hz (p ++ [c]) he (by omega) hbw hb ?_; intro v2 w2 hown2 hb2; have g0 := (hb2.cell (p := ⟨b, o + i, none⟩) hbl).trans hce))
        have hbz := hb2

        obtain ⟨gg, cp, rfl, hgb, hcl, hfz, hset⟩ := own_last hown2
        have HS : Hid ((w2.setCell ⟨gg, p.length, none⟩ (.int .u8 ((c.toNat + x.toNat * 2 ^ r : Nat) : Int))).ownsRow w.heap.size 5 1 (.slice (some ⟨gg, 0, none⟩) (p.length + 1) cp) P2.length (Lib.byteCells P2)) := by
          have := hset (UInt8.ofNat (c.toNat + x.toNat * 2 ^ r))
          rw [show (UInt8.ofNat (c.toNat + x.toNat * 2 ^ r)).toNat = c.toNat + x.toNat * 2 ^ r by rw [UInt8.toNat_ofNat']; have := HLT.out; omega, hP2.out] at this
          exact this
        have hn1 : p.length ≤ 100000 := by have := HPL.out; omega
        have e1 : (p.length : Int) < (p.length : Int) + 1 := by omega
        clear hset hown2
        generalize p.length = pn at *
        generalize c.toNat = cn at *
        generalize hxn : x.toNat = xn at *
        clear hxn
        obtain ⟨W, hW⟩ : ∃ W, W = w2 := ⟨_, rfl⟩
        subst hW
        go_wp2_with fail
        go_loopw [5, 6] (fun u t w9 => ∃ (k y : Nat), k ≤ r ∧ t = .int .i64 (k : Int) ∧ u = .int .i64 (y : Int) ∧ Hid (y = xn * 2 ^ k) ∧ y ≤ 1000 ∧ w9 = W) (fun _ t _ => r - (intOf t).toNat)
        case atStart => exact ⟨0, xn, Nat.zero_le _, rfl, rfl, by unfold Hid; simp, by omega, rfl⟩
        case round =>
          obtain ⟨k, y, hk, rfl, rfl, hy, hy2, rfl⟩ := hrel
          by_cases hkr : k < r
          · have hkr2 : (k : Int) < (r : Int) := by omega
            have hyn : Hid (y * 2 = xn * 2 ^ (k + 1)) := by unfold Hid; rw [hy.out, Nat.pow_succ, Nat.mul_assoc]
            have hyb : y * 2 ≤ 1000 := by
              have h1 : 2 ^ (k + 1) ≤ 2 ^ 7 := Nat.pow_le_pow_right (by omega) (by omega)
              have h2 : xn * 2 ^ (k + 1) ≤ 1 * 2 ^ (k + 1) := Nat.mul_le_mul_right _ hx1
              rw [hyn.out]
              omega
            clear hy
            go_wp2_with fail
            go_roundw
            case rel => exact ⟨k + 1, y * 2, by omega, by go_num, by go_num, hyn, hyb, trivial⟩
            case measure => simp [intOf]; omega
          · have hkr2 : ¬ (k : Int) < (r : Int) := by omega
            obtain rfl : k = r := by omega
            have hsum : Hid (((cn : Int) + (y : Int)) % 256 = ((cn + xn * 2 ^ k : Nat) : Int)) := by
              unfold Hid
              have := HLT.out
              rw [← hy.out] at this ⊢
              omega
            clear hy
            go_wp2_with fail
            go_roundw
            case rel =>
              rw [hsum.out]
              exact ⟨i + 1, P2, by omega, by go_num, HP2, HS.out, hbz.setCell (p := ⟨gg, pn, none⟩) hgb _⟩
            case measure => simp [intOf]; omega

      · have er0 : ((r : Int) == 0) = false := by simp; omega
        obtain ⟨p, c, e1, hc8, e2, hp⟩ := pack_snoc (bits.take i) x (by rw [htl]; exact h0)
        rw [htl, hr] at e2 hc8
        have hP2 : Hid (p ++ [UInt8.ofNat (c.toNat + x.toNat * 2 ^ r)] = P2) := by unfold Hid; rw [← hP2e, e2]
        have HLT : Hid (c.toNat + x.toNat * 2 ^ r < 256) := by
          unfold Hid
          have h7 : 2 ^ (r + 1) ≤ 2 ^ 8 := Nat.pow_le_pow_right (by omega) (by omega)
          have h8 : x.toNat * 2 ^ r ≤ 1 * 2 ^ r := Nat.mul_le_mul_right _ hx1
          rw [Nat.pow_succ] at h7
          omega
        have HPL : Hid (p.length ≤ 100000) := by unfold Hid; rw [hp, htl]; omega
        have ePp : P = p ++ [c] := by rw [← hP.out, e1]
        subst ePp
        have hown2 := ho
        have g0 := (hb.cell (p := ⟨b, o + i, none⟩) hbl).trans hce
        have hbz := hb
        have hrm : r ≤ 7 := by omega
        clear e1 hc8 e2 hp hP2e hP h0 hr htl ho

        obtain ⟨gg, cp, rfl, hgb, hcl, hfz, hset⟩ := own_last hown2
        have HS : Hid ((wr.setCell ⟨gg, p.length, none⟩ (.int .u8 ((c.toNat + x.toNat * 2 ^ r : Nat) : Int))).ownsRow w.heap.size 5 1 (.slice (some ⟨gg, 0, none⟩) (p.length + 1) cp) P2.length (Lib.byteCells P2)) := by
          have := hset (UInt8.ofNat (c.toNat + x.toNat * 2 ^ r))
          rw [show (UInt8.ofNat (c.toNat + x.toNat * 2 ^ r)).toNat = c.toNat + x.toNat * 2 ^ r by rw [UInt8.toNat_ofNat']; have := HLT.out; omega, hP2.out] at this
          exact this
        have hn1 : p.length ≤ 100000 := by have := HPL.out; omega
        have e1 : (p.length : Int) < (p.length : Int) + 1 := by omega
        clear hset hown2
        generalize p.length = pn at *
        generalize c.toNat = cn at *
        generalize hxn : x.toNat = xn at *
        clear hxn
        obtain ⟨W, hW⟩ : ∃ W, W = wr := ⟨_, rfl⟩
        subst hW
        go_wp2_with fail
        go_loopw [5, 6] (fun u t w9 => ∃ (k y : Nat), k ≤ r ∧ t = .int .i64 (k : Int) ∧ u = .int .i64 (y : Int) ∧ Hid (y = xn * 2 ^ k) ∧ y ≤ 1000 ∧ w9 = W) (fun _ t _ => r - (intOf t).toNat)
        case atStart => exact ⟨0, xn, Nat.zero_le _, rfl, rfl, by unfold Hid; simp, by omega, rfl⟩
        case round =>
          obtain ⟨k, y, hk, rfl, rfl, hy, hy2, rfl⟩ := hrel
          by_cases hkr : k < r
          · have hkr2 : (k : Int) < (r : Int) := by omega
            have hyn : Hid (y * 2 = xn * 2 ^ (k + 1)) := by unfold Hid; rw [hy.out, Nat.pow_succ, Nat.mul_assoc]
            have hyb : y * 2 ≤ 1000 := by
              have h1 : 2 ^ (k + 1) ≤ 2 ^ 7 := Nat.pow_le_pow_right (by omega) (by omega)
              have h2 : xn * 2 ^ (k + 1) ≤ 1 * 2 ^ (k + 1) := Nat.mul_le_mul_right _ hx1
              rw [hyn.out]
              omega
            clear hy
            go_wp2_with fail
            go_roundw
            case rel => exact ⟨k + 1, y * 2, by omega, by go_num, by go_num, hyn, hyb, trivial⟩
            case measure => simp [intOf]; omega
          · have hkr2 : ¬ (k : Int) < (r : Int) := by omega
            obtain rfl : k = r := by omega
            have hsum : Hid (((cn : Int) + (y : Int)) % 256 = ((cn + xn * 2 ^ k : Nat) : Int)) := by
              unfold Hid
              have := HLT.out
              rw [← hy.out] at this ⊢
              omega
            clear hy
            go_wp2_with fail
            go_roundw
            case rel =>
              rw [hsum.out]
              exact ⟨i + 1, P2, by omega, by go_num, HP2, HS.out, hbz.setCell (p := ⟨gg, pn, none⟩) hgb _⟩
            case measure => simp [intOf]; omega

    · have hlt2 : ¬ (i : Int) < (n : Int) := by omega
      have HP : Hid (P = pack bits) := by unfold Hid; rw [← hP.out, List.take_of_length_le (by rw [HNB.out]; omega)]
      clear hP
      go_wp2_with fail
      go_ret
      rw [← HP.out]
      exact ⟨⟨_, rfl, ho⟩, hb⟩
end Go.Proofs.Ytbhnlomppobbkaa
