/-
  The program's greatest copy; two bytes behind all bits.
-/
import Derived.Test.YtbhnlomppobbkaaHW4
import Derived.Deep.QuietTactic
import Derived.BigQuiet
import Derived.WalkSmall
import Derived.Outline
namespace Go.Proofs.Ytbhnlomppobbkaa
open Go.RowKit Ch
set_option maxRecDepth 100000

theorem drewN_below {w wr : World} (h : Below w.heap.size w wr) (n : Nat) : Below w.heap.size w (wr.drewN n) := below_drewN h n
set_option maxHeartbeats 4000000 in
theorem wAligned_any (wb : Nat) (pre : List UInt8) (l : List Bool) (v : Value) (w : World) (h : Wr wb pre l v w) (x : Nat) (hx : x < 65536) (hl : (pre ++ pack l).length ≤ 800000) :
    Calls Try.prog 22 #[.pointer (some ⟨wb, 0, none⟩), .int .i64 (x : Int)] w fun e w' => e = .returned (.tuple #[]) ∧ ∃ v', Wr wb (pre ++ pack l ++ [UInt8.ofNat (x % 256), UInt8.ofNat (x / 256)]) [] v' w' ∧ Below wb w w' := by
  obtain ⟨h0, f0, h1, f1⟩ := h.cells
  obtain ⟨i0, hi, hz0, hz1, hz2⟩ := info5
  have hbox := h.box
  have hrow := h.row
  have hwb := block_lt hbox
  generalize (8 - l.length % 8) % 8 = free at hbox h1
  obtain ⟨acc, hacc⟩ : ∃ acc, pre ++ pack l = acc := ⟨_, rfl⟩
  rw [hacc] at hrow hl
  rw [hacc]
  have e1 : ((x : Int) % 256) = ((UInt8.ofNat (x % 256)).toNat : Int) := by rw [UInt8.toNat_ofNat']; omega
  have e2 : ((x : Int) / 256) = ((UInt8.ofNat (x / 256)).toNat : Int) := by rw [UInt8.toNat_ofNat']; omega
  generalize UInt8.ofNat (x % 256) = d0 at *
  generalize UInt8.ofNat (x / 256) = d1 at *
  have E1 : Hid ((x : Int) % 256 = (d0.toNat : Int)) := e1
  have E2 : Hid ((x : Int) / 256 = (d1.toNat : Int)) := e2
  clear e1 e2 h hacc
  go_enter Try.func22, Try.ntmps22
  go_wp2_with (at_builtin; go_must (refine wpList_append_own _ rfl _ _ 22 rfl (wb + 1) 5 i0 (.int .u8 0) 1 1 Try.underlying22 hi hz0 hz1 hz2 rfl (by decide) v _ _ rfl (hrow.alloc _) ⟨w.heap.size, 0, none⟩ 2 2 [_, _] rfl rfl (cell_two_new _ _ _ _) (by intro u hu; simp at hu; rcases hu with hu | hu <;> (subst hu; rfl)) (by unfold maxLen; omega) (by omega) (by simp; omega) ?_))
  intro v' w2 hown2 hgrow _
  have hb2 : Below (wb + 1) w w2 := below_grown (Below.refl _ _) (by omega) hrow hgrow
  have hbx2 := (hb2.block wb (by omega)).trans hbox
  have g0 : w2.cell? ⟨wb, 0, none⟩ = some v := block_cell 0 hbx2 rfl
  have g1 : w2.frozen? ⟨wb, 0, none⟩ = false := block_free 0 hbx2
  have g2 : w2.cell? ⟨wb, 1, none⟩ = some (.int .i64 (free : Int)) := block_cell 1 hbx2 rfl
  have g3 : w2.frozen? ⟨wb, 1, none⟩ = false := block_free 1 hbx2
  have hown3 : Hid (w2.ownsRow (wb + 1) 5 1 v' (acc ++ [d0, d1]).length (Lib.byteCells (acc ++ [d0, d1]))) := by
    unfold Hid
    rw [Lib.byteCells_append, List.length_append]
    have : Lib.byteCells [d0, d1] = [.int .u8 ((x : Int) % 256), .int .u8 ((x : Int) / 256)] := by rw [E1.out, E2.out]; rfl
    rw [this]
    exact hown2
  have HB2 : Hid (Below (wb + 1) w w2) := hb2
  have HX2 := show Hid (w2.heap[wb]? = _) from hbx2
  clear hb2 hbx2 hgrow hown2 h0 h1 f0 f1 hrow
  obtain ⟨a', cap', hv'⟩ := own_shape hown3.out
  rw [List.length_append] at hv'
  replace hv' : v' = .slice a' (acc.length + 2) cap' := hv'
  subst hv'
  go_wp2
  go_end0
  refine ⟨rfl, _, ⟨setCell_block (i := 1) (setCell_block (i := 0) HX2.out), ?_⟩, ?_⟩
  · rw [pack_nil, List.append_nil]
    exact ownsRow_setCell_below (ownsRow_setCell_below hown3.out (a := ⟨wb, 0, none⟩) (Nat.lt_succ_self _) _) (a := ⟨wb, 1, none⟩) (Nat.lt_succ_self _) _
  · exact ((HB2.out.mono (Nat.le_succ _)).setCell (p := ⟨wb, 0, none⟩) (Nat.le_refl _) _).setCell (p := ⟨wb, 1, none⟩) (Nat.le_refl _) _
set_option maxHeartbeats 4000000 in
theorem hLongest_in (b o cap : Nat) (s : ByteArray) (a : Nat) (w : World) (hs : s.size ≤ 1000000) (hF : From w b o s 0) (hb0 : b < w.heap.size) (ha : a < s.size) :
    Calls Try.prog 18 #[.slice (some ⟨b, o, none⟩) s.size cap, .int .i64 (a : Int)] w fun e w' => e = .returned (.tuple #[.int .i64 ((copyAt (byte s) s.size a).1 : Int), .int .i64 ((copyAt (byte s) s.size a).2 : Int)]) ∧ Below w.heap.size w w' := by
  obtain ⟨most, hmost⟩ : ∃ m, min 258 (s.size - a) = m := ⟨_, rfl⟩
  have hm1 : most ≤ 258 := by omega
  have hm2 : a + most ≤ s.size := by omega
  have emin : min 258 ((s.size : Int) - (a : Int)) = (most : Int) := by omega
  have HM : Hid (min 258 (s.size - a) = most) := hmost
  clear hmost
  go_enter Try.func18, Try.ntmps18
  go_wp2_with fail
  go_loopw [4, 5, 7, 8] (fun p q t _ wr => ∃ (k : Nat) (z : Int), k ≤ min 512 a ∧ t = .int .i64 z ∧ Hid (z = (a : Int) - 1 - (k : Int)) ∧ p = .int .i64 ((best (byte s) a most k).1 : Int) ∧ q = .int .i64 ((best (byte s) a most k).2 : Int) ∧ Below w.heap.size w wr) (fun _ _ t _ _ => (intOf t + 1).toNat)
  case atStart => exact ⟨0, _, Nat.zero_le _, rfl, by unfold Hid; omega, rfl, rfl, Below.refl _ _⟩
  case round =>
    obtain ⟨k, z, hk, rfl, hz, rfl, rfl, hb⟩ := hrel
    obtain ⟨B1, hB1⟩ : ∃ x, (best (byte s) a most k).1 = x := ⟨_, rfl⟩
    obtain ⟨B2, hB2⟩ : ∃ x, (best (byte s) a most k).2 = x := ⟨_, rfl⟩
    have hB1le : B1 ≤ most := by rw [← hB1]; exact (best_le _ _ _ _).1
    rw [hB1, hB2]
    by_cases hgo : k < min 512 a ∧ B1 < most
    · obtain ⟨hk2, hlt⟩ := hgo
      obtain ⟨p, hp⟩ : ∃ p : Nat, a = p + 1 + k := ⟨a - 1 - k, by omega⟩
      have hzp : z = (p : Int) := by rw [hz.out]; omega
      subst hzp
      have HP : Hid (a = p + 1 + k) := hp
      clear hp hz
      have hpa : p < a := by have := HP.out; omega
      have hc1 : max 0 ((a : Int) - 512) ≤ (p : Int) := by have := HP.out; omega
      have hc2 : decide (max 0 ((a : Int) - 512) ≤ (p : Int)) = true := decide_eq_true hc1
      have HB1 : Hid ((best (byte s) a most k).1 = B1) := hB1
      have HB2 : Hid ((best (byte s) a most k).2 = B2) := hB2
      clear hB1 hB2 hc1
      go_wp2_with fail
      obtain ⟨wo, rfl⟩ : ∃ wo : World, wo = wr := ⟨_, rfl⟩
      go_loopw [8] (fun t wr => ∃ n : Nat, n ≤ most ∧ t = .int .i64 (n : Int) ∧ Hid (ml (byte s) a (k + 1) n = n) ∧ Below w.heap.size w wr) (fun t _ => most - (intOf t).toNat)
      case atStart => exact ⟨0, Nat.zero_le _, rfl, rfl, hb⟩
      case round =>
        obtain ⟨n, hn, rfl, hml, hb1⟩ := hrel
        clear hb
        by_cases hn2 : n < most
        · have g1 : wr.cell? ⟨b, o + (p + n), none⟩ = some (.int .u8 (byte s (p + n) : Int)) := by
            have := hF (p + n) (by omega)
            rw [Nat.zero_add] at this
            exact (hb1.cell (p := ⟨b, o + (p + n), none⟩) hb0).trans this
          have g2 : wr.cell? ⟨b, o + (a + n), none⟩ = some (.int .u8 (byte s (a + n) : Int)) := by
            have := hF (a + n) (by omega)
            rw [Nat.zero_add] at this
            exact (hb1.cell (p := ⟨b, o + (a + n), none⟩) hb0).trans this
          have hae : Hid (a + n - (k + 1) = p + n) := by unfold Hid; have := HP.out; omega
          have q1 : (0 : Int) ≤ (p : Int) + (n : Int) := by omega
          have q2 : (p : Int) + (n : Int) < (s.size : Int) := by omega
          have q3 : (0 : Int) ≤ (a : Int) + (n : Int) := by omega
          have q4 : (a : Int) + (n : Int) < (s.size : Int) := by omega
          have q5 : (n : Int) < (most : Int) := by omega
          generalize hx : byte s (p + n) = x at g1
          generalize hy : byte s (a + n) = y at g2
          by_cases hxy : x = y
          · have hxy2 : ((x : Int) == (y : Int)) = true := by simp [hxy]
            have hml2 : Hid (ml (byte s) a (k + 1) (n + 1) = n + 1) := ml_step _ _ _ _ hml.out (by rw [hae.out, hx, hy, hxy])
            clear hx hy hxy hml hae
            go_wp2_with fail
            go_quiet (fail)
            go_wp2_with fail
            go_roundw
            case rel => exact ⟨n + 1, by omega, by go_num, hml2, below_drewN hb1 nq⟩
            case measure => simp [intOf] <;> omega
          · have hxy2 : ((x : Int) == (y : Int)) = false := by simp; omega
            have hM : Hid (ml (byte s) a (k + 1) most = n) := ml_stop _ _ _ _ hml.out (by rw [hae.out, hx, hy]; exact fun e => hxy e.symm) most hn
            clear hx hy hxy hml hae
            by_cases hgt : B1 < n
            · have hbest : Hid (best (byte s) a most (k + 1) = (n, k + 1)) := by unfold Hid; rw [best, hM.out, HB1.out, if_pos hgt]
              have hgt2 : (B1 : Int) < (n : Int) := by omega
              go_wp2_with fail
              go_quiet (fail)
              go_wp2_with fail
              go_roundw
              case rel => exact ⟨k + 1, _, by omega, rfl, by unfold Hid; have := HP.out; omega, by rw [hbest.out], by rw [hbest.out]; have := HP.out; exact congrArg _ (by show (a : Int) - (p : Int) = ((k + 1 : Nat) : Int); omega), below_drewN hb1 nq⟩
              case measure => simp [intOf] <;> omega
            · have hbest : Hid (best (byte s) a most (k + 1) = best (byte s) a most k) := by unfold Hid; rw [best, hM.out, HB1.out, if_neg hgt]
              have hgt2 : ¬ (B1 : Int) < (n : Int) := by omega
              go_wp2_with fail
              go_quiet (fail)
              go_wp2_with fail
              go_roundw
              case rel => exact ⟨k + 1, _, by omega, rfl, by unfold Hid; have := HP.out; omega, by rw [hbest.out, HB1.out], by rw [hbest.out, HB2.out], below_drewN hb1 nq⟩
              case measure => simp [intOf] <;> omega
        · obtain rfl : n = most := by omega
          have hM : Hid (ml (byte s) a (k + 1) n = n) := hml
          have q5 : decide ((n : Int) < (n : Int)) = false := decide_eq_false (by omega)
          clear hml
          by_cases hgt : B1 < n
          · have hbest : Hid (best (byte s) a n (k + 1) = (n, k + 1)) := by unfold Hid; rw [best, hM.out, HB1.out, if_pos hgt]
            have hgt2 : (B1 : Int) < (n : Int) := by omega
            go_wp2_with fail
            go_quiet (fail)
            go_wp2_with fail
            go_roundw
            case rel => exact ⟨k + 1, _, by omega, rfl, by unfold Hid; have := HP.out; omega, by rw [hbest.out], by rw [hbest.out]; have := HP.out; exact congrArg _ (by show (a : Int) - (p : Int) = ((k + 1 : Nat) : Int); omega), below_drewN hb1 nq⟩
            case measure => simp [intOf] <;> omega
          · exact absurd hlt hgt
    · have hC : Hid (copyAt (byte s) s.size a = best (byte s) a most k) := by
        unfold Hid copyAt
        rw [HM.out]
        by_cases h1 : k = min 512 a
        · rw [h1]
        · exact best_full _ _ _ _ (by omega) _ (by omega)
      have HB1 : Hid ((best (byte s) a most k).1 = B1) := hB1
      have HB2 : Hid ((best (byte s) a most k).2 = B2) := hB2
      by_cases h1 : k = min 512 a
      · have hc2 : decide (max 0 ((a : Int) - 512) ≤ z) = false := decide_eq_false (by have := hz.out; omega)
        clear hB1 hB2
        go_wp2_with fail
        go_wp2
        go_ret2
        exact ⟨by rw [hC.out, HB1.out, HB2.out]; rfl, hb⟩
      · have hc2 : decide (max 0 ((a : Int) - 512) ≤ z) = true := decide_eq_true (by have := hz.out; omega)
        have hc3 : ¬ (B1 : Int) < (most : Int) := by omega
        clear hB1 hB2
        go_wp2_with fail
        go_wp2
        go_ret2
        exact ⟨by rw [hC.out, HB1.out, HB2.out]; rfl, hb⟩
theorem hLongest_any (x : Option Addr) (cap : Nat) (s : ByteArray) (a : Nat) (w : World) (hs : s.size ≤ 1000000) (hB : IsBytes w (.slice x s.size cap) s) (ha : a < s.size) :
    Calls Try.prog 18 #[.slice x s.size cap, .int .i64 (a : Int)] w fun e w' => e = .returned (.tuple #[.int .i64 ((copyAt (byte s) s.size a).1 : Int), .int .i64 ((copyAt (byte s) s.size a).2 : Int)]) ∧ Below w.heap.size w w' := by
  obtain ⟨a', cap', hv, hc, hm, ⟨_, h0, _⟩ | ⟨y, hy, h0 | ⟨b, o, hx, hb, hf⟩⟩⟩ := hB
  · omega
  · omega
  · simp only [Value.slice.injEq, true_and] at hv
    obtain ⟨rfl, rfl⟩ := hv
    rw [hy, hx]
    exact hLongest_in b o cap s a w hs hf hb ha
end Go.Proofs.Ytbhnlomppobbkaa
