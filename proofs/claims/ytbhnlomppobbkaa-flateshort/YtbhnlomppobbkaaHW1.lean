/-
  The program's writer of bits: its state, and one bit put.
-/
import Derived.Test.YtbhnlomppobbkaaHGen
import Derived.Test.YtbhnlomppobbkaaHPack
import Derived.BigRegion
import Derived.Laws.BitsLemmas
namespace Go.Proofs.Ytbhnlomppobbkaa
open Go.RowKit Ch
set_option maxRecDepth 100000

theorem wraps_i64 (n : Int) (_h₀ : 0 ≤ n) (_h₁ : n < 2 ^ 62) : IntKind.i64.wrap n = n := by rw [IntKind.wrap_i64]; omega
/-- The writer: bytes ahead, and bits behind them. -/
structure Wr (wb : Nat) (pre : List UInt8) (l : List Bool) (v : Value) (W : World) : Prop where
  box : W.heap[wb]? = some (Obj.cells #[v, .int .i64 (((8 - l.length % 8) % 8 : Nat) : Int)] 40 (0, 0))
  row : W.ownsRow (wb + 1) 5 1 v (pre ++ pack l).length (Lib.byteCells (pre ++ pack l))
theorem Wr.cells {wb : Nat} {pre : List UInt8} {l : List Bool} {v : Value} {W : World} (h : Wr wb pre l v W) : W.cell? ⟨wb, 0, none⟩ = some v ∧ W.frozen? ⟨wb, 0, none⟩ = false ∧ W.cell? ⟨wb, 1, none⟩ = some (.int .i64 (((8 - l.length % 8) % 8 : Nat) : Int)) ∧ W.frozen? ⟨wb, 1, none⟩ = false :=
  ⟨block_cell 0 h.box rfl, block_free 0 h.box, block_cell 1 h.box rfl, block_free 1 h.box⟩
theorem byteCells_at (l : List UInt8) (c : UInt8) : (Lib.byteCells (l ++ [c]))[l.length]? = some (.int .u8 (c.toNat : Int)) := by simp [Lib.byteCells]
/-- The last byte of a row that is owned; and another in its place. -/
theorem own_last {w : World} {base : Nat} {l : List UInt8} {c : UInt8} {v : Value} (h : w.ownsRow base 5 1 v (l ++ [c]).length (Lib.byteCells (l ++ [c]))) :
    ∃ g cap, v = .slice (some ⟨g, 0, none⟩) (l.length + 1) cap ∧ base ≤ g ∧ w.cell? ⟨g, l.length, none⟩ = some (.int .u8 (c.toNat : Int)) ∧ w.frozen? ⟨g, l.length, none⟩ = false ∧
      ∀ d : UInt8, (w.setCell ⟨g, l.length, none⟩ (.int .u8 (d.toNat : Int))).ownsRow base 5 1 v (l ++ [d]).length (Lib.byteCells (l ++ [d])) := by
  obtain ⟨g, cap, hv, _, hb, _, hc, hf, hs⟩ := own_set h (i := l.length) (by simp)
  refine ⟨g, cap, by rw [hv]; simp, hb, by rw [hc, byteCells_at], hf, fun d => ?_⟩
  have := hs (.int .u8 (d.toNat : Int))
  have e : (Lib.byteCells (l ++ [c])).set l.length (.int .u8 (d.toNat : Int)) = Lib.byteCells (l ++ [d]) := by simp [Lib.byteCells]
  rw [e] at this
  simpa using this
/-- The new last byte. -/
theorem or_bit {c k x : Nat} (hk : k < 8) (hc : c < 2 ^ k) (hx : x < 2) : bits .or .u8 (c : Int) (wrap64 ((x : Int) * 2 ^ k) % 256) = ((c + x * 2 ^ k : Nat) : Int) ∧ c + x * 2 ^ k < 256 := by
  have h7 : 2 ^ (k + 1) ≤ 2 ^ 8 := Nat.pow_le_pow_right (by omega) (by omega)
  have h7' : 2 ^ k ≤ 2 ^ 7 := Nat.pow_le_pow_right (by omega) (by omega)
  have hsum : c + x * 2 ^ k < 256 := by
    have : x * 2 ^ k ≤ 1 * 2 ^ k := Nat.mul_le_mul_right _ (by omega)
    rw [Nat.pow_succ] at h7
    omega
  have e : (x : Int) * 2 ^ k = ((x * 2 ^ k : Nat) : Int) := by simp
  refine ⟨?_, hsum⟩
  rw [e, Go.IntWalk.wrap64_in _ (by omega), Int.emod_eq_of_lt (by omega) (by omega), (bits_nat .u8 8 (by decide) wraps_u8 c _ (by omega) (by omega)).2]
  congr 1
  rw [Nat.or_comm, Nat.mul_comm, ← Nat.two_pow_add_eq_or_of_lt hc, Nat.add_comm, Nat.mul_comm]
set_option maxHeartbeats 2000000 in
/-- A bit within a byte. -/
theorem wBit_in (wb : Nat) (pre : List UInt8) (l : List Bool) (v : Value) (w : World) (h : Wr wb pre l v w) (hf : l.length % 8 ≠ 0) (x : Bool) (hl : (pre ++ pack l).length ≤ 900000) :
    Calls Try.prog 38 #[.pointer (some ⟨wb, 0, none⟩), .int .i64 (x.toNat : Int)] w fun e w' => e = .returned (.tuple #[]) ∧ ∃ v', Wr wb pre (l ++ [x]) v' w' ∧ Below wb w w' := by
  obtain ⟨h0, f0, h1, f1⟩ := h.cells
  obtain ⟨p, c, e1, hc8, e2, hp⟩ := pack_snoc l x hf
  have hrow := h.row
  have hbox := h.box
  rw [e1, ← List.append_assoc] at hrow
  obtain ⟨g, cap, rfl, hg, hc, hfz, hset⟩ := own_last hrow
  obtain ⟨free, hfree⟩ : ∃ free, (8 - l.length % 8) % 8 = free := ⟨_, rfl⟩
  obtain ⟨n, hn⟩ : ∃ n, (pre ++ p).length = n := ⟨_, rfl⟩
  have hn2 : n ≤ 900000 := by rw [← hn]; rw [List.length_append, pack_length] at hl; rw [List.length_append, hp]; omega
  have ek : 8 - free = l.length % 8 := by omega
  obtain ⟨hor, hlt⟩ := or_bit (c := c.toNat) (k := 8 - free) (x := x.toNat) (by omega) (by rw [ek]; exact hc8) (by have := Bool.toNat_le x; omega)
  have hset2 := hset (UInt8.ofNat (c.toNat + x.toNat * 2 ^ (8 - free)))
  rw [show (UInt8.ofNat (c.toNat + x.toNat * 2 ^ (8 - free))).toNat = c.toNat + x.toNat * 2 ^ (8 - free) by rw [UInt8.toNat_ofNat']; omega] at hset2
  have hpk : pre ++ p ++ [UInt8.ofNat (c.toNat + x.toNat * 2 ^ (8 - free))] = pre ++ pack (l ++ [x]) := by rw [e2, ek, List.append_assoc]
  rw [hpk] at hset2
  rw [hn] at h0 hc hfz hset2 hbox
  rw [hfree] at h1 hbox
  have e0 : ((free : Int) == 0) = false := by simp; omega
  have e1 : (n : Int) < (n : Int) + 1 := by omega
  have hf7 : 0 < free ∧ free < 8 := by omega
  obtain ⟨hfa, hfb⟩ := hf7
  have hnew : Hid ((8 - (l ++ [x]).length % 8) % 8 = free - 1) := by unfold Hid; rw [List.length_append, List.length_singleton]; omega
  have HS : Hid ((w.setCell ⟨g, n, none⟩ (.int .u8 (bits .or .u8 (c.toNat : Int) (wrap64 ((x.toNat : Int) * 2 ^ (8 - free)) % 256)))).ownsRow (wb + 1) 5 1 (.slice (some ⟨g, 0, none⟩) (n + 1) cap) (pre ++ pack (l ++ [x])).length (Lib.byteCells (pre ++ pack (l ++ [x])))) := by
    rw [hor]
    exact hset2
  clear hset hset2 hor hlt hpk e2 hrow h hfree hn hp ek hf e1 hc8
  generalize x.toNat = y at *
  go_enter Try.func38, Try.ntmps38
  go_wp2
  go_region
  go_wp2
  go_end0
  refine ⟨rfl, .slice (some ⟨g, 0, none⟩) (n + 1) cap, ⟨?_, ?_⟩, ?_⟩
  · rw [hnew.out, show ((free - 1 : Nat) : Int) = (free : Int) - 1 by omega]
    exact setCell_block (i := 1) (block_other ⟨g, n, none⟩ _ hbox (by simp; omega))
  · exact ownsRow_setCell_below HS.out (by simp) _
  · exact (((Below.refl wb w).setCell (p := ⟨g, n, none⟩) (by show wb ≤ g; omega) _).setCell (p := ⟨wb, 1, none⟩) (Nat.le_refl _) _).drew
set_option maxHeartbeats 2000000 in
/-- A bit at a byte's beginning. -/
theorem wBit_new (wb : Nat) (pre : List UInt8) (l : List Bool) (v : Value) (w : World) (h : Wr wb pre l v w) (hf : l.length % 8 = 0) (x : Bool) (hl : (pre ++ pack l).length ≤ 900000) :
    Calls Try.prog 38 #[.pointer (some ⟨wb, 0, none⟩), .int .i64 (x.toNat : Int)] w fun e w' => e = .returned (.tuple #[]) ∧ ∃ v', Wr wb pre (l ++ [x]) v' w' ∧ Below wb w w' := by
  obtain ⟨h0, f0, h1, f1⟩ := h.cells
  have hbox := h.box
  have hrow := h.row
  have hpk := pack_snoc0 l x hf
  obtain ⟨acc, hacc⟩ : ∃ acc, pre ++ pack l = acc := ⟨_, rfl⟩
  have hal : acc.length ≤ 900000 := by rw [← hacc]; exact hl
  have hpk2 : Hid (pre ++ pack (l ++ [x]) = acc ++ [UInt8.ofNat x.toNat]) := by unfold Hid; rw [hpk, ← List.append_assoc, hacc]
  rw [hacc] at hrow
  rw [hf] at h1 hbox
  replace h1 : w.cell? ⟨wb, 1, none⟩ = some (.int .i64 0) := h1
  replace hbox : w.heap[wb]? = some (Obj.cells #[v, .int .i64 0] 40 (0, 0)) := hbox
  have hnew : Hid ((8 - (l ++ [x]).length % 8) % 8 = 7) := by unfold Hid; rw [List.length_append, List.length_singleton]; omega
  have hwb := block_lt hbox
  obtain ⟨hor, hlt⟩ := or_bit (c := 0) (k := 0) (x := x.toNat) (by omega) (by omega) (by have := Bool.toNat_le x; omega)
  have hor2 : bits .or .u8 0 ((x.toNat : Int) % 256) = (x.toNat : Int) := by
    have := Bool.toNat_le x
    simp only [Int.pow_zero, Int.mul_one, Nat.pow_zero, Nat.mul_one, Nat.zero_add] at hor
    rw [Go.IntWalk.wrap64_in _ (by omega)] at hor
    exact hor
  have hx1 := Bool.toNat_le x
  have hof : (UInt8.ofNat x.toNat).toNat = x.toNat := by rw [UInt8.toNat_ofNat']; omega
  obtain ⟨d, hd⟩ : ∃ d, UInt8.ofNat x.toNat = d := ⟨_, rfl⟩
  rw [hd] at hpk2 hof
  generalize x.toNat = y at *
  subst hof
  clear hor hlt hpk hacc hd h hf
  go_enter Try.func38, Try.ntmps38
  obtain ⟨s', hs'⟩ := snoc_ex acc 0
  go_wp2_with (at_builtin; go_must (refine wpList_append_one (w0 := w) rfl _ _ rfl (wb + 1) v acc rfl hrow 0 rfl 0 rfl s' hs'.1 (by omega) (by omega) (Below.refl _ _) ?_))
  intro v' w2 hown2 hb2
  have hbx2 : w2.heap[wb]? = _ := (hb2.block wb (by omega)).trans hbox
  rw [← hs'.1.out] at hown2
  clear hs'
  have g0 : w2.cell? ⟨wb, 0, none⟩ = some v := block_cell 0 hbx2 rfl
  have g1 : w2.frozen? ⟨wb, 0, none⟩ = false := block_free 0 hbx2
  have g2 : w2.cell? ⟨wb, 1, none⟩ = some (.int .i64 0) := block_cell 1 hbx2 rfl
  have g3 : w2.frozen? ⟨wb, 1, none⟩ = false := block_free 1 hbx2
  obtain ⟨g, cap, rfl, hg, hc, hfz, _⟩ := own_last hown2
  obtain ⟨n, hn⟩ : ∃ n, acc.length = n := ⟨_, rfl⟩
  have hown3 := ownsRow_setCell_below (ownsRow_setCell_below hown2 (a := ⟨wb, 0, none⟩) (by simp) (.slice (some ⟨g, 0, none⟩) (acc.length + 1) cap)) (a := ⟨wb, 1, none⟩) (by simp) (.int .i64 8)
  obtain ⟨g', cap', hv', _, _, _, hset⟩ := own_last hown3
  simp only [Value.slice.injEq, Option.some.injEq, Addr.mk.injEq, and_true, true_and] at hv'
  obtain ⟨rfl, rfl⟩ := hv'
  have hset2 := hset d
  clear hset hown3
  rw [hn] at hc hfz hset2
  rw [hn]
  have HS : Hid ((((w2.setCell ⟨wb, 0, none⟩ (.slice (some ⟨g, 0, none⟩) (n + 1) cap)).setCell ⟨wb, 1, none⟩ (.int .i64 8)).setCell ⟨g, n, none⟩ (.int .u8 (d.toNat : Int))).ownsRow (wb + 1) 5 1 (.slice (some ⟨g, 0, none⟩) (n + 1) cap) (acc ++ [d]).length (Lib.byteCells (acc ++ [d]))) := hset2
  have HC : n ≤ 900000 := by rw [← hn]; exact hal
  have hor3 : bits .or .u8 0 (d.toNat : Int) = (d.toNat : Int) := by
    rw [Int.emod_eq_of_lt (by omega) (by omega)] at hor2
    exact hor2
  clear hset2 h0 f0 h1 f1 hrow hn hor2
  have HB2 : Hid (Below (wb + 1) w w2) := hb2
  have HX2 : Hid (w2.heap[wb]? = some (Obj.cells #[v, .int .i64 0] 40 (0, 0))) := hbx2
  clear hb2 hbx2 hown2
  have hne : g ≠ wb := by omega
  go_wp2_with fail
  go_region
  go_wp2
  go_end0
  refine ⟨rfl, .slice (some ⟨g, 0, none⟩) (n + 1) cap, ⟨?_, ?_⟩, ?_⟩
  · rw [hnew.out]
    exact setCell_block (i := 1) (block_other ⟨g, n, none⟩ _ (setCell_block (i := 1) (u := .int .i64 8) (setCell_block (i := 0) (u := .slice (some ⟨g, 0, none⟩) (n + 1) cap) HX2.out)) (by simp; omega))
  · rw [hpk2.out]
    exact ownsRow_setCell_below HS.out (by simp) _
  · exact (((((HB2.out.mono (Nat.le_succ _)).setCell (p := ⟨wb, 0, none⟩) (Nat.le_refl _) _).setCell (p := ⟨wb, 1, none⟩) (Nat.le_refl _) _).setCell (p := ⟨g, n, none⟩) (by show wb ≤ g; omega) _).setCell (p := ⟨wb, 1, none⟩) (Nat.le_refl _) _).drew
/-- One bit put. -/
theorem wBit_any (wb : Nat) (pre : List UInt8) (l : List Bool) (v : Value) (w : World) (h : Wr wb pre l v w) (x : Bool) (hl : (pre ++ pack l).length ≤ 900000) :
    Calls Try.prog 38 #[.pointer (some ⟨wb, 0, none⟩), .int .i64 (x.toNat : Int)] w fun e w' => e = .returned (.tuple #[]) ∧ ∃ v', Wr wb pre (l ++ [x]) v' w' ∧ Below wb w w' := by
  by_cases hf : l.length % 8 = 0
  · exact wBit_new wb pre l v w h hf x hl
  · exact wBit_in wb pre l v w h hf x hl
end Go.Proofs.Ytbhnlomppobbkaa
