/-
  Package hash: the words of a block.
-/
import Derived.Test.YtpcmpeeflnlkpaaDoorKLeafEtc
import Derived.BigRegion
import Derived.Deep.WholeRow
namespace Go.Proofs.YtpcmpeeflnlkpaaDoor
open Go.RowKit Ch
set_option maxRecDepth 100000

/-- The words of a block. -/
def wAt (b : List UInt8) (i : Nat) : Nat := atN (schedN b 64) i
theorem wAt_lt (b : List UInt8) (i : Nat) : wAt b i < 4294967296 := schedN_lt b 64 i
theorem wAt_low (b : List UInt8) {i : Nat} (h : i < 16) : wAt b i = wordAt b i := by
  unfold wAt
  rw [schedN_prefix b (i + 1) 64 i (by omega) (by omega), schedN_last]
  unfold nextW
  rw [schedN_length, if_pos h]
theorem wAt_high (b : List UInt8) {i : Nat} (h : 16 ≤ i) (h2 : i < 64) : wAt b i = (sgB (wAt b (i - 2)) + wAt b (i - 7) + sgA (wAt b (i - 15)) + wAt b (i - 16)) % 4294967296 := by
  unfold wAt
  rw [schedN_prefix b (i + 1) 64 i (by omega) (by omega), schedN_last]
  unfold nextW
  rw [schedN_length, if_neg (by omega), schedN_prefix b i 64 (i - 2) (by omega) (by omega), schedN_prefix b i 64 (i - 7) (by omega) (by omega), schedN_prefix b i 64 (i - 15) (by omega) (by omega), schedN_prefix b i 64 (i - 16) (by omega) (by omega)]
/-- The first t cells of a block hold these words. -/
def WordsIn (B t n : Nat) (ty : TypeId) (f : Nat → Nat) (W : World) : Prop := ∃ C, W.heap[B]? = some (.cells C ty (0, 0)) ∧ C.size = n ∧ (∀ i, i < t → C[i]? = some (.int .u32 (f i : Int))) ∧ ∀ i, i < n → ∃ z : Nat, C[i]? = some (.int .u32 (z : Int))
theorem WordsIn.at {B t n : Nat} {ty : TypeId} {f : Nat → Nat} {W : World} (h : WordsIn B t n ty f W) {i : Nat} (hi : i < t) : W.cell? ⟨B, i, none⟩ = some (.int .u32 (f i : Int)) := by
  obtain ⟨C, h1, h2, h3, h4⟩ := h
  exact block_cell i h1 (h3 i hi)
theorem WordsIn.old {B t n : Nat} {ty : TypeId} {f : Nat → Nat} {W : World} (h : WordsIn B t n ty f W) {i : Nat} (hi : i < n) : (∃ z : Nat, W.cell? ⟨B, i, none⟩ = some (.int .u32 (z : Int))) ∧ W.frozen? ⟨B, i, none⟩ = false := by
  obtain ⟨C, h1, h2, h3, h4⟩ := h
  obtain ⟨z, hz⟩ := h4 i hi
  exact ⟨⟨z, block_cell i h1 hz⟩, block_free i h1⟩
theorem WordsIn.set {B t n : Nat} {ty : TypeId} {f : Nat → Nat} {W : World} (h : WordsIn B t n ty f W) (ht : t < n) {x : Int} (hx : x = (f t : Int)) : WordsIn B (t + 1) n ty f (W.setCell ⟨B, t, none⟩ (.int .u32 x)) := by
  obtain ⟨C, h1, h2, h3, h4⟩ := h
  refine ⟨_, setCell_block h1, by simp [h2], fun i hi => ?_, fun i hi => ?_⟩
  · by_cases e : i = t
    · rw [e, Array.getElem?_setIfInBounds_self, if_pos (by omega), hx]
    · rw [Array.getElem?_setIfInBounds_ne (fun h => e h.symm)]
      exact h3 i (by omega)
  · by_cases e : i = t
    · rw [e, Array.getElem?_setIfInBounds_self, if_pos (by omega), hx]
      exact ⟨_, rfl⟩
    · rw [Array.getElem?_setIfInBounds_ne (fun h => e h.symm)]
      exact h4 i hi
theorem WordsIn.later {B t n b : Nat} {ty : TypeId} {f : Nat → Nat} {W W' : World} (h : WordsIn B t n ty f W) (hb : Below b W W') (hB : B < b) : WordsIn B t n ty f W' := by
  obtain ⟨C, h1, h2, h3⟩ := h
  exact ⟨C, (hb.block B hB).trans h1, h2, h3⟩
theorem or_parts {a b : Nat} (i : Nat) (ha : a % 2 ^ i = 0) (hb : b < 2 ^ i) : a ||| b = a + b := by
  obtain ⟨c, rfl⟩ : ∃ c, a = 2 ^ i * c := ⟨a / 2 ^ i, by rw [Nat.mul_div_cancel' (Nat.dvd_of_mod_eq_zero ha)]⟩
  exact (Nat.two_pow_add_eq_or_of_lt hb c).symm
/-- Four bytes as a word. -/
theorem four_word {a b c d : Nat} (ha : a < 256) (hb : b < 256) (hc : c < 256) (hd : d < 256) :
    bits .or .u32 (bits .or .u32 (bits .or .u32 ((a : Int) * 16777216) ((b : Int) * 65536)) ((c : Int) * 256)) (d : Int) = (((a * 256 + b) * 256 + c) * 256 + d : Nat) := by
  have e1 : (a : Int) * 16777216 = ((a * 16777216 : Nat) : Int) := by simp
  have e2 : (b : Int) * 65536 = ((b * 65536 : Nat) : Int) := by simp
  have e3 : (c : Int) * 256 = ((c * 256 : Nat) : Int) := by simp
  rw [e1, e2, or32 _ _ (by omega) (by omega), or_parts 24 (by omega) (by omega), e3, or32 _ _ (by omega) (by omega), or_parts 16 (by omega) (by omega), or32 _ _ (by omega) (by omega), or_parts 8 (by omega) (by omega)]
  congr 1
  omega
def zero64 : Array Value := #[.int .u32 0, .int .u32 0, .int .u32 0, .int .u32 0, .int .u32 0, .int .u32 0, .int .u32 0, .int .u32 0, .int .u32 0, .int .u32 0, .int .u32 0, .int .u32 0, .int .u32 0, .int .u32 0, .int .u32 0, .int .u32 0, .int .u32 0, .int .u32 0, .int .u32 0, .int .u32 0, .int .u32 0, .int .u32 0, .int .u32 0, .int .u32 0, .int .u32 0, .int .u32 0, .int .u32 0, .int .u32 0, .int .u32 0, .int .u32 0, .int .u32 0, .int .u32 0, .int .u32 0, .int .u32 0, .int .u32 0, .int .u32 0, .int .u32 0, .int .u32 0, .int .u32 0, .int .u32 0, .int .u32 0, .int .u32 0, .int .u32 0, .int .u32 0, .int .u32 0, .int .u32 0, .int .u32 0, .int .u32 0, .int .u32 0, .int .u32 0, .int .u32 0, .int .u32 0, .int .u32 0, .int .u32 0, .int .u32 0, .int .u32 0, .int .u32 0, .int .u32 0, .int .u32 0, .int .u32 0, .int .u32 0, .int .u32 0, .int .u32 0, .int .u32 0]
theorem zero64_words (W : World) (B : Nat) (ty : TypeId) (f : Nat → Nat) (h : W.heap[B]? = some (.cells zero64 ty (0, 0))) : WordsIn B 0 64 ty f W := by
  refine ⟨zero64, h, rfl, fun i hi => absurd hi (Nat.not_lt_zero _), fun i hi => ⟨0, ?_⟩⟩
  have e : zero64 = (List.replicate 64 (Value.int .u32 0)).toArray := rfl
  rw [e, List.getElem?_toArray, List.getElem?_replicate, if_pos hi]
  rfl
set_option maxHeartbeats 4000000 in
theorem kSchedule_any (x : Option Addr) (cap : Nat) (s : ByteArray) (w : World) (hs : s.size = 64) (hB : IsBytes w (.slice x 64 cap) s) :
    Calls Tryd.prog 86 #[.slice x 64 cap] w fun e w' => ∃ C, e = .returned (.agg C) ∧ C.size = 64 ∧ (∀ i, i < 64 → C[i]? = some (.int .u32 (wAt s.data.toList i : Int))) ∧ Below w.heap.size w w' := by
  go_enter Tryd.func86, Tryd.ntmps86
  go_wp2_with fail
  have hb0 : Below w.heap.size w ((w.alloc (.cells zero64 109)).alloc (.cells zero64 109)) := ((Below.refl _ w).alloc (Nat.le_refl _) _).alloc (by simp) _
  have hR0 : ((w.alloc (.cells zero64 109)).alloc (.cells zero64 109)).heap[w.heap.size]? = some (.cells zero64 109 (0, 0)) := block_alloc _ (heap_push_at w _)
  have hW0 : ((w.alloc (.cells zero64 109)).alloc (.cells zero64 109)).heap[w.heap.size + 1]? = some (.cells zero64 109 (0, 0)) := by
    have := heap_push_at (w.alloc (.cells zero64 109)) (.cells zero64 109)
    simpa using this
  have HW0 := show Hid (WordsIn (w.heap.size + 1) 0 64 109 (wAt s.data.toList) ((w.alloc (.cells zero64 109)).alloc (.cells zero64 109))) from zero64_words _ _ _ _ hW0
  have HR0 := show Hid (((w.alloc (.cells zero64 109)).alloc (.cells zero64 109)).heap[w.heap.size]? = some (.cells zero64 109 (0, 0))) from hR0
  clear hR0 hW0
  generalize hg : (w.alloc (.cells zero64 109)).alloc (.cells zero64 109) = W0 at *
  unfold zero64 at hg
  rw [hg]
  clear hg
  have HB := show Hid (IsBytes w (.slice x 64 cap) s) from hB
  have HSZ := show Hid (s.size = 64) from hs
  have hcap : (64 : Int) ≤ (cap : Int) := by
    obtain ⟨_, _, e1, e2, _⟩ := hB
    simp only [Value.slice.injEq] at e1
    omega
  obtain ⟨b, o, rfl, hbl, hF⟩ : ∃ b o, x = some ⟨b, o, none⟩ ∧ b < w.heap.size ∧ ∀ j, j < 64 → w.cell? ⟨b, o + j, none⟩ = some (.int .u8 (byte s j : Int)) := by
    rw [← hs] at hB
    obtain ⟨b, o, h1, h2, h3⟩ := hB.cellAt (i := 0) (by omega)
    refine ⟨b, o, h1, h2, fun j hj => ?_⟩
    obtain ⟨b', o', h1', h2', h3'⟩ := hB.cellAt (i := j) (by omega)
    rw [h1] at h1'
    simp only [Option.some.injEq, Addr.mk.injEq, and_true] at h1'
    rw [h1'.1, h1'.2]
    exact h3'
  have HF := show Hid (∀ j, j < 64 → w.cell? ⟨b, o + j, none⟩ = some (.int .u8 (byte s j : Int))) from hF
  have hcap2 : 64 ≤ cap := by omega
  clear hF hB hs
  go_loopw [7] (fun t wr => ∃ i : Nat, i ≤ 16 ∧ t = .int .i64 (i : Int) ∧ WordsIn (w.heap.size + 1) i 64 109 (wAt s.data.toList) wr ∧ Below w.heap.size w wr ∧ wr.heap[w.heap.size]? = some (.cells zero64 109 (0, 0))) (fun t _ => 16 - (intOf t).toNat)
  case atStart => exact ⟨0, by omega, rfl, HW0.out, hb0, HR0.out⟩
  case round =>
    obtain ⟨i, hi, rfl, hW, hb, hR⟩ := hrel
    by_cases hlt : i < 16
    · have hlt2 : (i : Int) < 16 := by omega
      obtain ⟨a, ha⟩ : ∃ a, 4 * i = a := ⟨_, rfl⟩
      have ea : (i : Int) * 4 = (a : Int) := by omega
      have ea4 : ((i : Int) + 1) * 4 = (a : Int) + 4 := by omega
      have ha64 : a + 4 ≤ 64 := by omega
      have g0 := (hb.cell (p := ⟨b, o + a, none⟩) hbl).trans (HF.out a (by omega))
      have g1 := (hb.cell (p := ⟨b, o + (a + 1), none⟩) hbl).trans (HF.out (a + 1) (by omega))
      rw [← Nat.add_assoc] at g1
      have g2 := (hb.cell (p := ⟨b, o + (a + 2), none⟩) hbl).trans (HF.out (a + 2) (by omega))
      rw [← Nat.add_assoc] at g2
      have g3 := (hb.cell (p := ⟨b, o + (a + 3), none⟩) hbl).trans (HF.out (a + 3) (by omega))
      rw [← Nat.add_assoc] at g3
      obtain ⟨⟨z, hz⟩, hfz⟩ := hW.old (i := i) (by omega)
      have hy0 := byte_lt s a
      have hy1 := byte_lt s (a + 1)
      have hy2 := byte_lt s (a + 2)
      have hy3 := byte_lt s (a + 3)
      have hfw := four_word (byte_lt s a) (byte_lt s (a + 1)) (byte_lt s (a + 2)) (byte_lt s (a + 3))
      have hwd : Hid (((((byte s a * 256 + byte s (a + 1)) * 256 + byte s (a + 2)) * 256 + byte s (a + 3) : Nat) : Int) = (wAt s.data.toList i : Int)) := by
        unfold Hid
        rw [wAt_low _ hlt]
        unfold wordAt byL
        rw [ha, ← byte_list, ← byte_list, ← byte_list, ← byte_list]
      have c0 : (a : Int) ≤ (cap : Int) := by omega
      have c1 : (a : Int) + 4 ≤ (cap : Int) := by omega
      have c2 : ¬ cap = a := by omega
      generalize byte s a = y0 at *
      generalize byte s (a + 1) = y1 at *
      generalize byte s (a + 2) = y2 at *
      generalize byte s (a + 3) = y3 at *
      have HW := show Hid (WordsIn (w.heap.size + 1) i 64 109 (wAt s.data.toList) wr) from hW
      have HR := show Hid (wr.heap[w.heap.size]? = some (.cells zero64 109 (0, 0))) from hR
      have HV : Hid (bits .or .u32 (bits .or .u32 (bits .or .u32 ((y0 : Int) % 4294967296 * 16777216 % 4294967296) ((y1 : Int) % 4294967296 * 65536 % 4294967296)) ((y2 : Int) % 4294967296 * 256 % 4294967296)) ((y3 : Int) % 4294967296) = (wAt s.data.toList i : Int)) := by
        unfold Hid
        rw [show (y0 : Int) % 4294967296 * 16777216 % 4294967296 = (y0 : Int) * 16777216 by omega, show (y1 : Int) % 4294967296 * 65536 % 4294967296 = (y1 : Int) * 65536 by omega, show (y2 : Int) % 4294967296 * 256 % 4294967296 = (y2 : Int) * 256 by omega, show (y3 : Int) % 4294967296 = (y3 : Int) by omega, hfw]
        exact hwd.out
      clear hfw hwd hy0 hy1 hy2 hy3
      have e4 : a + 4 - a = 4 := by omega
      have f0 : (0 : Int) < 4 := by omega
      clear hW hR ha
      go_wp2_with fail
      go_region
      go_wp2_with fail
      go_roundw
      case rel =>
        refine ⟨i + 1, by omega, by go_num, (HW.out.set (by omega) HV.out).later ((Below.refl (w.heap.size + 2) _).drew) (by omega), (hb.setCell (p := ⟨w.heap.size + 1, i, none⟩) (Nat.le_succ _) _).drew, ?_⟩
        exact block_other ⟨w.heap.size + 1, i, none⟩ _ HR.out (by show w.heap.size ≠ w.heap.size + 1; omega)
      case measure => simp [intOf]; omega
    · have hlt2 : ¬ (i : Int) < 16 := by omega
      obtain rfl : i = 16 := by omega
      go_wp2_with fail
      go_loopw [6] (fun t wr => ∃ i : Nat, 16 ≤ i ∧ i ≤ 64 ∧ t = .int .i64 (i : Int) ∧ WordsIn (w.heap.size + 1) i 64 109 (wAt s.data.toList) wr ∧ Below w.heap.size w wr ∧ wr.heap[w.heap.size]? = some (.cells zero64 109 (0, 0))) (fun t _ => 64 - (intOf t).toNat)
      case atStart => exact ⟨16, by omega, by omega, rfl, hW, hb, hR⟩
      case round =>
        obtain ⟨i, hi1, hi, rfl, hW, hb, hR⟩ := hrel
        by_cases hlt : i < 64
        · have hlt3 : (i : Int) < 64 := by omega
          obtain ⟨i2, h2⟩ : ∃ k, i - 2 = k := ⟨_, rfl⟩
          obtain ⟨i7, h7⟩ : ∃ k, i - 7 = k := ⟨_, rfl⟩
          obtain ⟨i15, h15⟩ : ∃ k, i - 15 = k := ⟨_, rfl⟩
          obtain ⟨i16, h16⟩ : ∃ k, i - 16 = k := ⟨_, rfl⟩
          have e2 : (i : Int) - 2 = (i2 : Int) := by omega
          have e7 : (i : Int) - 7 = (i7 : Int) := by omega
          have e15 : (i : Int) - 15 = (i15 : Int) := by omega
          have e16 : (i : Int) - 16 = (i16 : Int) := by omega
          have l2 : i2 < 64 := by omega
          have l7 : i7 < 64 := by omega
          have l15 : i15 < 64 := by omega
          have l16 : i16 < 64 := by omega
          have wi : IntKind.i64.wrap (i : Int) = (i : Int) := by rw [IntKind.wrap_i64]; omega
          have wi2 : IntKind.i64.wrap (i2 : Int) = (i2 : Int) := by rw [IntKind.wrap_i64]; omega
          have wi7 : IntKind.i64.wrap (i7 : Int) = (i7 : Int) := by rw [IntKind.wrap_i64]; omega
          have wi15 : IntKind.i64.wrap (i15 : Int) = (i15 : Int) := by rw [IntKind.wrap_i64]; omega
          have wi16 : IntKind.i64.wrap (i16 : Int) = (i16 : Int) := by rw [IntKind.wrap_i64]; omega
          have m2 : (i2 : Int) < 64 := by omega
          have m7 : (i7 : Int) < 64 := by omega
          have m15 : (i15 : Int) < 64 := by omega
          have m16 : (i16 : Int) < 64 := by omega
          have g2 := hW.at (i := i2) (by omega)
          have g7 := hW.at (i := i7) (by omega)
          have g15 := hW.at (i := i15) (by omega)
          have g16 := hW.at (i := i16) (by omega)
          have b2 := wAt_lt s.data.toList i2
          have b7 := wAt_lt s.data.toList i7
          have b15 := wAt_lt s.data.toList i15
          have b16 := wAt_lt s.data.toList i16
          have s2 := sgB_lt b2
          have s15 := sgA_lt b15
          obtain ⟨⟨z, hz⟩, hfz⟩ := hW.old (i := i) (by omega)
          have hrec : Hid (wAt s.data.toList i = (sgB (wAt s.data.toList i2) + wAt s.data.toList i7 + sgA (wAt s.data.toList i15) + wAt s.data.toList i16) % 4294967296) := by
            unfold Hid
            rw [wAt_high _ hi1 hlt, h2, h7, h15, h16]
          have hS2 := fun w => kSmallB_any (wAt s.data.toList i2) w b2
          have hS15 := fun w => kSmallA_any (wAt s.data.toList i15) w b15
          have HW := show Hid (WordsIn (w.heap.size + 1) i 64 109 (wAt s.data.toList) wr) from hW
          have HR := show Hid (wr.heap[w.heap.size]? = some (.cells zero64 109 (0, 0))) from hR
          generalize sgB (wAt s.data.toList i2) = S2 at *
          generalize sgA (wAt s.data.toList i15) = S15 at *
          generalize wAt s.data.toList i2 = X2 at *
          generalize wAt s.data.toList i7 = X7 at *
          generalize wAt s.data.toList i15 = X15 at *
          generalize wAt s.data.toList i16 = X16 at *
          clear hW hR h2 h7 h15 h16
          go_wp2_with fail
          refine until_region (S := fun w' => w'.cell? ⟨w.heap.size + 1, i2, none⟩ = some (.int .u32 (X2 : Int)) ∧ w'.cell? ⟨w.heap.size + 1, i7, none⟩ = some (.int .u32 (X7 : Int)) ∧ w'.cell? ⟨w.heap.size + 1, i15, none⟩ = some (.int .u32 (X15 : Int)) ∧ w'.cell? ⟨w.heap.size + 1, i16, none⟩ = some (.int .u32 (X16 : Int)) ∧ w'.cell? ⟨w.heap.size + 1, i, none⟩ = some (.int .u32 (z : Int)) ∧ w'.frozen? ⟨w.heap.size + 1, i, none⟩ = false) (z := 23) (by kernel_rfl) (⟨g2, g7, g15, g16, hz, hfz⟩) (fun hS => ?_)
          replace hS : wr.drew.cell? ⟨w.heap.size + 1, i2, none⟩ = some (.int .u32 (X2 : Int)) ∧ wr.drew.cell? ⟨w.heap.size + 1, i7, none⟩ = some (.int .u32 (X7 : Int)) ∧ wr.drew.cell? ⟨w.heap.size + 1, i15, none⟩ = some (.int .u32 (X15 : Int)) ∧ wr.drew.cell? ⟨w.heap.size + 1, i16, none⟩ = some (.int .u32 (X16 : Int)) ∧ wr.drew.cell? ⟨w.heap.size + 1, i, none⟩ = some (.int .u32 (z : Int)) ∧ wr.drew.frozen? ⟨w.heap.size + 1, i, none⟩ = false := hS
          refine until_take (i := 0) (oi := { dst := some 46, op := Go.Op.move (Go.Operand.tmp 6), type := 3, pos := "digest.go:110", after := #[], guard := none }) (v := ?v1) rfl (by kernel_rfl) (by kernel_rfl) (by kernel_rfl) (by kernel_rfl) (fun _ _ _ h => h) (Or.inl ⟨by rfl, ?h1⟩) hS ?r1
          case h1 =>
            intro wS hSw
            obtain ⟨q2, q7, q15, q16, qi, qf⟩ := hSw
            go_simp
            try with_reducible rfl
          simp only [Act.put, List.setIfInBounds_toArray, List.set_cons_zero, List.set_cons_succ]
          refine until_take (i := 1) (oi := { dst := some 47, op := Go.Op.move (Go.Operand.tmp 6), type := 3, pos := "digest.go:110", after := #[], guard := none }) (v := ?v2) rfl (by kernel_rfl) (by kernel_rfl) (by kernel_rfl) (by kernel_rfl) (fun _ _ _ h => h) (Or.inl ⟨by rfl, ?h2⟩) hS ?r2
          case h2 =>
            intro wS hSw
            obtain ⟨q2, q7, q15, q16, qi, qf⟩ := hSw
            go_simp
            try with_reducible rfl
          simp only [Act.put, List.setIfInBounds_toArray, List.set_cons_zero, List.set_cons_succ]
          refine until_take (i := 2) (oi := { dst := some 48, op := Go.Op.binOp Go.BinOp.sub 3 (Go.Operand.tmp 47) (Go.Operand.const (Go.Value.int Go.IntKind.i64 2)) 3, type := 3, pos := "digest.go:110", after := #[{ on := 1, ground := Go.Ground.data }], guard := none }) (v := ?v3) rfl (by kernel_rfl) (by kernel_rfl) (by kernel_rfl) (by kernel_rfl) (fun _ _ _ h => h) (Or.inl ⟨by rfl, ?h3⟩) hS ?r3
          case h3 =>
            intro wS hSw
            obtain ⟨q2, q7, q15, q16, qi, qf⟩ := hSw
            go_simp
            try with_reducible rfl
          simp only [Act.put, List.setIfInBounds_toArray, List.set_cons_zero, List.set_cons_succ]
          refine until_take (i := 3) (oi := { dst := some 49, op := Go.Op.indexAddr 109 (Go.Operand.tmp 3) (Go.Operand.tmp 48), type := 0, pos := "digest.go:110", after := #[{ on := 2, ground := Go.Ground.data }], guard := none }) (v := ?v4) rfl (by kernel_rfl) (by kernel_rfl) (by kernel_rfl) (by kernel_rfl) (fun _ _ _ h => h) (Or.inl ⟨by rfl, ?h4⟩) hS ?r4
          case h4 =>
            intro wS hSw
            obtain ⟨q2, q7, q15, q16, qi, qf⟩ := hSw
            go_simp
            try with_reducible rfl
          simp only [Act.put, List.setIfInBounds_toArray, List.set_cons_zero, List.set_cons_succ]
          refine until_take (i := 4) (oi := { dst := some 50, op := Go.Op.load 87 (Go.Operand.tmp 49), type := 87, pos := "digest.go:110", after := #[{ on := 3, ground := Go.Ground.data }], guard := none }) (v := ?v5) rfl (by kernel_rfl) (by kernel_rfl) (by kernel_rfl) (by kernel_rfl) (fun _ _ _ h => h) (Or.inl ⟨by rfl, ?h5⟩) hS ?r5
          case h5 =>
            intro wS hSw
            obtain ⟨q2, q7, q15, q16, qi, qf⟩ := hSw
            go_simp
            try with_reducible rfl
          simp only [Act.put, List.setIfInBounds_toArray, List.set_cons_zero, List.set_cons_succ]
          refine until_take (i := 6) (oi := { dst := some 52, op := Go.Op.move (Go.Operand.tmp 6), type := 3, pos := "digest.go:110", after := #[], guard := none }) (v := ?v6) rfl (by kernel_rfl) (by kernel_rfl) (by kernel_rfl) (by kernel_rfl) (fun _ _ _ h => h) (Or.inl ⟨by rfl, ?h6⟩) hS ?r6
          case h6 =>
            intro wS hSw
            obtain ⟨q2, q7, q15, q16, qi, qf⟩ := hSw
            go_simp
            try with_reducible rfl
          simp only [Act.put, List.setIfInBounds_toArray, List.set_cons_zero, List.set_cons_succ]
          refine until_take (i := 7) (oi := { dst := some 53, op := Go.Op.binOp Go.BinOp.sub 3 (Go.Operand.tmp 52) (Go.Operand.const (Go.Value.int Go.IntKind.i64 7)) 3, type := 3, pos := "digest.go:110", after := #[{ on := 6, ground := Go.Ground.data }], guard := none }) (v := ?v7) rfl (by kernel_rfl) (by kernel_rfl) (by kernel_rfl) (by kernel_rfl) (fun _ _ _ h => h) (Or.inl ⟨by rfl, ?h7⟩) hS ?r7
          case h7 =>
            intro wS hSw
            obtain ⟨q2, q7, q15, q16, qi, qf⟩ := hSw
            go_simp
            try with_reducible rfl
          simp only [Act.put, List.setIfInBounds_toArray, List.set_cons_zero, List.set_cons_succ]
          refine until_take (i := 8) (oi := { dst := some 54, op := Go.Op.indexAddr 109 (Go.Operand.tmp 3) (Go.Operand.tmp 53), type := 0, pos := "digest.go:110", after := #[{ on := 7, ground := Go.Ground.data }], guard := none }) (v := ?v8) rfl (by kernel_rfl) (by kernel_rfl) (by kernel_rfl) (by kernel_rfl) (fun _ _ _ h => h) (Or.inl ⟨by rfl, ?h8⟩) hS ?r8
          case h8 =>
            intro wS hSw
            obtain ⟨q2, q7, q15, q16, qi, qf⟩ := hSw
            go_simp
            try with_reducible rfl
          simp only [Act.put, List.setIfInBounds_toArray, List.set_cons_zero, List.set_cons_succ]
          refine until_take (i := 9) (oi := { dst := some 55, op := Go.Op.load 87 (Go.Operand.tmp 54), type := 87, pos := "digest.go:110", after := #[{ on := 8, ground := Go.Ground.data }], guard := none }) (v := ?v9) rfl (by kernel_rfl) (by kernel_rfl) (by kernel_rfl) (by kernel_rfl) (fun _ _ _ h => h) (Or.inl ⟨by rfl, ?h9⟩) hS ?r9
          case h9 =>
            intro wS hSw
            obtain ⟨q2, q7, q15, q16, qi, qf⟩ := hSw
            go_simp
            try with_reducible rfl
          simp only [Act.put, List.setIfInBounds_toArray, List.set_cons_zero, List.set_cons_succ]
          refine until_take (i := 11) (oi := { dst := some 57, op := Go.Op.move (Go.Operand.tmp 6), type := 3, pos := "digest.go:110", after := #[], guard := none }) (v := ?v10) rfl (by kernel_rfl) (by kernel_rfl) (by kernel_rfl) (by kernel_rfl) (fun _ _ _ h => h) (Or.inl ⟨by rfl, ?h10⟩) hS ?r10
          case h10 =>
            intro wS hSw
            obtain ⟨q2, q7, q15, q16, qi, qf⟩ := hSw
            go_simp
            try with_reducible rfl
          simp only [Act.put, List.setIfInBounds_toArray, List.set_cons_zero, List.set_cons_succ]
          refine until_take (i := 12) (oi := { dst := some 58, op := Go.Op.binOp Go.BinOp.sub 3 (Go.Operand.tmp 57) (Go.Operand.const (Go.Value.int Go.IntKind.i64 15)) 3, type := 3, pos := "digest.go:110", after := #[{ on := 11, ground := Go.Ground.data }], guard := none }) (v := ?v11) rfl (by kernel_rfl) (by kernel_rfl) (by kernel_rfl) (by kernel_rfl) (fun _ _ _ h => h) (Or.inl ⟨by rfl, ?h11⟩) hS ?r11
          case h11 =>
            intro wS hSw
            obtain ⟨q2, q7, q15, q16, qi, qf⟩ := hSw
            go_simp
            try with_reducible rfl
          simp only [Act.put, List.setIfInBounds_toArray, List.set_cons_zero, List.set_cons_succ]
          refine until_take (i := 13) (oi := { dst := some 59, op := Go.Op.indexAddr 109 (Go.Operand.tmp 3) (Go.Operand.tmp 58), type := 0, pos := "digest.go:110", after := #[{ on := 12, ground := Go.Ground.data }], guard := none }) (v := ?v12) rfl (by kernel_rfl) (by kernel_rfl) (by kernel_rfl) (by kernel_rfl) (fun _ _ _ h => h) (Or.inl ⟨by rfl, ?h12⟩) hS ?r12
          case h12 =>
            intro wS hSw
            obtain ⟨q2, q7, q15, q16, qi, qf⟩ := hSw
            go_simp
            try with_reducible rfl
          simp only [Act.put, List.setIfInBounds_toArray, List.set_cons_zero, List.set_cons_succ]
          refine until_take (i := 14) (oi := { dst := some 60, op := Go.Op.load 87 (Go.Operand.tmp 59), type := 87, pos := "digest.go:110", after := #[{ on := 13, ground := Go.Ground.data }], guard := none }) (v := ?v13) rfl (by kernel_rfl) (by kernel_rfl) (by kernel_rfl) (by kernel_rfl) (fun _ _ _ h => h) (Or.inl ⟨by rfl, ?h13⟩) hS ?r13
          case h13 =>
            intro wS hSw
            obtain ⟨q2, q7, q15, q16, qi, qf⟩ := hSw
            go_simp
            try with_reducible rfl
          simp only [Act.put, List.setIfInBounds_toArray, List.set_cons_zero, List.set_cons_succ]
          refine until_take (i := 17) (oi := { dst := some 63, op := Go.Op.move (Go.Operand.tmp 6), type := 3, pos := "digest.go:110", after := #[], guard := none }) (v := ?v14) rfl (by kernel_rfl) (by kernel_rfl) (by kernel_rfl) (by kernel_rfl) (fun _ _ _ h => h) (Or.inl ⟨by rfl, ?h14⟩) hS ?r14
          case h14 =>
            intro wS hSw
            obtain ⟨q2, q7, q15, q16, qi, qf⟩ := hSw
            go_simp
            try with_reducible rfl
          simp only [Act.put, List.setIfInBounds_toArray, List.set_cons_zero, List.set_cons_succ]
          refine until_take (i := 18) (oi := { dst := some 64, op := Go.Op.binOp Go.BinOp.sub 3 (Go.Operand.tmp 63) (Go.Operand.const (Go.Value.int Go.IntKind.i64 16)) 3, type := 3, pos := "digest.go:110", after := #[{ on := 17, ground := Go.Ground.data }], guard := none }) (v := ?v15) rfl (by kernel_rfl) (by kernel_rfl) (by kernel_rfl) (by kernel_rfl) (fun _ _ _ h => h) (Or.inl ⟨by rfl, ?h15⟩) hS ?r15
          case h15 =>
            intro wS hSw
            obtain ⟨q2, q7, q15, q16, qi, qf⟩ := hSw
            go_simp
            try with_reducible rfl
          simp only [Act.put, List.setIfInBounds_toArray, List.set_cons_zero, List.set_cons_succ]
          refine until_take (i := 19) (oi := { dst := some 65, op := Go.Op.indexAddr 109 (Go.Operand.tmp 3) (Go.Operand.tmp 64), type := 0, pos := "digest.go:110", after := #[{ on := 18, ground := Go.Ground.data }], guard := none }) (v := ?v16) rfl (by kernel_rfl) (by kernel_rfl) (by kernel_rfl) (by kernel_rfl) (fun _ _ _ h => h) (Or.inl ⟨by rfl, ?h16⟩) hS ?r16
          case h16 =>
            intro wS hSw
            obtain ⟨q2, q7, q15, q16, qi, qf⟩ := hSw
            go_simp
            try with_reducible rfl
          simp only [Act.put, List.setIfInBounds_toArray, List.set_cons_zero, List.set_cons_succ]
          refine until_take (i := 20) (oi := { dst := some 66, op := Go.Op.load 87 (Go.Operand.tmp 65), type := 87, pos := "digest.go:110", after := #[{ on := 19, ground := Go.Ground.data }], guard := none }) (v := ?v17) rfl (by kernel_rfl) (by kernel_rfl) (by kernel_rfl) (by kernel_rfl) (fun _ _ _ h => h) (Or.inl ⟨by rfl, ?h17⟩) hS ?r17
          case h17 =>
            intro wS hSw
            obtain ⟨q2, q7, q15, q16, qi, qf⟩ := hSw
            go_simp
            try with_reducible rfl
          simp only [Act.put, List.setIfInBounds_toArray, List.set_cons_zero, List.set_cons_succ]
          refine until_one (i := 5) (oi := { dst := some 51, op := Go.Op.call { callee := Go.Callee.value (Go.Operand.func 91), args := #[Go.Operand.tmp 50], argTypes := #[87] }, type := 87, pos := "digest.go:110", after := #[{ on := 4, ground := Go.Ground.data }], guard := none }) rfl (by kernel_rfl) (fun K hK => ?_)
          go_simp
          go_wp2_with (go_at_call 91; refine (hS2 _).mono ?_)
          rintro e w9 ⟨rfl, rfl⟩
          refine hK.out _ _ (fun _ => hS) (fun hS' => ?_)
          replace hS := hS' (by decide)
          clear hS'
          try dsimp only at hS
          clear hK K
          refine until_take (i := 10) (oi := { dst := some 56, op := Go.Op.binOp Go.BinOp.add 87 (Go.Operand.tmp 51) (Go.Operand.tmp 55) 87, type := 87, pos := "digest.go:110", after := #[{ on := 5, ground := Go.Ground.data }, { on := 9, ground := Go.Ground.data }], guard := none }) (v := ?v18) rfl (by kernel_rfl) (by kernel_rfl) (by kernel_rfl) (by kernel_rfl) (fun _ _ _ h => h) (Or.inl ⟨by rfl, ?h18⟩) hS ?r18
          case h18 =>
            intro wS hSw
            obtain ⟨q2, q7, q15, q16, qi, qf⟩ := hSw
            go_simp
            try with_reducible rfl
          simp only [Act.put, List.setIfInBounds_toArray, List.set_cons_zero, List.set_cons_succ]
          refine until_one (i := 15) (oi := { dst := some 61, op := Go.Op.call { callee := Go.Callee.value (Go.Operand.func 92), args := #[Go.Operand.tmp 60], argTypes := #[87] }, type := 87, pos := "digest.go:110", after := #[{ on := 14, ground := Go.Ground.data }, { on := 5, ground := Go.Ground.chain }], guard := none }) rfl (by kernel_rfl) (fun K hK => ?_)
          go_simp
          go_wp2_with (go_at_call 92; refine (hS15 _).mono ?_)
          rintro e w9 ⟨rfl, rfl⟩
          refine hK.out _ _ (fun _ => hS) (fun hS' => ?_)
          replace hS := hS' (by decide)
          clear hS'
          try dsimp only at hS
          clear hK K
          refine until_take (i := 16) (oi := { dst := some 62, op := Go.Op.binOp Go.BinOp.add 87 (Go.Operand.tmp 56) (Go.Operand.tmp 61) 87, type := 87, pos := "digest.go:110", after := #[{ on := 10, ground := Go.Ground.data }, { on := 15, ground := Go.Ground.data }], guard := none }) (v := ?v19) rfl (by kernel_rfl) (by kernel_rfl) (by kernel_rfl) (by kernel_rfl) (fun _ _ _ h => h) (Or.inl ⟨by rfl, ?h19⟩) hS ?r19
          case h19 =>
            intro wS hSw
            obtain ⟨q2, q7, q15, q16, qi, qf⟩ := hSw
            go_simp
            try with_reducible rfl
          simp only [Act.put, List.setIfInBounds_toArray, List.set_cons_zero, List.set_cons_succ]
          refine until_take (i := 21) (oi := { dst := some 67, op := Go.Op.binOp Go.BinOp.add 87 (Go.Operand.tmp 62) (Go.Operand.tmp 66) 87, type := 87, pos := "digest.go:110", after := #[{ on := 16, ground := Go.Ground.data }, { on := 20, ground := Go.Ground.data }], guard := none }) (v := ?v20) rfl (by kernel_rfl) (by kernel_rfl) (by kernel_rfl) (by kernel_rfl) (fun _ _ _ h => h) (Or.inl ⟨by rfl, ?h20⟩) hS ?r20
          case h20 =>
            intro wS hSw
            obtain ⟨q2, q7, q15, q16, qi, qf⟩ := hSw
            go_simp
            try with_reducible rfl
          simp only [Act.put, List.setIfInBounds_toArray, List.set_cons_zero, List.set_cons_succ]
          refine until_take (i := 22) (oi := { dst := some 68, op := Go.Op.indexAddr 109 (Go.Operand.tmp 3) (Go.Operand.tmp 46), type := 0, pos := "digest.go:110", after := #[{ on := 0, ground := Go.Ground.data }, { on := 0, ground := Go.Ground.phase }, { on := 1, ground := Go.Ground.phase }, { on := 2, ground := Go.Ground.phase }, { on := 3, ground := Go.Ground.phase }, { on := 4, ground := Go.Ground.phase }, { on := 5, ground := Go.Ground.phase }, { on := 6, ground := Go.Ground.phase }, { on := 7, ground := Go.Ground.phase }, { on := 8, ground := Go.Ground.phase }, { on := 9, ground := Go.Ground.phase }, { on := 10, ground := Go.Ground.phase }, { on := 11, ground := Go.Ground.phase }, { on := 12, ground := Go.Ground.phase }, { on := 13, ground := Go.Ground.phase }, { on := 14, ground := Go.Ground.phase }, { on := 15, ground := Go.Ground.phase }, { on := 16, ground := Go.Ground.phase }, { on := 17, ground := Go.Ground.phase }, { on := 18, ground := Go.Ground.phase }, { on := 19, ground := Go.Ground.phase }, { on := 20, ground := Go.Ground.phase }, { on := 21, ground := Go.Ground.phase }], guard := none }) (v := ?v21) rfl (by kernel_rfl) (by kernel_rfl) (by kernel_rfl) (by kernel_rfl) (fun _ _ _ h => h) (Or.inl ⟨by rfl, ?h21⟩) hS ?r21
          case h21 =>
            intro wS hSw
            obtain ⟨q2, q7, q15, q16, qi, qf⟩ := hSw
            go_simp
            try with_reducible rfl
          simp only [Act.put, List.setIfInBounds_toArray, List.set_cons_zero, List.set_cons_succ]
          refine until_one (i := 23) (oi := { dst := none, op := Go.Op.store 87 (Go.Operand.tmp 68) (Go.Operand.tmp 67), type := 0, pos := "digest.go:110", after := #[{ on := 22, ground := Go.Ground.data }, { on := 21, ground := Go.Ground.data }, { on := 15, ground := Go.Ground.chain }, { on := 0, ground := Go.Ground.phase }, { on := 1, ground := Go.Ground.phase }, { on := 2, ground := Go.Ground.phase }, { on := 3, ground := Go.Ground.phase }, { on := 4, ground := Go.Ground.phase }, { on := 5, ground := Go.Ground.phase }, { on := 6, ground := Go.Ground.phase }, { on := 7, ground := Go.Ground.phase }, { on := 8, ground := Go.Ground.phase }, { on := 9, ground := Go.Ground.phase }, { on := 10, ground := Go.Ground.phase }, { on := 11, ground := Go.Ground.phase }, { on := 12, ground := Go.Ground.phase }, { on := 13, ground := Go.Ground.phase }, { on := 14, ground := Go.Ground.phase }, { on := 15, ground := Go.Ground.phase }, { on := 16, ground := Go.Ground.phase }, { on := 17, ground := Go.Ground.phase }, { on := 18, ground := Go.Ground.phase }, { on := 19, ground := Go.Ground.phase }, { on := 20, ground := Go.Ground.phase }, { on := 21, ground := Go.Ground.phase }], guard := none }) rfl (by kernel_rfl) (fun K hK => ?_)
          obtain ⟨p2, p7, p15, p16, pi, pf⟩ := hS
          go_simp
          refine hK.out _ _ (fun h => absurd rfl h) (fun _ => ?_)
          clear hK K
          refine until_done (by kernel_rfl) ?_ _
          have HV : Hid (IntKind.u32.wrap (IntKind.u32.wrap (IntKind.u32.wrap ((S2 : Int) + (X7 : Int)) + (S15 : Int)) + (X16 : Int)) = (wAt s.data.toList i : Int)) := by
            unfold Hid
            rw [hrec.out, IntKind.wrap_u32, IntKind.wrap_u32, IntKind.wrap_u32]
            omega
          go_wp2_with fail
          go_roundw
          case rel =>
            refine ⟨i + 1, by omega, by omega, by go_num, (HW.out.set (by omega) HV.out).later ((Below.refl (w.heap.size + 2) _).drew) (by omega), (hb.setCell (p := ⟨w.heap.size + 1, i, none⟩) (Nat.le_succ _) _).drew, ?_⟩
            exact block_other ⟨w.heap.size + 1, i, none⟩ _ HR.out (by show w.heap.size ≠ w.heap.size + 1; omega)
          case measure => simp [intOf]; omega
        · have hlt3 : ¬ (i : Int) < 64 := by omega
          obtain rfl : i = 64 := by omega
          obtain ⟨C, hC1, hC2, hC3, hC4⟩ := hW
          have hi64 : (Tryd.prog.info? 109).map (·.size) = some C.size := by rw [hC2]; kernel_rfl
          have HC := show Hid (C.size = 64 ∧ (∀ i, i < 64 → C[i]? = some (.int .u32 (wAt s.data.toList i : Int)))) from ⟨hC2, hC3⟩
          have HBB := show Hid (Below w.heap.size w (wr.setRow w.heap.size C)) from below_setRow hb (Nat.le_refl _) C
          have hR2 := setRow_block (D := C) hR
          have h1 := all_of_words hC2 hC4
          have hC2' : zero64.size = C.size := by rw [hC2]; rfl
          clear hC3 hC4 hC2
          go_wp2_with (first
            | refine wpList_load_row rfl 109 _ rfl (w.heap.size + 1) rfl _ C _ _ hC1 Tryd.underlying109 rfl hi64 ?_
            | refine wpList_store_row rfl 109 _ _ rfl w.heap.size C rfl rfl _ _ hR hi64 hC2' h1 ?_)
          refine bodyPost_ret (v := .agg C) ?_ rfl ⟨C, rfl, HC.out.1, HC.out.2, HBB.out⟩
          exact results_cell_row rfl _ _ w.heap.size _ C _ _ rfl hR2 Tryd.underlying109 rfl hi64
end Go.Proofs.YtpcmpeeflnlkpaaDoor
