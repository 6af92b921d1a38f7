/-
  The reference's Codes: codes of lengths.
-/
import Derived.Test.YtbhnlomppobbkaaJInt
namespace Go.Proofs.Ytbhnlomppobbkaa
open Go.RowKit Ch
set_option maxRecDepth 100000

/-- The code of a sign, and its width; none: nought. -/
def codeOf (L : List Nat) (t : Nat) : Nat × Nat := match L[t]? with
  | some m => if 1 ≤ m then (first L m + (L.take t).count m, m) else (0, 0)
  | none => (0, 0)
/-- What is laid of it when the signs below s of length n are done. -/
def partOf (L : List Nat) (n s t : Nat) : Nat × Nat := match L[t]? with
  | some m => if 1 ≤ m ∧ (m < n ∨ m = n ∧ t < s) then (first L m + (L.take t).count m, m) else (0, 0)
  | none => (0, 0)
theorem partOf_start (L : List Nat) (t : Nat) : partOf L 1 0 t = (0, 0) := by
  unfold partOf
  split
  · rw [if_neg (by omega)]
  · rfl
theorem partOf_other {L : List Nat} {n s : Nat} (hs : L[s]? ≠ some n) (t : Nat) : partOf L n (s + 1) t = partOf L n s t := by
  unfold partOf
  cases ht : L[t]? with
  | none => rfl
  | some m =>
    simp only
    by_cases e : t = s ∧ m = n
    · exact absurd (by rw [← e.1, ht, e.2]) hs
    · by_cases h : 1 ≤ m ∧ (m < n ∨ m = n ∧ t < s)
      · rw [if_pos h, if_pos (by omega)]
      · rw [if_neg h, if_neg (by omega)]
theorem partOf_else {L : List Nat} {n s t : Nat} (hne : t ≠ s) : partOf L n (s + 1) t = partOf L n s t := by
  unfold partOf
  cases ht : L[t]? with
  | none => rfl
  | some m =>
    simp only
    by_cases h : 1 ≤ m ∧ (m < n ∨ m = n ∧ t < s)
    · rw [if_pos h, if_pos (by omega)]
    · rw [if_neg h, if_neg (by omega)]
theorem partOf_this {L : List Nat} {n s : Nat} (hn : 1 ≤ n) (hs : L[s]? = some n) : partOf L n (s + 1) s = (first L n + (L.take s).count n, n) := by
  unfold partOf
  rw [hs]
  simp only
  rw [if_pos ⟨hn, .inr ⟨trivial, by omega⟩⟩]
theorem partOf_next (L : List Nat) (n t : Nat) : partOf L (n + 1) 0 t = partOf L n L.length t := by
  unfold partOf
  cases ht : L[t]? with
  | none => rfl
  | some m =>
    have := (List.getElem?_eq_some_iff.1 ht).1
    simp only
    by_cases h : 1 ≤ m ∧ (m < n ∨ m = n ∧ t < L.length)
    · rw [if_pos h, if_pos (by omega)]
    · rw [if_neg h, if_neg (by omega)]
theorem partOf_all {L : List Nat} (h15 : ∀ i n : Nat, L[i]? = some n → n ≤ 15) (t : Nat) : partOf L 16 0 t = codeOf L t := by
  unfold partOf codeOf
  cases ht : L[t]? with
  | none => rfl
  | some m =>
    have := h15 t m ht
    simp only
    by_cases h : 1 ≤ m
    · rw [if_pos h, if_pos (by omega)]
    · rw [if_neg h, if_neg (by omega)]
theorem first_le (L : List Nat) : ∀ (n : Nat), first L n ≤ 2 * L.length * (2 ^ n - 1) := by
  intro n
  induction n with
  | zero => simp [first]
  | succ n ih =>
    rw [first]
    have h1 := cz_le L n
    have h2 : 1 ≤ 2 ^ n := Nat.one_le_two_pow
    have e : 2 * L.length * (2 ^ (n + 1) - 1) = 2 * (2 * L.length * (2 ^ n - 1) + L.length) := by
      rw [Nat.pow_succ]
      obtain ⟨z, hz⟩ : ∃ z, 2 ^ n = z + 1 := ⟨2 ^ n - 1, by omega⟩
      rw [hz, show (z + 1) * 2 - 1 = 2 * z + 1 by omega, Nat.add_sub_cancel, Nat.mul_add, Nat.mul_one, Nat.mul_assoc, Nat.mul_assoc, Nat.mul_add, ← Nat.mul_assoc 2 2]
      have : L.length * (2 * z) = 2 * (L.length * z) := by rw [Nat.mul_left_comm]
      omega
    omega
theorem first_small {L : List Nat} (hL : L.length ≤ 400) {n : Nat} (hn : n ≤ 16) : first L n ≤ 60000000 := by
  have h1 := first_le L n
  have h2 : 2 ^ n - 1 ≤ 65536 := by
    have : 2 ^ n ≤ 2 ^ 16 := Nat.pow_le_pow_right (by omega) hn
    omega
  have h3 : 2 * L.length * (2 ^ n - 1) ≤ 800 * 65536 := Nat.mul_le_mul (by omega) h2
  omega
/-- Codes lie in a block. -/
structure CodesIn (B n : Nat) (f : Nat → Nat × Nat) (W : World) : Prop where
  ex : ∃ C, W.heap[B]? = some (.cells C 53 (0, 0)) ∧ C.size = 2 * n ∧ ∀ t, t < n → C[2 * t]? = some (.int .i64 ((f t).1 : Int)) ∧ C[2 * t + 1]? = some (.int .i64 ((f t).2 : Int))
theorem CodesIn.at {B n : Nat} {f : Nat → Nat × Nat} {W : World} (h : CodesIn B n f W) {t : Nat} (ht : t < n) : W.cell? ⟨B, t * 2, none⟩ = some (.int .i64 ((f t).1 : Int)) ∧ W.cell? ⟨B, t * 2 + 1, none⟩ = some (.int .i64 ((f t).2 : Int)) ∧ W.frozen? ⟨B, t * 2, none⟩ = false ∧ W.frozen? ⟨B, t * 2 + 1, none⟩ = false := by
  obtain ⟨C, h1, h2, h3⟩ := h.ex
  rw [Nat.mul_comm t 2]
  exact ⟨block_cell _ h1 (h3 t ht).1, block_cell _ h1 (h3 t ht).2, block_free _ h1, block_free _ h1⟩
theorem CodesIn.later {B n b : Nat} {f : Nat → Nat × Nat} {W W' : World} (h : CodesIn B n f W) (hb : Below b W W') (hB : B < b) : CodesIn B n f W' := by
  obtain ⟨C, h1, h2, h3⟩ := h.ex
  exact ⟨C, (hb.block B hB).trans h1, h2, h3⟩
theorem CodesIn.set {B n : Nat} {f g : Nat → Nat × Nat} {W : World} (h : CodesIn B n f W) {s : Nat} (hs : s < n) (hg : ∀ t, t ≠ s → g t = f t) {x y : Int} (hx : x = ((g s).1 : Int)) (hy : y = ((g s).2 : Int)) :
    CodesIn B n g ((W.setCell ⟨B, s * 2, none⟩ (.int .i64 x)).setCell ⟨B, s * 2 + 1, none⟩ (.int .i64 y)) := by
  obtain ⟨C, h1, h2, h3⟩ := h.ex
  refine ⟨_, setCell_block (setCell_block h1), by simp [h2], fun t ht => ?_⟩
  by_cases e : t = s
  · subst e
    constructor
    · rw [Array.getElem?_setIfInBounds_ne (by omega), show 2 * t = t * 2 by omega, Array.getElem?_setIfInBounds_self, if_pos (by omega), hx]
    · rw [show 2 * t + 1 = t * 2 + 1 by omega, Array.getElem?_setIfInBounds_self, if_pos (by simp; omega), hy]
  · rw [hg t e]
    constructor
    · rw [Array.getElem?_setIfInBounds_ne (by omega), Array.getElem?_setIfInBounds_ne (by omega)]
      exact (h3 t ht).1
    · rw [Array.getElem?_setIfInBounds_ne (by omega), Array.getElem?_setIfInBounds_ne (by omega)]
      exact (h3 t ht).2
theorem infoCode : ∃ i, Try.prog.info? 53 = some i ∧ i.zero = some (.agg #[.int .i64 0, .int .i64 0]) ∧ i.size = 2 ∧ i.bytes = 16 := info_parts (by kernel_rfl)
theorem made_codes (w : World) (n : Nat) : CodesIn w.heap.size n (fun _ => (0, 0)) (w.alloc (.cells (madeCells #[.int .i64 0, .int .i64 0] (n * 2)) 53)) := by
  refine ⟨_, heap_push_at _ _, by rw [size_madeCells]; omega, fun t ht => ?_⟩
  unfold madeCells
  constructor
  · rw [Array.getElem?_map, Array.getElem?_range, if_pos (by omega)]
    show some (#[Value.int .i64 0, .int .i64 0][2 * t % 2]!) = _
    rw [show 2 * t % 2 = 0 by omega]
    rfl
  · rw [Array.getElem?_map, Array.getElem?_range, if_pos (by omega)]
    show some (#[Value.int .i64 0, .int .i64 0][(2 * t + 1) % 2]!) = _
    rw [show (2 * t + 1) % 2 = 1 by omega]
    rfl
set_option maxHeartbeats 4000000 in
theorem jCodes_any (v : Value) (L : List Nat) (w : World) (hI : IsInts w v L) (hL : L.length ≤ 400) (h15 : ∀ i n : Nat, L[i]? = some n → n ≤ 15) :
    Calls Try.prog 24 #[v] w fun e w' => e = .returned (.slice (some ⟨w.heap.size, 0, none⟩) L.length L.length) ∧ CodesIn w.heap.size L.length (codeOf L) w' ∧ Below w.heap.size w w' := by
  obtain ⟨i0, hi, hz0, hz1, hz2⟩ := infoCode
  have hrun := run_make (P := Try.prog) w 49 53 i0 (.agg #[.int .i64 0, .int .i64 0]) Try.underlying49 hi hz0 .i64 .i64 (L.length : Int) (L.length : Int) (by omega) (by omega) (by rw [hz2]; omega) (by omega)
  obtain ⟨a, cap, rfl, hI2⟩ := hI
  go_enter Try.func24, Try.ntmps24
  go_wp2_with fail
  have hC0 := made_codes w L.length
  have hb0 : Below w.heap.size w (w.alloc (.cells (madeCells #[.int .i64 0, .int .i64 0] (L.length * 2)) 53)) := (Below.refl _ w).alloc (Nat.le_refl _) _
  generalize w.alloc (.cells (madeCells #[.int .i64 0, .int .i64 0] (L.length * 2)) 53) = W0 at *
  have HI : Hid (L.length = 0 ∨ ∃ b o, a = some ⟨b, o, none⟩ ∧ b < w.heap.size ∧ ∀ i n : Nat, L[i]? = some n → w.cell? ⟨b, o + i, none⟩ = some (.int .i64 (n : Int))) := hI2
  have H15 : Hid (∀ i n : Nat, L[i]? = some n → n ≤ 15) := h15
  have HC0 : Hid (CodesIn w.heap.size L.length (fun _ => (0, 0)) W0) := hC0
  obtain ⟨N, hN⟩ : ∃ N, L.length = N := ⟨_, rfl⟩
  have HN : Hid (L.length = N) := hN
  rw [hN] at hL ⊢
  clear hrun hz0 hz1 hz2 hi hI2 h15 hC0 hN
  go_loopw [4, 5] (fun u t wr => ∃ (n c : Nat), 1 ≤ n ∧ n ≤ 16 ∧ t = .int .i64 (n : Int) ∧ u = .int .i64 (c : Int) ∧ Hid (2 * c = first L n) ∧ CodesIn w.heap.size N (partOf L n 0) wr ∧ Below w.heap.size w wr) (fun _ t _ => 16 - (intOf t).toNat)
  case atStart =>
    refine ⟨1, 0, Nat.le_refl _, by omega, rfl, rfl, by unfold Hid; simp [first, cz], ?_, hb0⟩
    have : partOf L 1 0 = fun _ => (0, 0) := funext (partOf_start L)
    rw [this, ← HN.out]
    exact HC0.out
  case round =>
    obtain ⟨n, c, hn1, hn16, rfl, rfl, hc, hC, hb⟩ := hrel
    by_cases hlt : n ≤ 15
    · have hlt2 : (n : Int) ≤ 15 := by omega
      have hfs := first_small (L := L) (by rw [HN.out]; exact hL) hn16
      obtain ⟨c2, hc2⟩ : ∃ c2, 2 * c = c2 := ⟨_, rfl⟩
      have ec2 : (c : Int) * 2 = (c2 : Int) := by omega
      have hcb : c2 ≤ 60000000 := by rw [← hc2, hc.out]; exact hfs
      have hcs : Hid (c2 = first L n) := by unfold Hid; rw [← hc2]; exact hc.out
      have hcc : c ≤ 60000000 := by omega
      clear hc2 hc hfs
      obtain ⟨w5, hw5⟩ : ∃ w5, w5 = wr := ⟨_, rfl⟩
      subst hw5
      go_wp2_with fail
      go_loopw [4, 6] (fun u t wr => ∃ (s c : Nat), s ≤ N ∧ t = .int .i64 (s : Int) ∧ u = .int .i64 (c : Int) ∧ Hid (c = first L n + (L.take s).count n) ∧ c ≤ 60000000 + s ∧ CodesIn w.heap.size N (partOf L n s) wr ∧ Below w.heap.size w wr) (fun _ t _ => N - (intOf t).toNat)
      case atStart => exact ⟨0, c2, Nat.zero_le _, rfl, rfl, by unfold Hid; rw [hcs.out]; simp, by omega, hC, hb⟩
      case round =>
        obtain ⟨s, c, hs, rfl, rfl, hc, hcl, hC, hb⟩ := hrel
        by_cases hsN : s < N
        · have hsN2 : (s : Int) < (N : Int) := by omega
          obtain ⟨m, hm⟩ : ∃ m, L[s]? = some m := ⟨L[s]'(by rw [HN.out]; exact hsN), List.getElem?_eq_getElem _⟩
          obtain ⟨b, o, rfl, hbl, hce⟩ : ∃ b o, a = some ⟨b, o, none⟩ ∧ b < w.heap.size ∧ w.cell? ⟨b, o + s, none⟩ = some (.int .i64 (m : Int)) := by
            rcases HI.out with h0 | ⟨b, o, h1, h2, h3⟩
            · rw [HN.out] at h0; omega
            · exact ⟨b, o, h1, h2, h3 s m hm⟩
          have g0 := (hb.cell (p := ⟨b, o + s, none⟩) hbl).trans hce
          have hstep := count_step L n s
          have hm15 := H15.out s m hm
          by_cases e : m = n
          · have em : ((m : Int) == (n : Int)) = true := by simp; omega
            rw [if_pos (by rw [hm, e])] at hstep
            have hc' : Hid (c + 1 = first L n + (L.take (s + 1)).count n) := by unfold Hid; rw [hstep, hc.out]; omega
            obtain ⟨q0, q1, q2, q3⟩ := hC.at hsN
            have hC2 : Hid (CodesIn w.heap.size N (partOf L n (s + 1)) ((wr.setCell ⟨w.heap.size, s * 2, none⟩ (.int .i64 (c : Int))).setCell ⟨w.heap.size, s * 2 + 1, none⟩ (.int .i64 (n : Int)))) :=
              hC.set hsN (fun t ht => partOf_else ht) (by rw [partOf_this hn1 (by rw [hm, e]), hc.out]) (by rw [partOf_this hn1 (by rw [hm, e])])
            have hb2 : Hid (Below w.heap.size w ((wr.setCell ⟨w.heap.size, s * 2, none⟩ (.int .i64 (c : Int))).setCell ⟨w.heap.size, s * 2 + 1, none⟩ (.int .i64 (n : Int)))) := (hb.setCell (p := ⟨w.heap.size, s * 2, none⟩) (Nat.le_refl _) _).setCell (p := ⟨w.heap.size, s * 2 + 1, none⟩) (Nat.le_refl _) _
            generalize (partOf L n s s).1 = z1 at *
            generalize (partOf L n s s).2 = z2 at *
            clear hstep hc hC hm e hm15
            go_wp2_with fail
            go_roundw
            case rel => exact ⟨s + 1, c + 1, by omega, by go_num, by go_num, hc', by omega, hC2.out, hb2.out⟩
            case measure => simp [intOf]; omega
          · have em : ((m : Int) == (n : Int)) = false := by simp; omega
            rw [if_neg (by rw [hm]; intro h; exact e (Option.some.inj h))] at hstep
            have hc' : Hid (c = first L n + (L.take (s + 1)).count n) := by unfold Hid; rw [hstep, hc.out]; omega
            have hC2 : Hid (CodesIn w.heap.size N (partOf L n (s + 1)) wr) := by
              have : partOf L n (s + 1) = partOf L n s := funext (partOf_other (by rw [hm]; intro h; exact e (Option.some.inj h)))
              unfold Hid
              rw [this]
              exact hC
            clear hstep hc hC hm e hm15
            go_wp2_with fail
            go_roundw
            case rel => exact ⟨s + 1, c, by omega, by go_num, rfl, hc', by omega, hC2.out, hb⟩
            case measure => simp [intOf]; omega
        · have hsN2 : ¬ (s : Int) < (N : Int) := by omega
          obtain rfl : s = N := by omega
          have hc' : Hid (2 * c = first L (n + 1)) := by
            unfold Hid
            rw [first, cz, if_neg (by omega), hc.out, List.take_of_length_le (by rw [HN.out]; omega)]
          have hC2 : Hid (CodesIn w.heap.size s (partOf L (n + 1) 0) wr) := by
            have : partOf L (n + 1) 0 = partOf L n s := funext (fun t => by rw [partOf_next, HN.out])
            unfold Hid
            rw [this]
            exact hC
          clear hc hC
          go_wp2_with fail
          go_roundw
          case rel => exact ⟨n + 1, c, by omega, by omega, by go_num, rfl, hc', hC2.out, hb⟩
          case measure => simp [intOf]; omega
    · have hlt2 : ¬ (n : Int) ≤ 15 := by omega
      obtain rfl : n = 16 := by omega
      have hC2 : Hid (CodesIn w.heap.size N (codeOf L) wr) := by
        have : partOf L 16 0 = codeOf L := funext (partOf_all H15.out)
        unfold Hid
        rw [← this]
        exact hC
      clear hC hc
      go_wp2_with fail
      go_ret
      rw [HN.out]
      exact ⟨rfl, hC2.out, hb⟩
end Go.Proofs.Ytbhnlomppobbkaa
