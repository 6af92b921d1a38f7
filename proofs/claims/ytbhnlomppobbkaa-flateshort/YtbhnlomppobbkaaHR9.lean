/-
  The program's codes of lengths.
-/
import Derived.Test.YtbhnlomppobbkaaHR8
import Derived.Test.YtbhnlomppobbkaaHCode2
import Derived.Deep.MidRow
import Derived.BigRegion
namespace Go.Proofs.Ytbhnlomppobbkaa
open Go.RowKit Ch
set_option maxRecDepth 100000

theorem index16_0 (f : Nat → Int) (w : World) : (Instr.index 79 (.agg #[.int .i64 (f 0), .int .i64 (f 1), .int .i64 (f 2), .int .i64 (f 3), .int .i64 (f 4), .int .i64 (f 5), .int .i64 (f 6), .int .i64 (f 7), .int .i64 (f 8), .int .i64 (f 9), .int .i64 (f 10), .int .i64 (f 11), .int .i64 (f 12), .int .i64 (f 13), .int .i64 (f 14), .int .i64 (f 15)]) (.int .i64 0)).run Try.prog w = .ok (.int .i64 (f 0)) w := by kernel_rfl
theorem index16_1 (f : Nat → Int) (w : World) : (Instr.index 79 (.agg #[.int .i64 (f 0), .int .i64 (f 1), .int .i64 (f 2), .int .i64 (f 3), .int .i64 (f 4), .int .i64 (f 5), .int .i64 (f 6), .int .i64 (f 7), .int .i64 (f 8), .int .i64 (f 9), .int .i64 (f 10), .int .i64 (f 11), .int .i64 (f 12), .int .i64 (f 13), .int .i64 (f 14), .int .i64 (f 15)]) (.int .i64 1)).run Try.prog w = .ok (.int .i64 (f 1)) w := by kernel_rfl
theorem index16_2 (f : Nat → Int) (w : World) : (Instr.index 79 (.agg #[.int .i64 (f 0), .int .i64 (f 1), .int .i64 (f 2), .int .i64 (f 3), .int .i64 (f 4), .int .i64 (f 5), .int .i64 (f 6), .int .i64 (f 7), .int .i64 (f 8), .int .i64 (f 9), .int .i64 (f 10), .int .i64 (f 11), .int .i64 (f 12), .int .i64 (f 13), .int .i64 (f 14), .int .i64 (f 15)]) (.int .i64 2)).run Try.prog w = .ok (.int .i64 (f 2)) w := by kernel_rfl
theorem index16_3 (f : Nat → Int) (w : World) : (Instr.index 79 (.agg #[.int .i64 (f 0), .int .i64 (f 1), .int .i64 (f 2), .int .i64 (f 3), .int .i64 (f 4), .int .i64 (f 5), .int .i64 (f 6), .int .i64 (f 7), .int .i64 (f 8), .int .i64 (f 9), .int .i64 (f 10), .int .i64 (f 11), .int .i64 (f 12), .int .i64 (f 13), .int .i64 (f 14), .int .i64 (f 15)]) (.int .i64 3)).run Try.prog w = .ok (.int .i64 (f 3)) w := by kernel_rfl
theorem index16_4 (f : Nat → Int) (w : World) : (Instr.index 79 (.agg #[.int .i64 (f 0), .int .i64 (f 1), .int .i64 (f 2), .int .i64 (f 3), .int .i64 (f 4), .int .i64 (f 5), .int .i64 (f 6), .int .i64 (f 7), .int .i64 (f 8), .int .i64 (f 9), .int .i64 (f 10), .int .i64 (f 11), .int .i64 (f 12), .int .i64 (f 13), .int .i64 (f 14), .int .i64 (f 15)]) (.int .i64 4)).run Try.prog w = .ok (.int .i64 (f 4)) w := by kernel_rfl
theorem index16_5 (f : Nat → Int) (w : World) : (Instr.index 79 (.agg #[.int .i64 (f 0), .int .i64 (f 1), .int .i64 (f 2), .int .i64 (f 3), .int .i64 (f 4), .int .i64 (f 5), .int .i64 (f 6), .int .i64 (f 7), .int .i64 (f 8), .int .i64 (f 9), .int .i64 (f 10), .int .i64 (f 11), .int .i64 (f 12), .int .i64 (f 13), .int .i64 (f 14), .int .i64 (f 15)]) (.int .i64 5)).run Try.prog w = .ok (.int .i64 (f 5)) w := by kernel_rfl
theorem index16_6 (f : Nat → Int) (w : World) : (Instr.index 79 (.agg #[.int .i64 (f 0), .int .i64 (f 1), .int .i64 (f 2), .int .i64 (f 3), .int .i64 (f 4), .int .i64 (f 5), .int .i64 (f 6), .int .i64 (f 7), .int .i64 (f 8), .int .i64 (f 9), .int .i64 (f 10), .int .i64 (f 11), .int .i64 (f 12), .int .i64 (f 13), .int .i64 (f 14), .int .i64 (f 15)]) (.int .i64 6)).run Try.prog w = .ok (.int .i64 (f 6)) w := by kernel_rfl
theorem index16_7 (f : Nat → Int) (w : World) : (Instr.index 79 (.agg #[.int .i64 (f 0), .int .i64 (f 1), .int .i64 (f 2), .int .i64 (f 3), .int .i64 (f 4), .int .i64 (f 5), .int .i64 (f 6), .int .i64 (f 7), .int .i64 (f 8), .int .i64 (f 9), .int .i64 (f 10), .int .i64 (f 11), .int .i64 (f 12), .int .i64 (f 13), .int .i64 (f 14), .int .i64 (f 15)]) (.int .i64 7)).run Try.prog w = .ok (.int .i64 (f 7)) w := by kernel_rfl
theorem index16_8 (f : Nat → Int) (w : World) : (Instr.index 79 (.agg #[.int .i64 (f 0), .int .i64 (f 1), .int .i64 (f 2), .int .i64 (f 3), .int .i64 (f 4), .int .i64 (f 5), .int .i64 (f 6), .int .i64 (f 7), .int .i64 (f 8), .int .i64 (f 9), .int .i64 (f 10), .int .i64 (f 11), .int .i64 (f 12), .int .i64 (f 13), .int .i64 (f 14), .int .i64 (f 15)]) (.int .i64 8)).run Try.prog w = .ok (.int .i64 (f 8)) w := by kernel_rfl
theorem index16_9 (f : Nat → Int) (w : World) : (Instr.index 79 (.agg #[.int .i64 (f 0), .int .i64 (f 1), .int .i64 (f 2), .int .i64 (f 3), .int .i64 (f 4), .int .i64 (f 5), .int .i64 (f 6), .int .i64 (f 7), .int .i64 (f 8), .int .i64 (f 9), .int .i64 (f 10), .int .i64 (f 11), .int .i64 (f 12), .int .i64 (f 13), .int .i64 (f 14), .int .i64 (f 15)]) (.int .i64 9)).run Try.prog w = .ok (.int .i64 (f 9)) w := by kernel_rfl
theorem index16_10 (f : Nat → Int) (w : World) : (Instr.index 79 (.agg #[.int .i64 (f 0), .int .i64 (f 1), .int .i64 (f 2), .int .i64 (f 3), .int .i64 (f 4), .int .i64 (f 5), .int .i64 (f 6), .int .i64 (f 7), .int .i64 (f 8), .int .i64 (f 9), .int .i64 (f 10), .int .i64 (f 11), .int .i64 (f 12), .int .i64 (f 13), .int .i64 (f 14), .int .i64 (f 15)]) (.int .i64 10)).run Try.prog w = .ok (.int .i64 (f 10)) w := by kernel_rfl
theorem index16_11 (f : Nat → Int) (w : World) : (Instr.index 79 (.agg #[.int .i64 (f 0), .int .i64 (f 1), .int .i64 (f 2), .int .i64 (f 3), .int .i64 (f 4), .int .i64 (f 5), .int .i64 (f 6), .int .i64 (f 7), .int .i64 (f 8), .int .i64 (f 9), .int .i64 (f 10), .int .i64 (f 11), .int .i64 (f 12), .int .i64 (f 13), .int .i64 (f 14), .int .i64 (f 15)]) (.int .i64 11)).run Try.prog w = .ok (.int .i64 (f 11)) w := by kernel_rfl
theorem index16_12 (f : Nat → Int) (w : World) : (Instr.index 79 (.agg #[.int .i64 (f 0), .int .i64 (f 1), .int .i64 (f 2), .int .i64 (f 3), .int .i64 (f 4), .int .i64 (f 5), .int .i64 (f 6), .int .i64 (f 7), .int .i64 (f 8), .int .i64 (f 9), .int .i64 (f 10), .int .i64 (f 11), .int .i64 (f 12), .int .i64 (f 13), .int .i64 (f 14), .int .i64 (f 15)]) (.int .i64 12)).run Try.prog w = .ok (.int .i64 (f 12)) w := by kernel_rfl
theorem index16_13 (f : Nat → Int) (w : World) : (Instr.index 79 (.agg #[.int .i64 (f 0), .int .i64 (f 1), .int .i64 (f 2), .int .i64 (f 3), .int .i64 (f 4), .int .i64 (f 5), .int .i64 (f 6), .int .i64 (f 7), .int .i64 (f 8), .int .i64 (f 9), .int .i64 (f 10), .int .i64 (f 11), .int .i64 (f 12), .int .i64 (f 13), .int .i64 (f 14), .int .i64 (f 15)]) (.int .i64 13)).run Try.prog w = .ok (.int .i64 (f 13)) w := by kernel_rfl
theorem index16_14 (f : Nat → Int) (w : World) : (Instr.index 79 (.agg #[.int .i64 (f 0), .int .i64 (f 1), .int .i64 (f 2), .int .i64 (f 3), .int .i64 (f 4), .int .i64 (f 5), .int .i64 (f 6), .int .i64 (f 7), .int .i64 (f 8), .int .i64 (f 9), .int .i64 (f 10), .int .i64 (f 11), .int .i64 (f 12), .int .i64 (f 13), .int .i64 (f 14), .int .i64 (f 15)]) (.int .i64 14)).run Try.prog w = .ok (.int .i64 (f 14)) w := by kernel_rfl
theorem index16_15 (f : Nat → Int) (w : World) : (Instr.index 79 (.agg #[.int .i64 (f 0), .int .i64 (f 1), .int .i64 (f 2), .int .i64 (f 3), .int .i64 (f 4), .int .i64 (f 5), .int .i64 (f 6), .int .i64 (f 7), .int .i64 (f 8), .int .i64 (f 9), .int .i64 (f 10), .int .i64 (f 11), .int .i64 (f 12), .int .i64 (f 13), .int .i64 (f 14), .int .i64 (f 15)]) (.int .i64 15)).run Try.prog w = .ok (.int .i64 (f 15)) w := by kernel_rfl
theorem index16 (f : Nat → Int) (w : World) (k : Nat) (hk : k < 16) : (Instr.index 79 (.agg #[.int .i64 (f 0), .int .i64 (f 1), .int .i64 (f 2), .int .i64 (f 3), .int .i64 (f 4), .int .i64 (f 5), .int .i64 (f 6), .int .i64 (f 7), .int .i64 (f 8), .int .i64 (f 9), .int .i64 (f 10), .int .i64 (f 11), .int .i64 (f 12), .int .i64 (f 13), .int .i64 (f 14), .int .i64 (f 15)]) (.int .i64 (k : Int))).run Try.prog w = .ok (.int .i64 (f k)) w := by
  match k, hk with
  | 0, _ => exact index16_0 f w
  | 1, _ => exact index16_1 f w
  | 2, _ => exact index16_2 f w
  | 3, _ => exact index16_3 f w
  | 4, _ => exact index16_4 f w
  | 5, _ => exact index16_5 f w
  | 6, _ => exact index16_6 f w
  | 7, _ => exact index16_7 f w
  | 8, _ => exact index16_8 f w
  | 9, _ => exact index16_9 f w
  | 10, _ => exact index16_10 f w
  | 11, _ => exact index16_11 f w
  | 12, _ => exact index16_12 f w
  | 13, _ => exact index16_13 f w
  | 14, _ => exact index16_14 f w
  | 15, _ => exact index16_15 f w
  | k + 16, h => omega
/-- A slice of these numbers. -/
def IsInts (w : World) (v : Value) (L : List Nat) : Prop := ∃ a cap, v = .slice a L.length cap ∧ (L.length = 0 ∨ ∃ b o, a = some ⟨b, o, none⟩ ∧ b < w.heap.size ∧ ∀ i n : Nat, L[i]? = some n → w.cell? ⟨b, o + i, none⟩ = some (.int .i64 (n : Int)))
theorem own_ints {w : World} {base : Nat} {v : Value} {L : List Nat} (h : w.ownsRow base 3 1 v L.length (intCells L)) : IsInts w v L := by
  have hcl := fun g (hg : v.ownBlock = some g) => World.ownsRow.cells h hg
  rcases h.2 with ⟨hv, h0⟩ | ⟨g, cap, cur, hv, hb, hh, hcap, hmax, _⟩
  · exact ⟨none, 0, by rw [hv, h0], .inl h0⟩
  · refine ⟨_, cap, hv, .inr ⟨g, 0, rfl, block_lt hh, fun i n hn => ?_⟩⟩
    have := hcl g (by rw [hv]; rfl) i (.int .i64 (n : Int)) (by simp [intCells, hn])
    have e : (⟨g, 0, none⟩ : Addr).add i = ⟨g, 0 + i, none⟩ := by unfold Addr.add; split <;> simp_all
    rw [e] at this
    exact this
theorem IsInts.later {w w' : World} {v : Value} {L : List Nat} (h : IsInts w v L) (hb : Below w.heap.size w w') : IsInts w' v L := by
  obtain ⟨a, cap, hv, h0 | ⟨b, o, ha, hlt, hc⟩⟩ := h
  · exact ⟨a, cap, hv, .inl h0⟩
  · exact ⟨a, cap, hv, .inr ⟨b, o, ha, Nat.lt_of_lt_of_le hlt hb.size, fun i n hn => (hb.cell (p := ⟨b, o + i, none⟩) hlt).trans (hc i n hn)⟩⟩
theorem slot_inj {L : List Nat} {n x i k : Nat} (hn0 : n ≠ 0) (hx0 : x ≠ 0) (hn : L[i]? = some n) (hx : L[k]? = some x) (h : sh L n + (L.take i).count n = sh L x + (L.take k).count x) : i = k := by
  have h1 := count_lt L hn
  have h2 := count_lt L hx
  have e1 : sh L (n + 1) = sh L n + L.count n := by rw [sh, cz, if_neg hn0]
  have e2 : sh L (x + 1) = sh L x + L.count x := by rw [sh, cz, if_neg hx0]
  have hnx : n = x := by
    rcases Nat.lt_trichotomy n x with hl | he | hl
    · have := sh_mono L (a := n + 1) (b := x) hl
      omega
    · exact he
    · have := sh_mono L (a := x + 1) (b := n) hl
      omega
  subst hnx
  have h3 : (L.take i).count n = (L.take k).count n := by omega
  have h4 := theSign_at L hn
  have h5 := theSign_at L hx
  rw [h3, h5] at h4
  exact h4.symm
theorem codes_made {L : List Nat} {W : World} {rb B T : Nat} {c2 : Array Value} {xs : List Value} (hrb : rb < B) (hcb : W.heap[B]? = some (.cells (c2.setIfInBounds 16 (.slice (some ⟨B + 2, 0, none⟩) T T)) 81 (0, 0))) (hc2 : c2.size = 17 ∧ ∀ n, n < 16 → c2[n]? = some (.int .i64 (cz L n : Int)))
    (hrow : W.ownsRow (B + 2) 3 1 (.slice (some ⟨B + 2, 0, none⟩) T T) T xs) (hv : ∀ i n, i < L.length → L[i]? = some n → n ≠ 0 → xs[sh L n + (L.take i).count n]? = some (.int .i64 (i : Int))) (hT : sh L 16 = T) : IsCodes rb L (.pointer (some ⟨B, 0, none⟩)) W := by
  rcases hrow.2 with ⟨hv0, _⟩ | ⟨g, cap, cur, hvv, hbg, hh, hcap, hmax, hsz, hcur⟩
  · cases hv0
  · simp only [Value.slice.injEq, Option.some.injEq, Addr.mk.injEq, and_true, true_and] at hvv
    obtain ⟨rfl, rfl⟩ := hvv
    refine ⟨B, B + 2, T, _, cur, rfl, hrb, by omega, hcb, ?_, fun n hn => ?_, hh, by unfold total; omega, fun n r hn hr => ?_⟩
    · unfold total
      rw [hT, Array.getElem?_setIfInBounds_self_of_lt (by rw [hc2.1]; omega)]
    · rw [Array.getElem?_setIfInBounds_ne (by omega)]
      exact hc2.2 n hn
    · have hn0 : n ≠ 0 := by intro e; rw [cz, if_pos e] at hr; omega
      obtain ⟨i, h1, h2, h3, h4⟩ := sign_of L hn0 hr
      have := hv i n h1 h2 hn0
      rw [h3] at this
      rw [h4, ← this, ← hcur, Nat.mul_one]
      have hlt : sh L n + r < T := by
        have h5 : sh L (n + 1) = sh L n + cz L n := rfl
        have h6 := sh_mono L (a := n + 1) (b := 16) (by omega)
        omega
      rw [List.getElem?_take_of_lt hlt, Array.getElem?_toList]
set_option maxHeartbeats 8000000 in
theorem hNewCodes_any (v : Value) (L : List Nat) (w : World) (hI : IsInts w v L) (hL : L.length ≤ 400) (h15 : ∀ i n : Nat, L[i]? = some n → n ≤ 15) :
    Calls Try.prog 51 #[v] w fun e w' => (∃ cp, e = .returned cp ∧ ∀ rb, rb < w.heap.size → IsCodes rb L cp w') ∧ Below w.heap.size w w' := by
  obtain ⟨a, cap, rfl, hII⟩ := hI
  have HI : Hid (L.length = 0 ∨ ∃ b o, a = some ⟨b, o, none⟩ ∧ b < w.heap.size ∧ ∀ i n : Nat, L[i]? = some n → w.cell? ⟨b, o + i, none⟩ = some (.int .i64 (n : Int))) := hII
  clear hII
  go_enter Try.func51, Try.ntmps51
  go_wp2_with fail
  go_loopw [5, 16] (fun _ t wr => ∃ (k : Nat) (cc : Array Value), k ≤ L.length ∧ t = .int .i64 (k : Int) ∧ wr.heap[w.heap.size]? = some (.cells cc 81 (0, 0)) ∧ Hid (cc.size = 17 ∧ (∀ n, n < 16 → cc[n]? = some (.int .i64 ((L.take k).count n : Int)))) ∧ wr.heap.size = w.heap.size + 1 ∧ Below w.heap.size w wr) (fun _ t _ => L.length - (intOf t).toNat)
  case atStart =>
    refine ⟨0, _, Nat.zero_le _, rfl, heap_push_at w _, ⟨rfl, fun n hn => ?_⟩, by simp, (Below.refl _ w).alloc (Nat.le_refl _) _⟩
    match n, hn with
    | 0, _ => simp
    | 1, _ => simp
    | 2, _ => simp
    | 3, _ => simp
    | 4, _ => simp
    | 5, _ => simp
    | 6, _ => simp
    | 7, _ => simp
    | 8, _ => simp
    | 9, _ => simp
    | 10, _ => simp
    | 11, _ => simp
    | 12, _ => simp
    | 13, _ => simp
    | 14, _ => simp
    | 15, _ => simp
    | n + 16, h => omega
  case round =>
    obtain ⟨k, cc, hk, rfl, hbox, hcc, hsz, hb⟩ := hrel
    by_cases hlt : k < L.length
    · obtain ⟨b, o, rfl, hbl, hcl⟩ : ∃ b o, a = some ⟨b, o, none⟩ ∧ b < w.heap.size ∧ ∀ i n : Nat, L[i]? = some n → w.cell? ⟨b, o + i, none⟩ = some (.int .i64 (n : Int)) := by
        rcases HI.out with h | h
        · omega
        · exact h
      obtain ⟨x, hx⟩ : ∃ x, L[k]? = some x := ⟨_, List.getElem?_eq_getElem hlt⟩
      have hx15 := h15 k x hx
      have c1 : wr.cell? ⟨b, o + k, none⟩ = some (.int .i64 (x : Int)) := (hb.cell (p := ⟨b, o + k, none⟩) hbl).trans (hcl k x hx)
      have c2 : wr.cell? ⟨w.heap.size, x, none⟩ = some (.int .i64 ((L.take k).count x : Int)) := block_cell x hbox (hcc.out.2 x (by omega))
      have f2 : wr.frozen? ⟨w.heap.size, x, none⟩ = false := block_free x hbox
      have hcnt : (L.take k).count x ≤ 400 := Nat.le_trans (count_take_le L x k) (Nat.le_trans List.count_le_length hL)
      have HCC : Hid ((cc.setIfInBounds x (.int .i64 ((L.take k).count x + 1 : Int))).size = 17 ∧ (∀ n, n < 16 → (cc.setIfInBounds x (.int .i64 ((L.take k).count x + 1 : Int)))[n]? = some (.int .i64 ((L.take (k + 1)).count n : Int)))) := by
        refine ⟨by rw [Array.size_setIfInBounds]; exact hcc.out.1, fun n hn => ?_⟩
        rw [count_step]
        by_cases e : n = x
        · subst e
          rw [Array.getElem?_setIfInBounds_self_of_lt (by rw [hcc.out.1]; omega), if_pos hx]
          simp
        · rw [Array.getElem?_setIfInBounds_ne (fun h => e h.symm), hcc.out.2 n hn, if_neg (fun h => e (Option.some.inj (hx.symm.trans h)).symm)]
          simp
      have HB : Hid (wr.heap[w.heap.size]? = some (.cells cc 81 (0, 0))) := hbox
      generalize (L.take k).count x = y at *
      have q1 : (x : Int) < 16 := by omega
      clear hx hcl hbox hcc HI
      go_wp2_with fail
      go_region
      go_wp2_with fail
      go_roundw
      case rel => exact ⟨k + 1, _, by omega, by go_num, setCell_block HB.out, HCC, (setCell_size _ _ _).trans hsz, (hb.setCell (p := ⟨w.heap.size, x, none⟩) (Nat.le_refl _) _).drew⟩
      case measure => simp [intOf]; omega
    · obtain rfl : k = L.length := by omega
      have c0 : wr.cell? ⟨w.heap.size, 0, none⟩ = some (.int .i64 ((L.take L.length).count 0 : Int)) := block_cell 0 hbox (hcc.out.2 0 (by omega))
      have f0 : wr.frozen? ⟨w.heap.size, 0, none⟩ = false := block_free 0 hbox
      have hbox2 : (wr.setCell ⟨w.heap.size, 0, none⟩ (.int .i64 0)).heap[w.heap.size]? = some (.cells (cc.setIfInBounds 0 (.int .i64 0)) 81 (0, 0)) := setCell_block hbox
      have hcc2 : (cc.setIfInBounds 0 (.int .i64 0)).size = 17 ∧ ∀ n, n < 16 → (cc.setIfInBounds 0 (.int .i64 0))[n]? = some (.int .i64 (cz L n : Int)) := by
        refine ⟨by rw [Array.size_setIfInBounds]; exact hcc.out.1, fun n hn => ?_⟩
        by_cases e : n = 0
        · subst e
          rw [Array.getElem?_setIfInBounds_self_of_lt (by rw [hcc.out.1]; omega)]
          rfl
        · rw [Array.getElem?_setIfInBounds_ne (fun h => e h.symm), hcc.out.2 n hn, List.take_length, cz, if_neg e]
      have hsz2 : (wr.setCell ⟨w.heap.size, 0, none⟩ (.int .i64 0)).heap.size = w.heap.size + 1 := (setCell_size _ _ _).trans hsz
      have hb2 := hb.setCell (p := ⟨w.heap.size, 0, none⟩) (Nat.le_refl _) (.int .i64 0)
      obtain ⟨W, hW⟩ : ∃ W, wr.setCell ⟨w.heap.size, 0, none⟩ (.int .i64 0) = W := ⟨_, rfl⟩
      rw [hW] at hbox2 hsz2 hb2
      generalize cc.setIfInBounds 0 (.int .i64 0) = c2 at *
      clear hbox hcc hb
      have hZb : (W.alloc (.cells #[.int .i64 0, .int .i64 0, .int .i64 0, .int .i64 0, .int .i64 0, .int .i64 0, .int .i64 0, .int .i64 0, .int .i64 0, .int .i64 0, .int .i64 0, .int .i64 0, .int .i64 0, .int .i64 0, .int .i64 0, .int .i64 0] 79)).heap[w.heap.size + 1]? = some (.cells #[.int .i64 0, .int .i64 0, .int .i64 0, .int .i64 0, .int .i64 0, .int .i64 0, .int .i64 0, .int .i64 0, .int .i64 0, .int .i64 0, .int .i64 0, .int .i64 0, .int .i64 0, .int .i64 0, .int .i64 0, .int .i64 0] 79 (0, 0)) := by
        have := heap_push_at W (.cells #[.int .i64 0, .int .i64 0, .int .i64 0, .int .i64 0, .int .i64 0, .int .i64 0, .int .i64 0, .int .i64 0, .int .i64 0, .int .i64 0, .int .i64 0, .int .i64 0, .int .i64 0, .int .i64 0, .int .i64 0, .int .i64 0] 79)
        rw [hsz2] at this
        exact this
      have hbox3 : (W.alloc (.cells #[.int .i64 0, .int .i64 0, .int .i64 0, .int .i64 0, .int .i64 0, .int .i64 0, .int .i64 0, .int .i64 0, .int .i64 0, .int .i64 0, .int .i64 0, .int .i64 0, .int .i64 0, .int .i64 0, .int .i64 0, .int .i64 0] 79)).heap[w.heap.size]? = some (.cells c2 81 (0, 0)) := block_alloc _ hbox2
      have hb3 := hb2.alloc hb2.size (.cells #[.int .i64 0, .int .i64 0, .int .i64 0, .int .i64 0, .int .i64 0, .int .i64 0, .int .i64 0, .int .i64 0, .int .i64 0, .int .i64 0, .int .i64 0, .int .i64 0, .int .i64 0, .int .i64 0, .int .i64 0, .int .i64 0] 79)
      have hsz3 : (W.alloc (.cells #[.int .i64 0, .int .i64 0, .int .i64 0, .int .i64 0, .int .i64 0, .int .i64 0, .int .i64 0, .int .i64 0, .int .i64 0, .int .i64 0, .int .i64 0, .int .i64 0, .int .i64 0, .int .i64 0, .int .i64 0, .int .i64 0] 79)).heap.size = w.heap.size + 2 := by simp [hsz2]
      have hrg : (W.alloc (.cells #[.int .i64 0, .int .i64 0, .int .i64 0, .int .i64 0, .int .i64 0, .int .i64 0, .int .i64 0, .int .i64 0, .int .i64 0, .int .i64 0, .int .i64 0, .int .i64 0, .int .i64 0, .int .i64 0, .int .i64 0, .int .i64 0] 79)).rangeAt w.heap.size 0 [.int .i64 (cz L 0 : Int), .int .i64 (cz L 1 : Int), .int .i64 (cz L 2 : Int), .int .i64 (cz L 3 : Int), .int .i64 (cz L 4 : Int), .int .i64 (cz L 5 : Int), .int .i64 (cz L 6 : Int), .int .i64 (cz L 7 : Int), .int .i64 (cz L 8 : Int), .int .i64 (cz L 9 : Int), .int .i64 (cz L 10 : Int), .int .i64 (cz L 11 : Int), .int .i64 (cz L 12 : Int), .int .i64 (cz L 13 : Int), .int .i64 (cz L 14 : Int), .int .i64 (cz L 15 : Int)] := by
        intro j u hj
        rw [Nat.zero_add]
        have hcc := hcc2.2
        match j, hj with
        | 0, hj => exact (by simp at hj; rw [← hj]; exact block_cell 0 hbox3 (hcc 0 (by omega)))
        | 1, hj => exact (by simp at hj; rw [← hj]; exact block_cell 1 hbox3 (hcc 1 (by omega)))
        | 2, hj => exact (by simp at hj; rw [← hj]; exact block_cell 2 hbox3 (hcc 2 (by omega)))
        | 3, hj => exact (by simp at hj; rw [← hj]; exact block_cell 3 hbox3 (hcc 3 (by omega)))
        | 4, hj => exact (by simp at hj; rw [← hj]; exact block_cell 4 hbox3 (hcc 4 (by omega)))
        | 5, hj => exact (by simp at hj; rw [← hj]; exact block_cell 5 hbox3 (hcc 5 (by omega)))
        | 6, hj => exact (by simp at hj; rw [← hj]; exact block_cell 6 hbox3 (hcc 6 (by omega)))
        | 7, hj => exact (by simp at hj; rw [← hj]; exact block_cell 7 hbox3 (hcc 7 (by omega)))
        | 8, hj => exact (by simp at hj; rw [← hj]; exact block_cell 8 hbox3 (hcc 8 (by omega)))
        | 9, hj => exact (by simp at hj; rw [← hj]; exact block_cell 9 hbox3 (hcc 9 (by omega)))
        | 10, hj => exact (by simp at hj; rw [← hj]; exact block_cell 10 hbox3 (hcc 10 (by omega)))
        | 11, hj => exact (by simp at hj; rw [← hj]; exact block_cell 11 hbox3 (hcc 11 (by omega)))
        | 12, hj => exact (by simp at hj; rw [← hj]; exact block_cell 12 hbox3 (hcc 12 (by omega)))
        | 13, hj => exact (by simp at hj; rw [← hj]; exact block_cell 13 hbox3 (hcc 13 (by omega)))
        | 14, hj => exact (by simp at hj; rw [← hj]; exact block_cell 14 hbox3 (hcc 14 (by omega)))
        | 15, hj => exact (by simp at hj; rw [← hj]; exact block_cell 15 hbox3 (hcc 15 (by omega)))
        | j + 16, hj => simp at hj
      have hix := fun wx k hk => index16 (fun n => (cz L n : Int)) wx k hk
      have HIX : Hid (∀ (wx : World) (k : Nat), k < 16 → (Instr.index 79 (.agg #[.int .i64 (cz L 0 : Int), .int .i64 (cz L 1 : Int), .int .i64 (cz L 2 : Int), .int .i64 (cz L 3 : Int), .int .i64 (cz L 4 : Int), .int .i64 (cz L 5 : Int), .int .i64 (cz L 6 : Int), .int .i64 (cz L 7 : Int), .int .i64 (cz L 8 : Int), .int .i64 (cz L 9 : Int), .int .i64 (cz L 10 : Int), .int .i64 (cz L 11 : Int), .int .i64 (cz L 12 : Int), .int .i64 (cz L 13 : Int), .int .i64 (cz L 14 : Int), .int .i64 (cz L 15 : Int)]) (.int .i64 (k : Int))).run Try.prog wx = .ok (.int .i64 (cz L k : Int)) wx) := hix
      clear hix
      go_wp2_with (refine wpList_load_mid rfl 79 _ rfl w.heap.size 0 rfl [.int .i64 (cz L 0 : Int), .int .i64 (cz L 1 : Int), .int .i64 (cz L 2 : Int), .int .i64 (cz L 3 : Int), .int .i64 (cz L 4 : Int), .int .i64 (cz L 5 : Int), .int .i64 (cz L 6 : Int), .int .i64 (cz L 7 : Int), .int .i64 (cz L 8 : Int), .int .i64 (cz L 9 : Int), .int .i64 (cz L 10 : Int), .int .i64 (cz L 11 : Int), .int .i64 (cz L 12 : Int), .int .i64 (cz L 13 : Int), .int .i64 (cz L 14 : Int), .int .i64 (cz L 15 : Int)] _ hrg Try.underlying79 rfl (by kernel_rfl) ?_)
      go_loopw [7, 8, 9, 39] (fun tt _ _ t wr => ∃ (n : Nat) (nx : Array Value), n ≤ 16 ∧ t = .int .i64 (n : Int) ∧ tt = .int .i64 (sh L n : Int) ∧ wr.heap[w.heap.size + 1]? = some (.cells nx 79 (0, 0)) ∧ wr.heap[w.heap.size]? = some (.cells c2 81 (0, 0)) ∧ Hid (nx.size = 16 ∧ (∀ m, m < n → nx[m]? = some (.int .i64 (sh L m : Int))) ∧ ∀ m, m < 16 → ∃ u : Int, nx[m]? = some (.int .i64 u)) ∧ wr.heap.size = w.heap.size + 2 ∧ Below w.heap.size w wr) (fun _ _ _ t _ => 16 - (intOf t).toNat)
      case atStart =>
        refine ⟨0, _, by omega, rfl, rfl, hZb, hbox3, ⟨rfl, fun m hm => absurd hm (Nat.not_lt_zero _), fun m hm => ?_⟩, hsz3, hb3⟩
        match m, hm with
        | 0, _ => exact ⟨0, rfl⟩
        | 1, _ => exact ⟨0, rfl⟩
        | 2, _ => exact ⟨0, rfl⟩
        | 3, _ => exact ⟨0, rfl⟩
        | 4, _ => exact ⟨0, rfl⟩
        | 5, _ => exact ⟨0, rfl⟩
        | 6, _ => exact ⟨0, rfl⟩
        | 7, _ => exact ⟨0, rfl⟩
        | 8, _ => exact ⟨0, rfl⟩
        | 9, _ => exact ⟨0, rfl⟩
        | 10, _ => exact ⟨0, rfl⟩
        | 11, _ => exact ⟨0, rfl⟩
        | 12, _ => exact ⟨0, rfl⟩
        | 13, _ => exact ⟨0, rfl⟩
        | 14, _ => exact ⟨0, rfl⟩
        | 15, _ => exact ⟨0, rfl⟩
        | n + 16, h => omega
      case round =>
        obtain ⟨n, nx, hn, rfl, rfl, hnb, hcb, hnx, hsz4, hb4⟩ := hrel
        clear hrg hZb hbox3 hb3 hsz3 hb2 hsz2 hbox2 hW c0 f0 hsz
        by_cases hlt : n < 16
        · obtain ⟨hn1, hn2, hn3⟩ := hnx.out
          obtain ⟨u, hu⟩ := hn3 n hlt
          have cN : wr.cell? ⟨w.heap.size + 1, n, none⟩ = some (.int .i64 u) := block_cell n hnb hu
          have fN : wr.frozen? ⟨w.heap.size + 1, n, none⟩ = false := block_free n hnb
          have ix := fun wx => HIX.out wx n hlt
          have hsh := sh_le L n
          have hczn := cz_le L n
          have HNX : Hid ((nx.setIfInBounds n (.int .i64 (sh L n : Int))).size = 16 ∧ (∀ m, m < n + 1 → (nx.setIfInBounds n (.int .i64 (sh L n : Int)))[m]? = some (.int .i64 (sh L m : Int))) ∧ ∀ m, m < 16 → ∃ u : Int, (nx.setIfInBounds n (.int .i64 (sh L n : Int)))[m]? = some (.int .i64 u)) := by
            refine ⟨by rw [Array.size_setIfInBounds]; exact hn1, fun m hm => ?_, fun m hm => ?_⟩
            · by_cases e : m = n
              · subst e
                rw [Array.getElem?_setIfInBounds_self_of_lt (by omega)]
              · rw [Array.getElem?_setIfInBounds_ne (fun h => e h.symm)]
                exact hn2 m (by omega)
            · by_cases e : m = n
              · subst e
                exact ⟨_, Array.getElem?_setIfInBounds_self_of_lt (by omega)⟩
              · rw [Array.getElem?_setIfInBounds_ne (fun h => e h.symm)]
                exact hn3 m hm
          have hs2 : Hid (sh L (n + 1) = sh L n + cz L n) := rfl
          have hbnd : sh L n ≤ 6400 := Nat.le_trans hsh (Nat.mul_le_mul (show n ≤ 16 by omega) hL)
          generalize sh L n = SN at *
          generalize cz L n = CN at *
          have HNB : Hid (wr.heap[w.heap.size + 1]? = some (.cells nx 79 (0, 0))) := hnb
          have HCB : Hid (wr.heap[w.heap.size]? = some (.cells c2 81 (0, 0))) := hcb
          clear hnx hn1 hn2 hn3 hu hnb hcb hsh
          go_wp2_with fail
          go_roundw
          case rel => exact ⟨n + 1, _, by omega, by go_num, by rw [hs2.out]; go_num, setCell_block HNB.out, block_other _ _ HCB.out (by simp), HNX, (setCell_size _ _ _).trans hsz4, hb4.setCell (p := ⟨w.heap.size + 1, n, none⟩) (Nat.le_succ _) _⟩
          case measure => simp [intOf]; omega
        · obtain rfl : n = 16 := by omega
          obtain ⟨i0, hi, hz0, hz1, hz2⟩ := info3
          have hTb : sh L 16 ≤ 6400 := Nat.le_trans (sh_le L 16) (Nat.mul_le_mul (Nat.le_refl 16) hL)
          obtain ⟨w5, hrun, hown, hgr⟩ := run_makeSlice_full (P := Try.prog) (w := wr) (w.heap.size + 2) 35 3 i0 (.int .i64 0) 1 Try.underlying35 hi hz0 hz1 .i64 .i64 (sh L 16) (by omega) (by rw [hz2]; omega) (by unfold maxLen; omega) (by omega)
          obtain ⟨xs, hxs⟩ : ∃ xs, (madeCells (Value.int IntKind.i64 0).cells (sh L 16 * 1)).toList = xs := ⟨_, rfl⟩
          rw [hxs] at hown
          rw [hsz4] at hrun hown
          obtain ⟨u16, hu16⟩ : ∃ u, c2[16]? = some u := ⟨_, Array.getElem?_eq_getElem (by rw [hcc2.1]; omega)⟩
          have hcb5 : w5.heap[w.heap.size]? = some (.cells c2 81 (0, 0)) := block_grown hcb hgr (by simp)
          have hnb5 : w5.heap[w.heap.size + 1]? = some (.cells nx 79 (0, 0)) := block_grown hnb hgr (by simp)
          have hb5 : Below w.heap.size w w5 := hb4.grown hgr (by omega) (fun k e => by cases e)
          have c16 : w5.cell? ⟨w.heap.size, 16, none⟩ = some u16 := block_cell 16 hcb5 hu16
          have f16 : w5.frozen? ⟨w.heap.size, 16, none⟩ = false := block_free 16 hcb5
          have HN0 : Hid (∀ m, m < 16 → nx[m]? = some (.int .i64 (sh L m : Int))) := hnx.out.2.1
          have HNs : Hid (nx.size = 16) := hnx.out.1
          have HC2 : Hid (c2.size = 17 ∧ ∀ n, n < 16 → c2[n]? = some (.int .i64 (cz L n : Int))) := hcc2
          have HRow : Hid (w5.ownsRow (w.heap.size + 2) 3 1 (.slice (some ⟨w.heap.size + 2, 0, none⟩) (sh L 16) (sh L 16)) (sh L 16) xs) := hown
          have HCB : Hid (w5.heap[w.heap.size]? = some (.cells c2 81 (0, 0))) := hcb5
          have HNB : Hid (w5.heap[w.heap.size + 1]? = some (.cells nx 79 (0, 0))) := hnb5
          obtain ⟨T, hT⟩ : ∃ T, sh L 16 = T := ⟨_, rfl⟩
          have HT : Hid (sh L 16 = T) := hT
          rw [hT] at hrun HRow hTb
          rw [hT]
          clear hxs hgr hnx hcc2 hown hcb5 hnb5 hT hcb hnb HIX hu16
          go_wp2_with fail
          go_loopw [10, 11, 57] (fun _ _ t wr => ∃ (k : Nat) (nx : Array Value) (xs : List Value), k ≤ L.length ∧ t = .int .i64 (k : Int) ∧ wr.heap[w.heap.size + 1]? = some (.cells nx 79 (0, 0)) ∧ wr.heap[w.heap.size]? = some (.cells (c2.setIfInBounds 16 (.slice (some ⟨w.heap.size + 2, 0, none⟩) T T)) 81 (0, 0)) ∧ wr.ownsRow (w.heap.size + 2) 3 1 (.slice (some ⟨w.heap.size + 2, 0, none⟩) T T) T xs ∧ Hid (nx.size = 16 ∧ (∀ m, m < 16 → nx[m]? = some (.int .i64 ((sh L m + (if m = 0 then 0 else (L.take k).count m) : Nat) : Int))) ∧ ∀ i n, i < k → L[i]? = some n → n ≠ 0 → xs[sh L n + (L.take i).count n]? = some (.int .i64 (i : Int))) ∧ Below w.heap.size w wr) (fun _ _ t _ => L.length - (intOf t).toNat)
          case atStart =>
            refine ⟨0, nx, xs, Nat.zero_le _, rfl, block_other _ _ HNB.out (by simp), setCell_block HCB.out, ownsRow_setCell_below HRow.out (a := ⟨w.heap.size, 16, none⟩) (by simp) _, ⟨HNs.out, fun m hm => ?_, fun i n hi => absurd hi (Nat.not_lt_zero _)⟩, hb5.setCell (p := ⟨w.heap.size, 16, none⟩) (Nat.le_refl _) _⟩
            rw [HN0.out m hm]
            simp
          case round =>
            obtain ⟨k, nx, xs, hk, rfl, hnb, hcb, hrow, hinv, hb6⟩ := hrel
            clear hrun c16 f16 hb5 hb4 hsz4 HRow HCB HNB HN0 HNs
            by_cases hlt : k < L.length
            · obtain ⟨b, o, rfl, hbl, hcl⟩ : ∃ b o, a = some ⟨b, o, none⟩ ∧ b < w.heap.size ∧ ∀ i n : Nat, L[i]? = some n → w.cell? ⟨b, o + i, none⟩ = some (.int .i64 (n : Int)) := by
                rcases HI.out with h | h
                · omega
                · exact h
              obtain ⟨x, hx⟩ : ∃ x, L[k]? = some x := ⟨_, List.getElem?_eq_getElem hlt⟩
              have hx15 := h15 k x hx
              have c1 : wr.cell? ⟨b, o + k, none⟩ = some (.int .i64 (x : Int)) := (hb6.cell (p := ⟨b, o + k, none⟩) hbl).trans (hcl k x hx)
              obtain ⟨hv1, hv2, hv3⟩ := hinv.out
              by_cases hx0 : x = 0
              · have e0 : ¬ (0 : Int) < (x : Int) := by omega
                have HV : Hid (nx.size = 16 ∧ (∀ m, m < 16 → nx[m]? = some (.int .i64 ((sh L m + (if m = 0 then 0 else (L.take (k + 1)).count m) : Nat) : Int))) ∧ ∀ i n, i < k + 1 → L[i]? = some n → n ≠ 0 → xs[sh L n + (L.take i).count n]? = some (.int .i64 (i : Int))) := by
                  refine ⟨hv1, fun m hm => ?_, fun i n hi hn hne => ?_⟩
                  · rw [hv2 m hm]
                    by_cases e : m = 0
                    · simp [e]
                    · rw [if_neg e, if_neg e, count_step, if_neg (fun h => e (by rw [hx] at h; have := Option.some.inj h; omega))]
                      simp
                  · by_cases e : i = k
                    · subst e
                      rw [hx] at hn
                      simp at hn
                      omega
                    · exact hv3 i n (by omega) hn hne
                clear hinv hv1 hv2 hv3 hx hcl
                go_wp2_with fail
                go_roundw
                case rel => exact ⟨k + 1, nx, xs, by omega, by go_num, hnb, hcb, hrow, HV, hb6⟩
                case measure => simp [intOf]; omega
              · have e0 : (0 : Int) < (x : Int) := by omega
                have hidx : sh L x + (L.take k).count x < T := by
                  have h1 := count_lt L hx
                  have h2 : sh L (x + 1) = sh L x + cz L x := rfl
                  have h3 := sh_mono L (a := x + 1) (b := 16) (by omega)
                  have h4 := HT.out
                  rw [cz, if_neg hx0] at h2
                  omega
                have cX : wr.cell? ⟨w.heap.size + 1, x, none⟩ = some (.int .i64 ((sh L x + (L.take k).count x : Nat) : Int)) := by
                  have := hv2 x (by omega)
                  rw [if_neg hx0] at this
                  exact block_cell x hnb this
                have fX : wr.frozen? ⟨w.heap.size + 1, x, none⟩ = false := block_free x hnb
                obtain ⟨g', cap', hvv, _, _, _, hcS, fS, hset⟩ := own_set hrow hidx
                simp only [Value.slice.injEq, Option.some.injEq, Addr.mk.injEq, and_true, true_and] at hvv
                obtain ⟨rfl, rfl⟩ := hvv
                have hxl : xs.length = T := by have := hrow.1; omega
                have HV : Hid ((nx.setIfInBounds x (.int .i64 ((sh L x + (L.take k).count x : Nat) + 1 : Int))).size = 16 ∧ (∀ m, m < 16 → (nx.setIfInBounds x (.int .i64 ((sh L x + (L.take k).count x : Nat) + 1 : Int)))[m]? = some (.int .i64 ((sh L m + (if m = 0 then 0 else (L.take (k + 1)).count m) : Nat) : Int))) ∧ ∀ i n, i < k + 1 → L[i]? = some n → n ≠ 0 → (xs.set (sh L x + (L.take k).count x) (.int .i64 (k : Int)))[sh L n + (L.take i).count n]? = some (.int .i64 (i : Int))) := by
                  refine ⟨by rw [Array.size_setIfInBounds]; exact hv1, fun m hm => ?_, fun i n hi hn hne => ?_⟩
                  · by_cases e : m = x
                    · subst e
                      rw [Array.getElem?_setIfInBounds_self_of_lt (by omega), if_neg hx0, count_step, if_pos hx]
                      simp
                      omega
                    · rw [Array.getElem?_setIfInBounds_ne (fun h => e h.symm), hv2 m hm]
                      by_cases e2 : m = 0
                      · simp [e2]
                      · rw [if_neg e2, if_neg e2, count_step, if_neg (fun h => e (Option.some.inj (hx.symm.trans h)).symm)]
                        simp
                  · by_cases e : i = k
                    · subst e
                      obtain rfl : x = n := Option.some.inj (hx.symm.trans hn)
                      rw [List.getElem?_set_self (by omega)]
                    · rw [List.getElem?_set_ne (fun h => e ?_)]
                      · exact hv3 i n (by omega) hn hne
                      · exact slot_inj hne hx0 hn hx h.symm
                rw [List.getElem?_eq_getElem (by omega)] at hcS
                generalize xs[sh L x + (L.take k).count x] = uS at hcS
                have HS := show Hid (∀ u, (wr.setCell ⟨w.heap.size + 2, sh L x + (L.take k).count x, none⟩ u).ownsRow (w.heap.size + 2) 3 1 (.slice (some ⟨w.heap.size + 2, 0, none⟩) T T) T (xs.set (sh L x + (L.take k).count x) u)) from hset
                have c16 : wr.cell? ⟨w.heap.size, 16, none⟩ = some (.slice (some ⟨w.heap.size + 2, 0, none⟩) T T) := block_cell 16 hcb (Array.getElem?_setIfInBounds_self_of_lt (by rw [HC2.out.1]; omega))
                have HNB : Hid (wr.heap[w.heap.size + 1]? = some (.cells nx 79 (0, 0))) := hnb
                have HCB : Hid (wr.heap[w.heap.size]? = some (.cells (c2.setIfInBounds 16 (.slice (some ⟨w.heap.size + 2, 0, none⟩) T T)) 81 (0, 0))) := hcb
                generalize sh L x + (L.take k).count x = J at *
                have j1 : (J : Int) < (T : Int) := by omega
                have x1 : (x : Int) < 16 := by omega
                clear hinv hv1 hv2 hv3 hx hcl hset hnb hcb hrow hxl
                go_wp2_with fail
                go_region
                go_wp2_with fail
                go_roundw
                case rel => exact ⟨k + 1, _, _, by omega, by go_num, setCell_block (block_other _ _ HNB.out (by simp)), block_other _ _ (block_other _ _ HCB.out (by simp)) (by simp), ownsRow_setCell_below (HS.out _) (a := ⟨w.heap.size + 1, x, none⟩) (by simp) _, HV, ((hb6.setCell (p := ⟨w.heap.size + 2, J, none⟩) (by show w.heap.size ≤ w.heap.size + 2; omega) _).setCell (p := ⟨w.heap.size + 1, x, none⟩) (Nat.le_succ _) _).drew⟩
                case measure => simp [intOf]; omega
            · obtain rfl : k = L.length := by omega
              have HV : Hid (∀ i n, i < L.length → L[i]? = some n → n ≠ 0 → xs[sh L n + (L.take i).count n]? = some (.int .i64 (i : Int))) := hinv.out.2.2
              have HCB : Hid (wr.heap[w.heap.size]? = some (.cells (c2.setIfInBounds 16 (.slice (some ⟨w.heap.size + 2, 0, none⟩) T T)) 81 (0, 0))) := hcb
              have HRow : Hid (wr.ownsRow (w.heap.size + 2) 3 1 (.slice (some ⟨w.heap.size + 2, 0, none⟩) T T) T xs) := hrow
              clear hinv hcb hrow hnb
              go_wp2
              go_ret
              refine ⟨⟨_, rfl, fun rb hrb => ?_⟩, hb6⟩
              exact codes_made hrb HCB.out HC2.out HRow.out HV.out HT.out
end Go.Proofs.Ytbhnlomppobbkaa
