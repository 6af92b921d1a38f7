/-
  PLAIN: a text in blocks as it is, inflated, whatever stands behind.
-/
import Derived.Test.YtbhnlomppobbkaaHInf
import Derived.Test.YtbhnlomppobbkaaHStor
namespace Go.Proofs.Ytbhnlomppobbkaa.Ch

theorem numAt_add (l : List UInt8) (p a b : Nat) : numAt l p (a + b) = numAt l p a + 2 ^ a * numAt l (p + a) b := by
  unfold numAt
  rw [List.range_add, List.map_append, numOf_append, List.map_map, List.length_map, List.length_range]
  congr 2
  congr 1
  apply List.map_congr_left
  intro i _
  show bitL l (p + (a + i)) = bitL l (p + a + i)
  rw [Nat.add_assoc]
theorem numAt_in (l : List UInt8) (P j k : Nat) (h : j + k ≤ 8) : numAt l (8 * P + j) k = ((l[P]?).getD 0).toNat / 2 ^ j % 2 ^ k := by
  apply Nat.eq_of_testBit_eq
  intro i
  unfold numAt
  rw [numOf_testBit, List.getElem?_map, Nat.testBit_mod_two_pow]
  by_cases hi : i < k
  · rw [List.getElem?_range hi, Nat.testBit_div_two_pow]
    unfold bitL
    simp only [Option.map_some, Option.getD_some, hi, decide_true, Bool.true_and]
    rw [show (8 * P + j + i) / 8 = P by omega, show (8 * P + j + i) % 8 = i + j by omega]
  · rw [List.getElem?_eq_none (by simpa using hi)]
    simp [hi]
theorem numAt_8 (l : List UInt8) (P : Nat) : numAt l (8 * P) 8 = ((l[P]?).getD 0).toNat := by
  have := numAt_in l P 0 8 (by omega)
  rw [Nat.add_zero, Nat.pow_zero, Nat.div_one] at this
  rw [this]
  exact Nat.mod_eq_of_lt (UInt8.toNat_lt _)
theorem numAt_16 (l : List UInt8) (P : Nat) : numAt l (8 * P) 16 = ((l[P]?).getD 0).toNat + 256 * ((l[P + 1]?).getD 0).toNat := by
  rw [show (16 : Nat) = 8 + 8 from rfl, numAt_add, numAt_8, show 8 * P + 8 = 8 * (P + 1) by omega, numAt_8]
theorem at_right (pre rest : List UInt8) (i : Nat) : (pre ++ rest)[pre.length + i]? = rest[i]? := by
  rw [List.getElem?_append_right (by omega), Nat.add_sub_cancel_left]
/-- One block of bytes as they are. -/
theorem rawL_head (O : Nat → List UInt8 → Except Nat (Nat × List UInt8)) (pre l rest acc : List UInt8) (last : Bool) (most : Nat) (hl : l.length ≤ 65535) :
    blockL O (pre ++ (headL last l.length ++ l ++ rest)) most (8 * pre.length) acc = if acc.length + l.length ≤ most then .ok (last, (pre.length + 5 + l.length) * 8, acc ++ l) else .error 12 := by
  obtain ⟨n, hn⟩ : ∃ n, l.length = n := ⟨_, rfl⟩
  rw [hn] at hl ⊢
  obtain ⟨L, hL⟩ : ∃ L, pre ++ (headL last n ++ l ++ rest) = L := ⟨_, rfl⟩
  have hat : ∀ i, i < 5 → L[pre.length + i]? = (headL last n)[i]? := by
    intro i hi
    rw [← hL, at_right, List.append_assoc, List.getElem?_append_left (by rw [headL_length]; omega)]
  have hlen : pre.length + 5 + n ≤ L.length := by
    rw [← hL]
    simp [headL_length, hn]
    omega
  have h0 := hat 0 (by omega)
  have h1 := hat 1 (by omega)
  have h2 := hat 2 (by omega)
  have h3 := hat 3 (by omega)
  have h4 := hat 4 (by omega)
  rw [Nat.add_zero] at h0
  rw [hL]
  have e0 : numAt L (8 * pre.length) 1 = last.toNat := by
    have := numAt_in L pre.length 0 1 (by omega)
    rw [Nat.add_zero, h0, show ((headL last n)[0]?).getD 0 = UInt8.ofNat last.toNat from rfl] at this
    rw [this]
    cases last <;> decide
  have e1 : numAt L (8 * pre.length + 1) 2 = 0 := by
    rw [numAt_in L pre.length 1 2 (by omega), h0, show ((headL last n)[0]?).getD 0 = UInt8.ofNat last.toNat from rfl]
    cases last <;> decide
  have e2 : numAt L ((pre.length + 1) * 8) 16 = n := by
    rw [Nat.mul_comm, numAt_16, h1, h2]
    show (UInt8.ofNat (n % 256)).toNat + 256 * (UInt8.ofNat (n / 256)).toNat = n
    rw [UInt8.toNat_ofNat', UInt8.toNat_ofNat']
    omega
  have e3 : numAt L ((pre.length + 1) * 8 + 16) 16 = 65535 - n := by
    rw [show (pre.length + 1) * 8 + 16 = 8 * (pre.length + 3) by omega, numAt_16, h3, h4]
    show (UInt8.ofNat ((65535 - n) % 256)).toNat + 256 * (UInt8.ofNat ((65535 - n) / 256)).toNat = _
    rw [UInt8.toNat_ofNat', UInt8.toNat_ofNat']
    omega
  have e4 : (L.drop (pre.length + 5)).take n = l := by
    rw [← hL, show pre.length + 5 = (pre ++ headL last n).length by rw [List.length_append, headL_length], ← List.append_assoc, ← List.append_assoc, List.append_assoc, List.drop_left, ← hn, List.take_left]
  have hb : ((last.toNat) == 1) = last := by cases last <;> rfl
  have hr : rawL L most (8 * pre.length + 1 + 2) acc = if acc.length + n ≤ most then .ok ((pre.length + 5 + n) * 8, acc ++ l) else .error 12 := by
    unfold rawL
    have es : (8 * pre.length + 1 + 2 + 7) / 8 = pre.length + 1 := by omega
    rw [es]
    unfold rdNum
    rw [if_pos (by omega)]
    simp only
    rw [if_pos (by omega)]
    simp only [e2, e3, if_true]
    by_cases hm : acc.length + n ≤ most
    · rw [if_pos hm, if_pos hm, if_pos (by omega), show pre.length + 1 + 4 = pre.length + 5 by omega, e4]
    · rw [if_neg hm, if_neg hm]
  unfold blockL rdNum
  rw [if_pos (by omega)]
  simp only
  rw [if_pos (by omega)]
  simp only [e0, e1, if_true, hr, hb]
  by_cases hm : acc.length + n ≤ most
  · rw [if_pos hm, if_pos hm]
  · rw [if_neg hm, if_neg hm]
/-- All of them. -/
theorem stored_blocks (O : Nat → List UInt8 → Except Nat (Nat × List UInt8)) (most : Nat) (tail : List UInt8) : ∀ (f : Nat) (l pre acc : List UInt8), l.length < f →
    blocksF O (pre ++ (storedL l ++ tail)) most f (8 * pre.length) acc = if acc.length + l.length ≤ most then .ok ((pre.length + (storedL l).length) * 8, acc ++ l) else .error 12 := by
  intro f
  induction f with
  | zero => intro l pre acc h; omega
  | succ f ih =>
    intro l pre acc h
    rw [blocksF]
    by_cases hl : l.length ≤ 65535
    · rw [storedL_last hl, rawL_head O pre l tail acc true most hl]
      by_cases hm : acc.length + l.length ≤ most
      · rw [if_pos hm, if_pos hm]
        simp only [if_true]
        rw [List.length_append, headL_length]
        congr 2
        omega
      · rw [if_neg hm, if_neg hm]
    · have ht : (l.take 65535).length = 65535 := by rw [List.length_take]; omega
      have e : pre ++ (storedL l ++ tail) = pre ++ (headL false (l.take 65535).length ++ l.take 65535 ++ (storedL (l.drop 65535) ++ tail)) := by
        rw [storedL_more hl, ht]
        simp only [List.append_assoc]
      rw [e, rawL_head O pre (l.take 65535) _ acc false most (by omega)]
      have hd : (l.drop 65535).length = l.length - 65535 := List.length_drop
      by_cases hm : acc.length + (l.take 65535).length ≤ most
      · rw [if_pos hm]
        simp only [Bool.false_eq_true, if_false]
        have e2 : pre ++ (headL false (l.take 65535).length ++ l.take 65535 ++ (storedL (l.drop 65535) ++ tail)) = (pre ++ headL false (l.take 65535).length ++ l.take 65535) ++ (storedL (l.drop 65535) ++ tail) := by simp only [List.append_assoc]
        have e3 : (pre.length + 5 + (l.take 65535).length) * 8 = 8 * (pre ++ headL false (l.take 65535).length ++ l.take 65535).length := by
          rw [List.length_append, List.length_append, headL_length]
          omega
        rw [e2, e3, ih _ _ _ (by omega)]
        have e4 : (acc ++ l.take 65535).length + (l.drop 65535).length = acc.length + l.length := by rw [List.length_append, ht, hd]; omega
        rw [e4]
        by_cases hm2 : acc.length + l.length ≤ most
        · have e5 : acc ++ l.take 65535 ++ l.drop 65535 = acc ++ l := by rw [List.append_assoc, List.take_append_drop]
          rw [if_pos hm2, if_pos hm2, e5, storedL_more hl]
          congr 2
          simp only [List.length_append, headL_length, ht]
          omega
        · rw [if_neg hm2, if_neg hm2]
      · rw [if_neg hm, if_neg (by omega)]
theorem stored_infl (O : Nat → List UInt8 → Except Nat (Nat × List UInt8)) (most : Nat) (l tail : List UInt8) : inflL O (storedL l ++ tail) most = if l.length ≤ most then .ok ((storedL l).length * 8, l) else .error 12 := by
  unfold inflL
  have h1 := storedL_length l.length l (Nat.le_refl _)
  have := stored_blocks O most tail (8 * (storedL l ++ tail).length + 1) l [] [] (by rw [List.length_append]; omega)
  simpa using this
end Go.Proofs.Ytbhnlomppobbkaa.Ch
