/-
  PLAIN: what the writer wrote is read back: a deflated text, inflated, whatever stands behind.
-/
import Derived.Test.YtbhnlomppobbkaaHCode2
import Derived.Test.YtbhnlomppobbkaaHPl1
namespace Go.Proofs.Ytbhnlomppobbkaa.Ch

/-- The bits bs stand in l from p on. -/
def Stands (l : List UInt8) (p : Nat) (bs : List Bool) : Prop := p + bs.length ≤ 8 * l.length ∧ ∀ i, i < bs.length → bitL l (p + i) = (bs[i]?).getD false
theorem stands_left {l : List UInt8} {p : Nat} {a b : List Bool} (h : Stands l p (a ++ b)) : Stands l p a := by
  obtain ⟨h1, h2⟩ := h
  rw [List.length_append] at h1 h2
  refine ⟨by omega, fun i hi => ?_⟩
  rw [h2 i (by omega), List.getElem?_append_left hi]
theorem stands_right {l : List UInt8} {p : Nat} {a b : List Bool} (h : Stands l p (a ++ b)) : Stands l (p + a.length) b := by
  obtain ⟨h1, h2⟩ := h
  rw [List.length_append] at h1 h2
  refine ⟨by omega, fun i hi => ?_⟩
  rw [Nat.add_assoc, h2 (a.length + i) (by omega), List.getElem?_append_right (by omega), Nat.add_sub_cancel_left]
theorem stands_pack (bits : List Bool) (tail : List UInt8) : Stands (pack bits ++ tail) 0 bits := by
  have hp := pack_length bits
  refine ⟨by rw [List.length_append, hp]; omega, fun i hi => ?_⟩
  rw [Nat.zero_add, bitL_append _ _ _ (by omega), bitL_pack _ _ hi]
theorem rdNum_stands {l : List UInt8} {p x k : Nat} (h : Stands l p (numBits x k)) (hx : x < 2 ^ k) : rdNum l k p = .ok (x, p + k) := by
  obtain ⟨h1, h2⟩ := h
  rw [numBits_length] at h1 h2
  unfold rdNum
  rw [if_pos h1]
  have e : numAt l p k = x := by
    apply Nat.eq_of_testBit_eq
    intro i
    unfold numAt
    rw [numOf_testBit, List.getElem?_map]
    by_cases hi : i < k
    · rw [List.getElem?_range hi]
      show bitL l (p + i) = _
      rw [h2 i hi]
      unfold numBits
      rw [List.getElem?_map, List.getElem?_range hi]
      rfl
    · rw [List.getElem?_eq_none (by simpa using hi)]
      exact (Nat.testBit_lt_two_pow (Nat.lt_of_lt_of_le hx (Nat.pow_le_pow_right (by omega) (by omega)))).symm
  rw [e]
theorem first_grows (L : List Nat) (m : Nat) : ∀ (N : Nat), m < N → 2 ^ (N - m) * (first L m + cz L m) ≤ first L N := by
  intro N
  induction N with
  | zero => intro h; omega
  | succ N ih =>
    intro h
    rw [first]
    by_cases e : m = N
    · rw [e, show N + 1 - N = 1 by omega]; omega
    · have := ih (by omega)
      rw [show N + 1 - m = (N - m) + 1 by omega, Nat.pow_succ]
      have e2 : 2 ^ (N - m) * 2 * (first L m + cz L m) = 2 * (2 ^ (N - m) * (first L m + cz L m)) := by rw [Nat.mul_comm (2 ^ (N - m)) 2, Nat.mul_assoc]
      omega
theorem sgnF_stands {L : List Nat} {l : List UInt8} {p c N : Nat} (h : Stands l p (codeBits c N)) (h1 : first L N ≤ c) (h2 : c < first L N + cz L N) (hN : N ≤ 15) :
    ∀ (d n f : Nat), n + d = N → 0 < d → d ≤ f → sgnF L l f n (c / 2 ^ d) (p + n) = .ok (theSign L N (c - first L N), p + N) := by
  intro d
  induction d with
  | zero => intro n f _ h0; omega
  | succ d ih =>
    intro n f hn _ hf
    obtain ⟨f, rfl⟩ : ∃ g, f = g + 1 := ⟨f - 1, by omega⟩
    have hsh : sh L (n + 1) < total L := by
      have a1 := sh_mono L (show n + 1 ≤ N by omega)
      have a2 := sh_mono L (show N + 1 ≤ 16 by omega)
      rw [sh] at a2
      unfold total
      omega
    have hbit : 2 * (c / 2 ^ (d + 1)) + (bitL l (p + n)).toNat = c / 2 ^ d := by
      have hb := h.2 n (by rw [codeBits_length]; omega)
      unfold codeBits at hb
      rw [List.getElem?_map, List.getElem?_range (by omega)] at hb
      have hb' : bitL l (p + n) = c.testBit (N - 1 - n) := hb
      rw [hb', bit_toNat, show N - 1 - n = d by omega, Nat.pow_succ, ← Nat.div_div_eq_div_mul]
      omega
    have hle := h.1
    rw [codeBits_length] at hle
    rw [sgnF, if_pos hsh, if_pos (by omega), hbit]
    by_cases e : d = 0
    · subst e
      have e' : N = n + 1 := by omega
      rw [Nat.pow_zero, Nat.div_one, ← e', if_pos h2, e']
      rfl
    · have hg := first_grows L (n + 1) N (by omega)
      rw [show N - (n + 1) = d by omega] at hg
      have h3 : first L (n + 1) + cz L (n + 1) ≤ c / 2 ^ d := (Nat.le_div_iff_mul_le (Nat.two_pow_pos d)).2 (by rw [Nat.mul_comm]; omega)
      rw [if_neg (by omega)]
      exact ih (n + 1) f (by omega) (by omega) (by omega)
/-- A code of a sign is read as that sign. -/
theorem sgn_stands {L : List Nat} {l : List UInt8} {p c N : Nat} (h : Stands l p (codeBits c N)) (h1 : first L N ≤ c) (h2 : c < first L N + cz L N) (hN : N ≤ 15) (hc : c < 2 ^ N) (h0 : 0 < N) : sgn L l p = .ok (theSign L N (c - first L N), p + N) := by
  have := sgnF_stands h h1 h2 hN N 0 16 (by omega) h0 (by omega)
  rw [Nat.div_eq_of_lt hc] at this
  exact this
theorem fix_fin : ∀ s : Fin 288, first fixedL (fixC s.val).2 + (fixedL.take s.val).count (fixC s.val).2 = (fixC s.val).1 ∧ (fixC s.val).1 < 2 ^ (fixC s.val).2 := by decide +kernel
theorem far_fin : ∀ s : Fin 32, first fixedD 5 + (fixedD.take s.val).count 5 = s.val := by decide +kernel
theorem fixC_wide (s : Nat) : 7 ≤ (fixC s).2 ∧ (fixC s).2 ≤ 9 := by unfold fixC; split; simp; split; simp; split <;> simp
theorem sgn_fixed {l : List UInt8} {p s : Nat} (hs : s < 288) (h : Stands l p (signBits s)) : sgn fixedL l p = .ok (s, p + (fixC s).2) := by
  have hf := fix_fin ⟨s, hs⟩
  simp only at hf
  obtain ⟨e1, e2⟩ := hf
  have hget : fixedL[s]? = some (fixC s).2 := by unfold fixedL; rw [List.getElem?_map, List.getElem?_range hs]; rfl
  have hlt := count_lt fixedL hget
  have hN := fixC_wide s
  have hcz : cz fixedL (fixC s).2 = fixedL.count (fixC s).2 := by unfold cz; rw [if_neg (by omega)]
  have := sgn_stands (L := fixedL) h (by omega) (by rw [hcz]; omega) (by omega) e2 (by omega)
  rw [this, show (fixC s).1 - first fixedL (fixC s).2 = (fixedL.take s).count (fixC s).2 by omega, theSign_at fixedL hget]
theorem sgn_far {l : List UInt8} {p s : Nat} (hs : s < 32) (h : Stands l p (codeBits s 5)) : sgn fixedD l p = .ok (s, p + 5) := by
  have e1 := far_fin ⟨s, hs⟩
  simp only at e1
  have hget : fixedD[s]? = some 5 := by unfold fixedD; rw [List.getElem?_replicate, if_pos hs]
  have hlt := count_lt fixedD hget
  have hcz : cz fixedD 5 = fixedD.count 5 := by unfold cz; rw [if_neg (by omega)]
  have := sgn_stands (L := fixedD) h (by omega) (by rw [hcz]; omega) (by omega) (by omega) (by omega)
  rw [this, show s - first fixedD 5 = (fixedD.take s).count 5 by omega, theSign_at fixedD hget]
theorem more_gap : ∀ i : Fin 40, (moreN (i.val + 1) 2).1 = (moreN i.val 2).1 + 2 ^ (moreN i.val 2).2 ∧ (moreN (i.val + 1) 4).1 = (moreN i.val 4).1 + 2 ^ (moreN i.val 4).2 := by decide +kernel
theorem step_rest {x g : Nat} (hg : g = 2 ∨ g = 4) (hx : x < 1000) : (moreN (stepOf x g) g).1 ≤ x ∧ x - (moreN (stepOf x g) g).1 < 2 ^ (moreN (stepOf x g) g).2 := by
  obtain ⟨⟨h1, h2⟩, h3⟩ := stepOf_is hg hx
  have h4 := more_gap ⟨stepOf x g, by omega⟩
  simp only at h4
  rcases hg with rfl | rfl
  · rw [h4.1] at h2; exact ⟨h1, by omega⟩
  · rw [h4.2] at h2; exact ⟨h1, by omega⟩
theorem step_lt4 {x : Nat} (hx : x < 256) : stepOf x 4 < 28 := by
  obtain ⟨⟨h1, h2⟩, h3⟩ := stepOf_is (g := 4) (.inr rfl) (show x < 1000 by omega)
  rcases Nat.lt_or_ge (stepOf x 4) 28 with h | h
  · exact h
  · have := more_mono (g := 4) (.inr rfl) h (by omega)
    have e : (moreN 28 4).1 = 256 := by decide
    omega
theorem step_lt2 {x : Nat} (hx : x < 512) : stepOf x 2 < 18 := by
  obtain ⟨⟨h1, h2⟩, h3⟩ := stepOf_is (g := 2) (.inl rfl) (show x < 1000 by omega)
  rcases Nat.lt_or_ge (stepOf x 2) 18 with h | h
  · exact h
  · have := more_mono (g := 2) (.inl rfl) h (by omega)
    have e : (moreN 18 2).1 = 512 := by decide
    omega
theorem stepAt_stands {l : List UInt8} {p x g : Nat} (hg : g = 2 ∨ g = 4) (hx : x < 1000) (h : Stands l p (numBits (x - (moreN (stepOf x g) g).1) (moreN (stepOf x g) g).2)) : stepAt l (stepOf x g) g p = .ok (x, p + (moreN (stepOf x g) g).2) := by
  obtain ⟨h1, h2⟩ := step_rest hg hx
  unfold stepAt
  rw [rdNum_stands h h2]
  simp only
  congr 2
  omega
/-- A copy that was written is read. -/
theorem len_stands {l : List UInt8} {p k : Nat} (hk : 3 ≤ k) (hk2 : k ≤ 258) (h : Stands l p (lenBits k)) :
    ∃ s p1, 256 < s ∧ s ≤ 285 ∧ sgn fixedL l p = .ok (s, p1) ∧ p < p1 ∧ lenAt l s p1 = .ok (k, p + (lenBits k).length) := by
  by_cases e : k = 258
  · rw [lenBits, if_pos e] at h ⊢
    refine ⟨285, p + (fixC 285).2, by omega, by omega, sgn_fixed (by omega) h, by have := fixC_wide 285; omega, ?_⟩
    unfold lenAt
    rw [if_neg (by omega), codeBits_length, e]
  · rw [lenBits, if_neg e] at h ⊢
    have h1 := stands_left h
    have h2 := stands_right h
    rw [codeBits_length] at h2
    have hs := step_lt4 (show k - 3 < 256 by omega)
    have hw := fixC_wide (257 + stepOf (k - 3) 4)
    refine ⟨257 + stepOf (k - 3) 4, p + (fixC (257 + stepOf (k - 3) 4)).2, by omega, by omega, sgn_fixed (by omega) h1, by omega, ?_⟩
    unfold lenAt
    rw [if_pos (by omega), Nat.add_sub_cancel_left, stepAt_stands (.inr rfl) (by omega) h2]
    simp only
    rw [List.length_append, codeBits_length, numBits_length]
    congr 2
    · omega
    · omega
theorem copy_stands {l : List UInt8} {p k d : Nat} (most : Nat) {text : List UInt8} (hk : 3 ≤ k) (hk2 : k ≤ 258) (hd : 1 ≤ d) (hd2 : d ≤ 512) (hdt : d ≤ text.length) (h : Stands l p (lenBits k ++ farBits d)) :
    ∃ s p1, 256 < s ∧ sgn fixedL l p = .ok (s, p1) ∧ p < p1 ∧ p1 ≤ p + (lenBits k ++ farBits d).length ∧ copyOf fixedD l most s p1 text = if text.length + k ≤ most then .ok (p + (lenBits k ++ farBits d).length, copyL text d k) else .error 12 := by
  have h1 := stands_left h
  have h2 := stands_right h
  obtain ⟨s, p1, a1, a2, a3, a4, a5⟩ := len_stands hk hk2 h1
  have b1 := stands_left h2
  have b2 := stands_right h2
  rw [codeBits_length] at b2
  have hs := step_lt2 (show d - 1 < 512 by omega)
  have b3 := sgn_far (show stepOf (d - 1) 2 < 32 by omega) b1
  have b4 := stepAt_stands (x := d - 1) (.inl rfl) (by omega) b2
  have hp1 : p1 ≤ p + (lenBits k).length := by
    unfold lenAt at a5
    split at a5
    · unfold stepAt rdNum at a5
      split at a5
      · rename_i h9
        split at h9
        · rename_i h8
          simp only [Except.ok.injEq, Prod.mk.injEq] at a5
          split at h8
          · simp only [Except.ok.injEq, Prod.mk.injEq] at h8 h9
            omega
          · cases h8
        · cases h9
      · cases a5
    · simp only [Except.ok.injEq, Prod.mk.injEq] at a5
      omega
  refine ⟨s, p1, a1, a3, a4, by rw [List.length_append]; omega, ?_⟩
  have e9 : p + (lenBits k).length + 5 + (moreN (stepOf (d - 1) 2) 2).2 = p + (lenBits k ++ farBits d).length := by
    rw [List.length_append, farBits, List.length_append, codeBits_length, numBits_length]; omega
  have e8 : 1 + (d - 1) = d := by omega
  unfold copyOf
  rw [if_pos a2, a5]
  simp only
  rw [b3]
  simp only
  rw [if_pos (by omega), b4]
  simp only
  rw [e8, if_pos hdt, e9]
theorem copyL_take (T : List UInt8) : ∀ (k a d : Nat), 1 ≤ d → d ≤ a → a + k ≤ T.length → (∀ j, j < k → T[a + j]? = T[a + j - d]?) → copyL (T.take a) d k = T.take (a + k) := by
  intro k
  induction k with
  | zero => intro a d _ _ _ _; rfl
  | succ k ih =>
    intro a d h1 h2 h3 h4
    have hl : (T.take a).length = a := by rw [List.length_take]; omega
    have e0 := h4 0 (by omega)
    rw [Nat.add_zero] at e0
    have e1 : (T.take a)[a - d]? = T[a]? := by rw [List.getElem?_take_of_lt (by omega), e0]
    have e2 : T.take a ++ [(T[a]?).getD 0] = T.take (a + 1) := by
      rw [List.take_add_one, List.getElem?_eq_getElem (show a < T.length by omega)]
      rfl
    rw [copyL, hl, e1, e2, ih (a + 1) d h1 (by omega) (by omega) (fun j hj => by have := h4 (j + 1) (by omega); rw [show a + (j + 1) = a + 1 + j by omega] at this; exact this)]
    congr 1
    omega
theorem signs_defl (s : ByteArray) (l : List UInt8) (most : Nat) : ∀ (m a f p : Nat), s.size - a ≤ m → a ≤ s.size → a ≤ most → 8 * l.length + 1 ≤ f + p → Stands l p (deflB (byte s) s.size a) →
    signsF fixedL fixedD l most f p (s.data.toList.take a) = if s.size ≤ most then .ok (p + (deflB (byte s) s.size a).length, s.data.toList) else .error 12 := by
  intro m
  induction m with
  | zero =>
    intro a f p h1 h2 h3 h4 h5
    obtain rfl : a = s.size := by omega
    have eD : deflB (byte s) s.size s.size = signBits 256 := by rw [deflB_unfold, if_neg (by omega)]
    rw [eD] at h5 ⊢
    have hst := h5.1
    obtain ⟨f, rfl⟩ : ∃ g, f = g + 1 := ⟨f - 1, by omega⟩
    rw [if_pos h3, signsF, sgn_fixed (by omega) h5]
    simp only
    rw [if_neg (by omega), if_pos trivial, signBits, codeBits_length, List.take_of_length_le (by rw [len_eq]; omega)]
  | succ m ih =>
    intro a f p h1 h2 h3 h4 h5
    by_cases ha : a < s.size
    · have eD := deflB_unfold (byte s) s.size a
      rw [if_pos ha] at eD
      rw [eD] at h5 ⊢
      have hst := h5.1
      obtain ⟨f, rfl⟩ : ∃ g, f = g + 1 := ⟨f - 1, by omega⟩
      have hl : (s.data.toList.take a).length = a := by rw [List.length_take, len_eq]; omega
      by_cases hc : (copyAt (byte s) s.size a).1 < 3
      · rw [if_pos hc] at h5 hst eD
        have eD2 := eD
        rw [if_pos hc]
        have hb := byte_lt s a
        have hw := fixC_wide (byte s a)
        have h7 := stands_right h5
        rw [signBits, codeBits_length] at h7
        rw [signsF, sgn_fixed (by omega) (stands_left h5)]
        simp only
        rw [if_pos hb, hl]
        by_cases hm : a + 1 ≤ most
        · have e2 : s.data.toList.take a ++ [UInt8.ofNat (byte s a)] = s.data.toList.take (a + 1) := by
            rw [List.take_add_one, list_at s a ha, byte_eq s a ha]
            simp
          rw [if_pos hm, e2, ih (a + 1) f _ (by omega) (by omega) hm (by omega) h7, List.length_append, signBits, codeBits_length, Nat.add_assoc]
        · rw [if_neg hm, if_neg (show ¬ s.size ≤ most by omega)]
      · rw [if_neg hc] at h5 hst
        rw [if_neg hc]
        clear eD
        obtain ⟨c1, c2, c3, c4, c5⟩ := copyAt_le (byte s) s.size a
        have hag : ∀ j, j < (copyAt (byte s) s.size a).1 → s.data.toList[a + j]? = s.data.toList[a + j - (copyAt (byte s) s.size a).2]? := by
          intro j hj
          obtain ⟨b1, b2, b3⟩ := best_le (byte s) a (min 258 (s.size - a)) (min 512 a)
          have b4 := b3 (by unfold copyAt at hj; omega)
          have := ml_agree (byte s) a (copyAt (byte s) s.size a).2 (min 258 (s.size - a)) j (by unfold copyAt at hj ⊢; rw [b4.2]; exact hj)
          have hd0 := c5 (by omega)
          rw [byte_eq s _ (by omega), byte_eq s _ (by omega)] at this
          rw [list_at s _ (by omega), list_at s _ (by omega)]
          exact congrArg some (UInt8.toNat_inj.1 this)
        generalize (copyAt (byte s) s.size a).1 = k at *
        generalize (copyAt (byte s) s.size a).2 = d at *
        have hd0 := c5 (by omega)
        obtain ⟨sg, p1, a1, a2, a3, a4, a5⟩ := copy_stands most (text := s.data.toList.take a) (show 3 ≤ k by omega) c1 (show 1 ≤ d by omega) c3 (by rw [hl]; exact c4) (stands_left h5)
        have h7 := stands_right h5
        rw [signsF, a2]
        simp only
        rw [if_neg (by omega), if_neg (by omega), a5, hl]
        by_cases hm : a + k ≤ most
        · rw [if_pos hm]
          simp only
          rw [copyL_take _ k a d (by omega) c4 (by rw [len_eq]; omega) hag, ih (a + k) f _ (by omega) (by omega) hm (by omega) h7]
          simp only [List.length_append, Nat.add_assoc]
        · rw [if_neg hm, if_neg (show ¬ s.size ≤ most by omega)]
    · exact ih a f p (by omega) h2 h3 h4 h5
theorem defl_block (O : Nat → List UInt8 → Except Nat (Nat × List UInt8)) (s : ByteArray) (l : List UInt8) (most : Nat) (h : Stands l 0 ([true, true, false] ++ deflB (byte s) s.size 0)) :
    blockL O l most 0 [] = if s.size ≤ most then .ok (true, ([true, true, false] ++ deflB (byte s) s.size 0).length, s.data.toList) else .error 12 := by
  have h1 : Stands l 0 (numBits 1 1) := stands_left (b := [true, false] ++ deflB (byte s) s.size 0) h
  have h23 : Stands l 1 ([true, false] ++ deflB (byte s) s.size 0) := stands_right (a := [true]) (p := 0) h
  have h2 : Stands l 1 (numBits 1 2) := stands_left h23
  have h3 : Stands l 3 (deflB (byte s) s.size 0) := stands_right h23
  have hs := signs_defl s l most s.size 0 (8 * l.length + 1 - 3) 3 (by omega) (by omega) (by omega) (by omega) h3
  rw [List.take_zero] at hs
  unfold blockL
  rw [rdNum_stands h1 (by omega)]
  simp only
  rw [rdNum_stands h2 (by omega)]
  simp only [Nat.reduceAdd, Nat.succ_ne_zero, if_true, if_false, signsL]
  rw [hs]
  by_cases hm : s.size ≤ most
  · rw [if_pos hm, if_pos hm]
    simp only [beq_self_eq_true]
    rw [List.length_append]
    rfl
  · rw [if_neg hm, if_neg hm]
/-- A deflated text, inflated. -/
theorem defl_infl (O : Nat → List UInt8 → Except Nat (Nat × List UInt8)) (s : ByteArray) (tail : List UInt8) (most : Nat) :
    inflL O (pack ([true, true, false] ++ deflB (byte s) s.size 0) ++ tail) most = if s.size ≤ most then .ok (([true, true, false] ++ deflB (byte s) s.size 0).length, s.data.toList) else .error 12 := by
  unfold inflL
  rw [blocksF, defl_block O s _ most (stands_pack _ tail)]
  by_cases hm : s.size ≤ most
  · rw [if_pos hm, if_pos hm]
    simp only [if_true]
  · rw [if_neg hm, if_neg hm]
end Go.Proofs.Ytbhnlomppobbkaa.Ch
