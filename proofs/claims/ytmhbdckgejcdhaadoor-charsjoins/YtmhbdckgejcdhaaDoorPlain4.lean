/-
  PLAIN FACTS ON TEXTS PUT TOGETHER AND CUT: where the first bad byte is.
-/
import Derived.Test.YtmhbdckgejcdhaaDoorPlain3
namespace Go.Proofs.YtmhbdckgejcdhaaDoor.Ch

theorem fit_snd {least c n : Nat} : (fit least c n).2 = 0 ∨ (fit least c n).2 = n := by
  unfold fit; split <;> simp

/-- Only the bytes that a code point has matter. -/
theorem oneN_same {b0 b1 b2 b3 b1' b2' b3' : Nat} {h1 h2 h3 h1' h2' h3' : Bool} {n : Nat} (hn : (oneN b0 b1 b2 b3 h1 h2 h3).2 = n) (h0 : n ≠ 0)
    (k1 : 2 ≤ n → h1' = true ∧ b1' = b1) (k2 : 3 ≤ n → h2' = true ∧ b2' = b2) (k3 : 4 ≤ n → h3' = true ∧ b3' = b3) : oneN b0 b1' b2' b3' h1' h2' h3' = oneN b0 b1 b2 b3 h1 h2 h3 := by
  unfold oneN at hn ⊢
  by_cases a : b0 < 128
  · rw [if_pos a, if_pos a]
  rw [if_neg a] at hn
  rw [if_neg a, if_neg a]
  by_cases a2 : 192 ≤ b0 ∧ b0 < 224
  · rw [if_pos a2] at hn
    rw [if_pos a2, if_pos a2]
    by_cases c : h1 = true ∧ (128 ≤ b1 ∧ b1 ≤ 191)
    · rw [if_pos c] at hn
      have e : n = 2 := by rcases fit_snd (least := 128) (c := (b0 - 192) * 64 + b1 - 128) (n := 2) with e | e <;> omega
      obtain ⟨rfl, rfl⟩ := k1 (by omega)
      rw [if_pos c, if_pos ⟨rfl, c.2⟩]
    · rw [if_neg c] at hn; exact absurd hn.symm h0
  rw [if_neg a2] at hn
  rw [if_neg a2, if_neg a2]
  by_cases a3 : 224 ≤ b0 ∧ b0 < 240
  · rw [if_pos a3] at hn
    rw [if_pos a3, if_pos a3]
    by_cases c : h2 = true ∧ (128 ≤ b1 ∧ b1 ≤ 191) ∧ (128 ≤ b2 ∧ b2 ≤ 191)
    · rw [if_pos c] at hn
      have e : n = 3 := by rcases fit_snd (least := 2048) (c := ((b0 - 224) * 64 + b1 - 128) * 64 + b2 - 128) (n := 3) with e | e <;> omega
      obtain ⟨_, rfl⟩ := k1 (by omega)
      obtain ⟨rfl, rfl⟩ := k2 (by omega)
      rw [if_pos c, if_pos ⟨rfl, c.2⟩]
    · rw [if_neg c] at hn; exact absurd hn.symm h0
  rw [if_neg a3] at hn
  rw [if_neg a3, if_neg a3]
  by_cases a4 : 240 ≤ b0 ∧ b0 < 248
  · rw [if_pos a4] at hn
    rw [if_pos a4, if_pos a4]
    by_cases c : h3 = true ∧ (128 ≤ b1 ∧ b1 ≤ 191) ∧ (128 ≤ b2 ∧ b2 ≤ 191) ∧ (128 ≤ b3 ∧ b3 ≤ 191)
    · rw [if_pos c] at hn
      have e : n = 4 := by rcases fit_snd (least := 65536) (c := (((b0 - 240) * 64 + b1 - 128) * 64 + b2 - 128) * 64 + b3 - 128) (n := 4) with e | e <;> omega
      obtain ⟨_, rfl⟩ := k1 (by omega)
      obtain ⟨_, rfl⟩ := k2 (by omega)
      obtain ⟨rfl, rfl⟩ := k3 (by omega)
      rw [if_pos c, if_pos ⟨rfl, c.2⟩]
    · rw [if_neg c] at hn; exact absurd hn.symm h0
  · rw [if_neg a4] at hn; exact absurd hn.symm h0

/-- Two texts that agree where the code point lies. -/
theorem one_same {s u : ByteArray} {p : Nat} (h0 : (one s p).2 ≠ 0) (hu : p + (one s p).2 ≤ u.size) (hb : ∀ i, i < (one s p).2 → byte u (p + i) = byte s (p + i)) : one u p = one s p := by
  have e0 := hb 0 (by omega)
  rw [Nat.add_zero] at e0
  obtain ⟨n, hn⟩ : ∃ n, (one s p).2 = n := ⟨_, rfl⟩
  rw [hn] at h0 hu hb
  unfold one at hn ⊢
  rw [e0]
  exact oneN_same hn h0 (fun h => ⟨decide_eq_true (by omega), hb 1 (by omega)⟩) (fun h => ⟨decide_eq_true (by omega), hb 2 (by omega)⟩) (fun h => ⟨decide_eq_true (by omega), hb 3 (by omega)⟩)

theorem badFrom_fuel (s : ByteArray) : ∀ (f g p : Nat), s.size ≤ p + f → s.size ≤ p + g → badFrom s f p = badFrom s g p
  | 0, g, p, hf, _ => by rw [badFrom_end (f := g) (by omega)]; rfl
  | f + 1, 0, p, _, hg => by rw [badFrom_end (f := f + 1) (by omega)]; rfl
  | f + 1, g + 1, p, hf, hg => by
    by_cases hp : p < s.size
    · by_cases h : (one s p).2 = 0 ∨ charB (one s p).1 = false
      · rw [badFrom_stop hp h, badFrom_stop hp h]
      · have h1 : (one s p).2 ≠ 0 := fun e => h (.inl e)
        have h2 : charB (one s p).1 = true := by
          cases hc : charB (one s p).1
          · exact absurd (.inr hc) h
          · rfl
        rw [badFrom_step hp h1 h2, badFrom_step hp h1 h2]
        exact badFrom_fuel s f g _ (by omega) (by omega)
    · rw [badFrom_end hp, badFrom_end hp]

/-- The two ways of a step. -/
theorem badFrom_cases (s : ByteArray) (f p : Nat) (hp : p < s.size) :
    (badFrom s (f + 1) p = p) ∨ ((one s p).2 ≠ 0 ∧ charB (one s p).1 = true ∧ badFrom s (f + 1) p = badFrom s f (p + (one s p).2)) := by
  by_cases h : (one s p).2 = 0 ∨ charB (one s p).1 = false
  · exact .inl (badFrom_stop hp h)
  · have h1 : (one s p).2 ≠ 0 := fun e => h (.inl e)
    have h2 : charB (one s p).1 = true := by
      cases hc : charB (one s p).1
      · exact absurd (.inr hc) h
      · rfl
    exact .inr ⟨h1, h2, badFrom_step hp h1 h2⟩

theorem badFrom_lt (s : ByteArray) : ∀ (f p : Nat), badFrom s f p = -1 ∨ ∃ x : Nat, badFrom s f p = x ∧ p ≤ x ∧ x < s.size
  | 0, _ => .inl rfl
  | f + 1, p => by
    by_cases hp : p < s.size
    · rcases badFrom_cases s f p hp with h | ⟨_, _, h⟩
      · exact .inr ⟨p, h, Nat.le_refl _, hp⟩
      · rw [h]
        rcases badFrom_lt s f (p + (one s p).2) with h | ⟨x, h1, h2, h3⟩
        · exact .inl h
        · exact .inr ⟨x, h1, by omega, h3⟩
    · exact .inl (badFrom_end hp)
theorem bad_lt (s : ByteArray) : bad s = -1 ∨ ∃ x : Nat, bad s = x ∧ x < s.size := by
  rcases badFrom_lt s s.size 0 with h | ⟨x, h, _, hx⟩
  · exact .inl h
  · exact .inr ⟨x, h, hx⟩

/-- What is cut ahead of the first bad byte has none. -/
theorem bad_ahead (s v : ByteArray) (hv : ∀ i, i < v.size → byte v i = byte s i) : ∀ (f p : Nat), badFrom s f p = v.size → p ≤ v.size → ∀ g, v.size ≤ p + g → badFrom v g p = -1
  | 0, p, h, _, _, _ => by have h : (-1 : Int) = v.size := h; omega
  | f + 1, p, h, hp, g, hg => by
    by_cases hps : p < s.size
    · rcases badFrom_cases s f p hps with h' | ⟨h1, h2, h'⟩
      · rw [h'] at h
        exact badFrom_end (by omega)
      · rw [h'] at h
        have hle : p + (one s p).2 ≤ v.size := by
          rcases badFrom_lt s f (p + (one s p).2) with e | ⟨x, e, e2, _⟩ <;> omega
        have e := one_same (u := v) h1 hle (fun i hi => hv _ (by omega))
        obtain ⟨g', rfl⟩ : ∃ g', g = g' + 1 := ⟨g - 1, by omega⟩
        rw [badFrom_step (by omega) (by rw [e]; exact h1) (by rw [e]; exact h2), e]
        exact bad_ahead s v hv f _ h hle g' (by omega)
    · rw [badFrom_end hps] at h; omega

/-- A text without a bad byte, cut anywhere: the cut has none, or one less than four bytes ahead of its end. -/
theorem bad_cut (s v : ByteArray) (hle : v.size ≤ s.size) (hv : ∀ i, i < v.size → byte v i = byte s i) : ∀ (f p : Nat), badFrom s f p = -1 → s.size ≤ p + f → ∀ g, v.size ≤ p + g → badFrom v g p = -1 ∨ (v.size : Int) - badFrom v g p < 4
  | 0, p, _, hf, g, _ => .inl (badFrom_end (by omega))
  | f' + 1, p, h, hf, g, hg => by
    by_cases hp : p < v.size
    · obtain ⟨g', rfl⟩ : ∃ g', g = g' + 1 := ⟨g - 1, by omega⟩
      have hps : p < s.size := by omega
      rcases badFrom_cases s f' p hps with h' | ⟨h1, h2, h'⟩
      · rw [h'] at h; omega
      · rw [h'] at h
        have h4 := (one_le s p hps).2
        by_cases hn : p + (one s p).2 ≤ v.size
        · have e := one_same (u := v) h1 hn (fun i hi => hv _ (by omega))
          rw [badFrom_step hp (by rw [e]; exact h1) (by rw [e]; exact h2), e]
          exact bad_cut s v hle hv f' _ h (by omega) g' (by omega)
        · right
          have hz : (one v p).2 = 0 := by
            rcases Nat.eq_zero_or_pos (one v p).2 with z | z
            · exact z
            · have hw := (one_le v p hp).1
              have e := one_same (s := v) (u := s) (p := p) (by omega) (by omega) (fun i hi => (hv _ (by omega)).symm)
              rw [e] at hn
              omega
          rw [badFrom_stop hp (.inl hz)]
          omega
    · exact .inl (badFrom_end hp)

/-- Two texts put together. -/
def cat (s t : ByteArray) : ByteArray := ⟨(s.data.toList ++ t.data.toList).toArray⟩
theorem cat_size (s t : ByteArray) : (cat s t).size = s.size + t.size := by
  rw [← len_eq]; simp [cat]
theorem byte_default (s : ByteArray) (i : Nat) (h : s.size ≤ i) : byte s i = 0 := by
  unfold byte ByteArray.get!
  have h' : s.data.size ≤ i := h
  simp only [Array.getElem!_eq_getD, Array.getD]
  rw [dif_neg (by omega)]
  rfl
theorem byte_list (s : ByteArray) (i : Nat) : byte s i = ((s.data.toList[i]?).getD 0).toNat := by
  rcases Nat.lt_or_ge i s.size with h | h
  · rw [byte_eq s i h, list_at s i h]; rfl
  · rw [byte_default s i h, list_none s i h]; rfl
theorem cat_left (s t : ByteArray) (i : Nat) (h : i < s.size) : byte (cat s t) i = byte s i := by
  rw [byte_list, byte_list]
  show (((s.data.toList ++ t.data.toList)[i]?).getD 0).toNat = _
  rw [List.getElem?_append_left (by rw [len_eq]; exact h)]
theorem cat_right (s t : ByteArray) (i : Nat) : byte (cat s t) (s.size + i) = byte t i := by
  rw [byte_list, byte_list]
  show (((s.data.toList ++ t.data.toList)[s.size + i]?).getD 0).toNat = _
  rw [List.getElem?_append_right (by rw [len_eq]; omega), len_eq, Nat.add_sub_cancel_left]
theorem one_right (s t : ByteArray) (p : Nat) : one (cat s t) (s.size + p) = one t p := by
  unfold one
  rw [Nat.add_assoc, Nat.add_assoc, Nat.add_assoc, cat_right, cat_right, cat_right, cat_right, cat_size]
  congr 1 <;> apply decide_eq_decide.2 <;> omega

theorem bad_right (s t : ByteArray) : ∀ (f p : Nat), badFrom (cat s t) f (s.size + p) = if badFrom t f p = -1 then -1 else s.size + badFrom t f p
  | 0, _ => rfl
  | f + 1, p => by
    by_cases hp : p < t.size
    · have hp' : s.size + p < (cat s t).size := by rw [cat_size]; omega
      by_cases h : (one t p).2 = 0 ∨ charB (one t p).1 = false
      · rw [badFrom_stop hp h, badFrom_stop hp' (by rw [one_right]; exact h), if_neg (by omega)]
        omega
      · have h1 : (one t p).2 ≠ 0 := fun e => h (.inl e)
        have h2 : charB (one t p).1 = true := by
          cases hc : charB (one t p).1
          · exact absurd (.inr hc) h
          · rfl
        rw [badFrom_step hp h1 h2, badFrom_step hp' (by rw [one_right]; exact h1) (by rw [one_right]; exact h2), one_right, Nat.add_assoc]
        exact bad_right s t f _
    · rw [badFrom_end hp, badFrom_end (by rw [cat_size]; omega), if_pos rfl]

theorem bad_left (s t : ByteArray) : ∀ (f p : Nat), badFrom s f p = -1 → p ≤ s.size → s.size ≤ p + f → ∀ g h, (cat s t).size ≤ p + g → (cat s t).size ≤ s.size + h → badFrom (cat s t) g p = badFrom (cat s t) h s.size
  | 0, p, _, hp, hf, g, h, hg, hh => by
    obtain rfl : p = s.size := by omega
    exact badFrom_fuel _ _ _ _ hg hh
  | f' + 1, p, hb, hp, hf, g, h, hg, hh => by
    by_cases hps : p < s.size
    · have hz := cat_size s t
      obtain ⟨g', rfl⟩ : ∃ g', g = g' + 1 := ⟨g - 1, by omega⟩
      rcases badFrom_cases s f' p hps with h' | ⟨h1, h2, h'⟩
      · rw [h'] at hb; omega
      · rw [h'] at hb
        have hw := (one_le s p hps).1
        have e := one_same (u := cat s t) h1 (by omega) (fun i hi => cat_left s t _ (by omega))
        rw [badFrom_step (by omega) (by rw [e]; exact h1) (by rw [e]; exact h2), e]
        exact bad_left s t f' _ hb hw (by omega) g' h (by omega) hh
    · obtain rfl : p = s.size := by omega
      exact badFrom_fuel _ _ _ _ hg hh

theorem bad_cat {s : ByteArray} (t : ByteArray) (h : bad s = -1) : bad (cat s t) = if bad t = -1 then -1 else s.size + bad t := by
  have hz := cat_size s t
  have e1 := bad_left s t s.size 0 h (Nat.zero_le _) (by omega) (cat s t).size t.size (by omega) (by omega)
  have e2 := bad_right s t t.size 0
  unfold bad
  rw [e1, ← Nat.add_zero s.size, e2]
  rfl
end Go.Proofs.YtmhbdckgejcdhaaDoor.Ch
