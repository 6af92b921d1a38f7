/-
  What is written is read as it was: moments' texts. No program is named here.
-/
import Derived.Test.YtbepjlhknmhmeaaDoorMText
namespace Go.Proofs.YtbepjlhknmhmeaaDoor

theorem digit_toNat (n : Nat) : (UInt8.ofNat (48 + n % 10)).toNat = 48 + n % 10 := by
  rw [UInt8.toNat_ofNat']
  omega
theorem padL_dig : ∀ k n, ∀ c ∈ padL k n, isDig c = true
  | 0, _, c, h => by simp [padL] at h
  | k + 1, n, c, h => by
    rw [padL, List.mem_append] at h
    rcases h with h | h
    · exact padL_dig k _ c h
    · obtain rfl := List.mem_singleton.mp h
      unfold isDig
      rw [digit_toNat]
      simp
      omega
theorem valL_snoc8 (l : List UInt8) (c : UInt8) : valL (l ++ [c]) = 10 * valL l + (c.toNat - 48) := by
  unfold valL
  rw [List.foldl_append]
  rfl
theorem valL_pad : ∀ (k n : Nat), n < 10 ^ k → valL (padL k n) = n
  | 0, n, h => by
    have : n = 0 := by simpa using h
    rw [this]
    rfl
  | k + 1, n, h => by
    rw [padL, valL_snoc8, digit_toNat, valL_pad k (n / 10) (by rw [Nat.pow_succ] at h; omega)]
    omega
theorem padL_inj {k a b : Nat} (ha : a < 10 ^ k) (hb : b < 10 ^ k) (e : padL k a = padL k b) : a = b := by
  rw [← valL_pad k a ha, ← valL_pad k b hb, e]
theorem stop_rest {r : List UInt8} (hr : r.takeWhile isDig = []) : r.dropWhile isDig = r := by
  have := List.takeWhile_append_dropWhile (p := isDig) (l := r)
  rw [hr] at this
  exact this
theorem digs_take {l r : List UInt8} (hl : ∀ c ∈ l, isDig c = true) (hr : r.takeWhile isDig = []) : (l ++ r).takeWhile isDig = l := by
  rw [List.takeWhile_append_of_pos hl, hr, List.append_nil]
theorem digs_drop {l r : List UInt8} (hl : ∀ c ∈ l, isDig c = true) (hr : r.takeWhile isDig = []) : (l ++ r).dropWhile isDig = r := by
  rw [List.dropWhile_append_of_pos hl, stop_rest hr]
theorem numM_pad {k n : Nat} {r : List UInt8} (h : n < 10 ^ k) (hr : r.takeWhile isDig = []) : numM k (padL k n ++ r) = some (n, r) := by
  unfold numM
  rw [digs_take (padL_dig k n) hr, digs_drop (padL_dig k n) hr, if_pos (padL_length k n), valL_pad k n h]
theorem signM_here (c : UInt8) (t : List UInt8) : signM c (c :: t) = some t := if_pos rfl
theorem stop_45 (r : List UInt8) : (45 :: r).takeWhile isDig = [] := rfl
theorem stop_58 (r : List UInt8) : (58 :: r).takeWhile isDig = [] := rfl
theorem stop_84 (r : List UInt8) : (84 :: r).takeWhile isDig = [] := rfl
theorem stop_46 (r : List UInt8) : (46 :: r).takeWhile isDig = [] := rfl
theorem dateM_text {y m d : Nat} {r : List UInt8} (h : IsDay y m d) (hr : r.takeWhile isDig = []) : dateM (padL 4 y ++ 45 :: (padL 2 m ++ 45 :: (padL 2 d ++ r))) = some (dayN y m d, r) := by
  have h' := h
  obtain ⟨⟨h1, h2⟩, ⟨h3, h4⟩, h5, h6⟩ := h'
  have h7 := lenM_bounds y m
  unfold dateM
  rw [numM_pad (by omega) (stop_45 _)]
  simp only [Option.bind_some, signM_here]
  rw [numM_pad (by omega) (stop_45 _)]
  simp only [Option.bind_some, signM_here]
  rw [numM_pad (by omega) hr]
  simp only [Option.bind_some]
  exact if_pos h
/-- What may stand behind a clock. -/
def Zn (z : List UInt8) : Prop := z.takeWhile isDig = [] ∧ ∀ t, z ≠ 46 :: t
theorem fracM_none {z : List UInt8} (h : Zn z) : fracM z = some ([], z) := by
  unfold fracM
  split
  · next t => exact absurd rfl (h.2 t)
  · rfl
theorem fracM_some {l z : List UInt8} (hl : ∀ c ∈ l, isDig c = true) (h1 : 1 ≤ l.length) (h9 : l.length ≤ 9) (h : Zn z) : fracM (46 :: (l ++ z)) = some (l, z) := by
  show (if 1 ≤ ((l ++ z).takeWhile isDig).length ∧ ((l ++ z).takeWhile isDig).length ≤ 9 then some ((l ++ z).takeWhile isDig, (l ++ z).dropWhile isDig) else none) = _
  rw [digs_take hl h.1, digs_drop hl h.1, if_pos ⟨h1, h9⟩]
theorem thous_pad (x : Nat) (g : List UInt8) (h : x < 1000) : thousM (padL 3 x ++ g) = x := by
  unfold thousM
  rw [List.append_assoc, List.take_append_of_le_length (by rw [padL_length]; exact Nat.le_refl _), List.take_of_length_le (by rw [padL_length]; exact Nat.le_refl _)]
  exact valL_pad 3 x h
/-- A clock's text is read, more digits behind its fraction or none. -/
theorem clockM_text {t : Nat} {g z : List UInt8} (ht : t < 86400000) (hz : Zn z) (hg : ∀ c ∈ g, isDig c = true) (h6 : g.length ≤ 6) (hf : g = [] ∨ t % 1000 ≠ 0) : clockM (clockL t ++ (g ++ z)) = some (t, z) := by
  have hfr : ∃ f, fracM ((if t % 1000 = 0 then [] else 46 :: padL 3 (t % 1000)) ++ (g ++ z)) = some (f, z) ∧ thousM f = t % 1000 ∧ (((if t % 1000 = 0 then [] else 46 :: padL 3 (t % 1000)) ++ (g ++ z)).takeWhile isDig = []) := by
    by_cases h0 : t % 1000 = 0
    · rcases hf with rfl | hf
      · refine ⟨[], ?_, ?_, ?_⟩
        · rw [if_pos h0]
          exact fracM_none hz
        · rw [h0]
          rfl
        · rw [if_pos h0]
          exact hz.1
      · exact absurd h0 hf
    · refine ⟨padL 3 (t % 1000) ++ g, ?_, thous_pad _ _ (by omega), ?_⟩
      · rw [if_neg h0, List.cons_append, ← List.append_assoc]
        refine fracM_some ?_ ?_ ?_ hz
        · intro c hc
          rcases List.mem_append.1 hc with hc | hc
          · exact padL_dig _ _ c hc
          · exact hg c hc
        · rw [List.length_append, padL_length]; omega
        · rw [List.length_append, padL_length]; omega
      · rw [if_neg h0]
        rfl
  obtain ⟨f, f1, f2, f3⟩ := hfr
  unfold clockM clockL
  simp only [List.append_assoc, List.cons_append]
  rw [numM_pad (by omega) (stop_58 _)]
  simp only [Option.bind_some, signM_here]
  rw [numM_pad (by omega) (stop_58 _)]
  simp only [Option.bind_some, signM_here]
  rw [numM_pad (by omega) f3]
  simp only [Option.bind_some]
  rw [f1]
  simp only [Option.bind_some]
  rw [if_pos ⟨by omega, by omega, .inl (by omega)⟩, f2]
  congr 2
  omega
def offL (k : Nat) : List UInt8 := padL 2 (k / 60) ++ 58 :: padL 2 (k % 60)
theorem offM_text {k : Nat} (h : k ≤ 840) : offM (offL k) = some (60000 * k, []) := by
  have e : padL 2 (k % 60) = padL 2 (k % 60) ++ [] := (List.append_nil _).symm
  unfold offM offL
  rw [numM_pad (by omega) (stop_58 _)]
  simp only [Option.bind_some, signM_here]
  rw [e, numM_pad (by omega) rfl]
  simp only [Option.bind_some]
  rw [if_pos ⟨by omega, by omega⟩]
  congr 2
  omega
theorem zoneM_z : zoneM [90] = some (0, []) := rfl
theorem zoneM_less {k : Nat} (h : k ≤ 840) : zoneM (45 :: offL k) = some (-((60000 * k : Nat) : Int), []) := by
  show ((offM (offL k)).bind fun a => some (-(a.1 : Int), a.2)) = _
  rw [offM_text h]
  rfl
theorem zoneM_more {k : Nat} (h : k ≤ 840) : zoneM (43 :: offL k) = some (((60000 * k : Nat) : Int), []) := by
  show ((signM 43 (43 :: offL k)).bind fun t => (offM t).bind fun a => some ((a.1 : Int), a.2)) = _
  rw [signM_here, Option.bind_some, offM_text h]
  rfl
theorem zn_z : Zn [90] := ⟨rfl, fun t h => by simp at h⟩
theorem zn_less (r : List UInt8) : Zn (45 :: r) := ⟨rfl, fun t h => by simp at h⟩
theorem zn_more (r : List UInt8) : Zn (43 :: r) := ⟨rfl, fun t h => by simp at h⟩
/-- A moment's text with whatever zone, and more digits or none. -/
def textZ (y m d t : Nat) (z : List UInt8) : List UInt8 := padL 4 y ++ 45 :: (padL 2 m ++ 45 :: (padL 2 d ++ 84 :: (clockL t ++ z)))
theorem parse_text {y m d t : Nat} {g z : List UInt8} {o : Int} (h : IsDay y m d) (ht : t < 86400000) (hz : Zn z) (ho : zoneM z = some (o, [])) (hg : ∀ c ∈ g, isDig c = true) (h6 : g.length ≤ 6) (hf : g = [] ∨ t % 1000 ≠ 0) :
    parseM (textZ y m d t (g ++ z)) = some (((dayN y m d : Int) - 719162) * 86400000 + (t : Int) - o) := by
  unfold parseM textZ
  rw [dateM_text h (stop_84 _)]
  simp only [Option.bind_some, signM_here]
  rw [clockM_text ht hz hg h6 hf]
  simp only [Option.bind_some]
  rw [ho]
  simp only [Option.bind_some, if_true]
theorem textL_is (y m d t : Nat) : textL y m d t = textZ y m d t ([] ++ [90]) := rfl
theorem parse_textL {y m d t : Nat} (h : IsDay y m d) (ht : t < 86400000) : parseM (textL y m d t) = some (((dayN y m d : Int) - 719162) * 86400000 + (t : Int)) := by
  rw [textL_is, parse_text h ht zn_z zoneM_z (by simp) (by simp) (.inl rfl)]
  simp
/-- The bytes of a text. -/
theorem clockL_mem {t : Nat} {c : UInt8} (h : c ∈ clockL t) : isDig c = true ∨ c = 58 ∨ c = 46 := by
  unfold clockL at h
  simp only [List.mem_append, List.mem_cons] at h
  rcases h with h | h | h | h | h | h
  · exact .inl (padL_dig _ _ c h)
  · exact .inr (.inl h)
  · exact .inl (padL_dig _ _ c h)
  · exact .inr (.inl h)
  · exact .inl (padL_dig _ _ c h)
  · split at h
    · simp at h
    · rcases List.mem_cons.1 h with h | h
      · exact .inr (.inr h)
      · exact .inl (padL_dig _ _ c h)
theorem textZ_mem {y m d t : Nat} {z : List UInt8} {c : UInt8} (h : c ∈ textZ y m d t z) : isDig c = true ∨ c = 58 ∨ c = 46 ∨ c = 45 ∨ c = 84 ∨ c ∈ z := by
  unfold textZ at h
  simp only [List.mem_append, List.mem_cons] at h
  rcases h with h | h | h | h | h | h | h | h
  · exact .inl (padL_dig _ _ c h)
  · exact .inr (.inr (.inr (.inl h)))
  · exact .inl (padL_dig _ _ c h)
  · exact .inr (.inr (.inr (.inl h)))
  · exact .inl (padL_dig _ _ c h)
  · exact .inr (.inr (.inr (.inr (.inl h))))
  · rcases clockL_mem h with h | h | h
    · exact .inl h
    · exact .inr (.inl h)
    · exact .inr (.inr (.inl h))
  · exact .inr (.inr (.inr (.inr (.inr h))))
theorem offL_mem {k : Nat} {c : UInt8} (h : c ∈ offL k) : isDig c = true ∨ c = 58 := by
  unfold offL at h
  simp only [List.mem_append, List.mem_cons] at h
  rcases h with h | h | h
  · exact .inl (padL_dig _ _ c h)
  · exact .inr h
  · exact .inl (padL_dig _ _ c h)
theorem clockL_length (t : Nat) : (clockL t).length = if t % 1000 = 0 then 8 else 12 := by
  unfold clockL
  simp only [List.length_append, List.length_cons, padL_length]
  split
  · rfl
  · simp [padL_length]
theorem textZ_length (y m d t : Nat) (z : List UInt8) : (textZ y m d t z).length = (if t % 1000 = 0 then 19 else 23) + z.length := by
  unfold textZ
  simp only [List.length_append, List.length_cons, padL_length, clockL_length]
  split <;> omega
/-! The order of texts. -/
theorem lt_append : ∀ {x y u v : List UInt8}, x.length = y.length → (x ++ u < y ++ v ↔ x < y ∨ (x = y ∧ u < v))
  | [], [], u, v, _ => by simp
  | [], b :: y, u, v, h => by simp at h
  | a :: x, [], u, v, h => by simp at h
  | a :: x, b :: y, u, v, h => by
    have ih := lt_append (x := x) (y := y) (u := u) (v := v) (by simpa using h)
    clear h
    rw [List.cons_append, List.cons_append, List.cons_lt_cons_iff, List.cons_lt_cons_iff, ih]
    constructor
    · rintro (h | ⟨rfl, h | ⟨rfl, h⟩⟩)
      · exact .inl (.inl h)
      · exact .inl (.inr ⟨rfl, h⟩)
      · exact .inr ⟨rfl, h⟩
    · rintro ((h | ⟨rfl, h⟩) | ⟨h, h2⟩)
      · exact .inl h
      · exact .inr ⟨rfl, .inl h⟩
      · obtain ⟨rfl, rfl⟩ := List.cons.inj h
        exact .inr ⟨rfl, .inr ⟨rfl, h2⟩⟩
theorem cons_lt (c : UInt8) {u v : List UInt8} : c :: u < c :: v ↔ u < v := by
  rw [List.cons_lt_cons_iff]
  constructor
  · rintro (h | ⟨_, h⟩)
    · exact absurd h (by simp)
    · exact h
  · exact fun h => .inr ⟨rfl, h⟩
theorem padL_lt : ∀ {k a b : Nat}, a < 10 ^ k → b < 10 ^ k → (padL k a < padL k b ↔ a < b)
  | 0, a, b, ha, hb => by
    have : a = 0 := by simpa using ha
    have : b = 0 := by simpa using hb
    subst_vars
    simp [padL]
  | k + 1, a, b, ha, hb => by
    have ha2 : a / 10 < 10 ^ k := by rw [Nat.pow_succ] at ha; omega
    have hb2 : b / 10 < 10 ^ k := by rw [Nat.pow_succ] at hb; omega
    rw [padL, padL, lt_append (by rw [padL_length, padL_length]), padL_lt ha2 hb2, List.cons_lt_cons_iff, UInt8.lt_iff_toNat_lt, digit_toNat, digit_toNat]
    constructor
    · rintro (h | ⟨h, h2 | ⟨_, h2⟩⟩)
      · omega
      · have := padL_inj ha2 hb2 h
        omega
      · simp at h2
    · intro h
      rcases Nat.lt_or_ge (a / 10) (b / 10) with h2 | h2
      · exact .inl h2
      · have e : a / 10 = b / 10 := by omega
        exact .inr ⟨by rw [e], .inl (by omega)⟩
theorem pad_lt_append {k a b : Nat} {u v : List UInt8} (ha : a < 10 ^ k) (hb : b < 10 ^ k) : (padL k a ++ u < padL k b ++ v ↔ a < b ∨ (a = b ∧ u < v)) := by
  rw [lt_append (by rw [padL_length, padL_length]), padL_lt ha hb]
  constructor
  · rintro (h | ⟨h, h2⟩)
    · exact .inl h
    · exact .inr ⟨padL_inj ha hb h, h2⟩
  · rintro (h | ⟨rfl, h2⟩)
    · exact .inl h
    · exact .inr ⟨rfl, h2⟩
theorem nil_lt_nil : ¬ ([] : List UInt8) < [] := by simp
theorem clock_lt {t u : Nat} (ht : t < 86400000) (hu : u < 86400000) (he : t % 1000 = 0 ↔ u % 1000 = 0) (z : List UInt8) : clockL t ++ z < clockL u ++ z ↔ t < u ∨ (t = u ∧ z < z) := by
  have hzz : ¬ z < z := List.lt_irrefl z
  unfold clockL
  simp only [List.append_assoc, List.cons_append]
  rw [pad_lt_append (by omega) (by omega), cons_lt, pad_lt_append (by omega) (by omega), cons_lt, pad_lt_append (by omega) (by omega)]
  by_cases h0 : t % 1000 = 0
  · have h1 := he.1 h0
    rw [if_pos h0, if_pos h1, List.nil_append]
    constructor
    · rintro (h | ⟨h, h2 | ⟨h2, h3 | ⟨h3, h4⟩⟩⟩)
      · exact .inl (by omega)
      · exact .inl (by omega)
      · exact .inl (by omega)
      · exact absurd h4 hzz
    · rintro (h | ⟨_, h⟩)
      · omega
      · exact absurd h hzz
  · have h1 : ¬ u % 1000 = 0 := fun h => h0 (he.2 h)
    rw [if_neg h0, if_neg h1, List.cons_append, List.cons_append, cons_lt, pad_lt_append (by omega) (by omega)]
    constructor
    · rintro (h | ⟨h, h2 | ⟨h2, h3 | ⟨h3, h4 | ⟨h4, h5⟩⟩⟩⟩)
      · exact .inl (by omega)
      · exact .inl (by omega)
      · exact .inl (by omega)
      · exact .inl (by omega)
      · exact absurd h5 hzz
    · rintro (h | ⟨_, h⟩)
      · omega
      · exact absurd h hzz
theorem text_lt {y m d t y' m' d' t' : Nat} (h : IsDay y m d) (h' : IsDay y' m' d') (ht : t < 86400000) (ht' : t' < 86400000) (he : t % 1000 = 0 ↔ t' % 1000 = 0) : textL y m d t < textL y' m' d' t' ↔ dayN y m d * 86400000 + t < dayN y' m' d' * 86400000 + t' := by
  have hl := dayN_lt h h'
  have hi := fun e => dayN_inj h h' e
  have hi2 : (y = y' ∧ m = m' ∧ d = d') → dayN y m d = dayN y' m' d' := by rintro ⟨rfl, rfl, rfl⟩; rfl
  obtain ⟨⟨h1, h2⟩, ⟨h3, h4⟩, h5, h6⟩ := h
  obtain ⟨⟨k1, k2⟩, ⟨k3, k4⟩, k5, k6⟩ := h'
  have h7 := lenM_bounds y m
  have k7 := lenM_bounds y' m'
  have hzz : ¬ ([90] : List UInt8) < [90] := List.lt_irrefl _
  unfold textL
  rw [pad_lt_append (by omega) (by omega), cons_lt, pad_lt_append (by omega) (by omega), cons_lt, pad_lt_append (by omega) (by omega), cons_lt, clock_lt ht ht' he]
  generalize dayN y m d = n at *
  generalize dayN y' m' d' = n' at *
  constructor
  · rintro (a | ⟨a, b | ⟨b, c | ⟨c, e | ⟨_, e⟩⟩⟩⟩)
    · have := hl.2 (.inl a)
      omega
    · have := hl.2 (.inr ⟨a, .inl b⟩)
      omega
    · have := hl.2 (.inr ⟨a, .inr ⟨b, c⟩⟩)
      omega
    · have := hi2 ⟨a, b, c⟩
      omega
    · exact absurd e hzz
  · intro a
    rcases Nat.lt_trichotomy n n' with b | b | b
    · rcases hl.1 b with c | ⟨c, c2 | ⟨c2, c3⟩⟩
      · exact .inl c
      · exact .inr ⟨c, .inl c2⟩
      · exact .inr ⟨c, .inr ⟨c2, .inl c3⟩⟩
    · obtain ⟨c1, c2, c3⟩ := hi b
      exact .inr ⟨c1, .inr ⟨c2, .inr ⟨c3, .inl (by omega)⟩⟩⟩
    · omega
end Go.Proofs.YtbepjlhknmhmeaaDoor
