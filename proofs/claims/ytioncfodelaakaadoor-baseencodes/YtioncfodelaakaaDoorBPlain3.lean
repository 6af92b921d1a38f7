/-
  PLAIN FACTS ON BASE64, DIGITS AND LINES, MORE: put together in threes; folded and read; digits back again.
-/
import Derived.Test.YtioncfodelaakaaDoorBDec
namespace Go.Proofs.YtioncfodelaakaaDoor.Ch
open Go.Proofs.YtioncfodelaakaaDoor

/-- Blanks within count for nothing. -/
theorem kept_fold (n : Int) (l : List UInt8) : ∀ i, keptL (foldFrom n i l) = keptL l := by
  induction l with
  | nil => intro i; rfl
  | cons c r ih =>
    intro i
    rw [foldFrom]
    have h10 : isBlank8 10 = true := by decide
    by_cases h : 0 < n ∧ 0 < i ∧ (i : Int) % n = 0
    · rw [if_pos h, keptL_blank h10]
      cases hb : isBlank8 c with
      | true => rw [keptL_blank hb, keptL_blank hb, ih]
      | false => rw [keptL_sign hb, keptL_sign hb, ih]
    · rw [if_neg h]
      cases hb : isBlank8 c with
      | true => rw [keptL_blank hb, keptL_blank hb, ih]
      | false => rw [keptL_sign hb, keptL_sign hb, ih]
theorem sign_blank (n : Nat) : isBlank8 (UInt8.ofNat (signN n)) = false := by
  unfold isBlank8
  rw [sign8_toNat]
  apply decide_eq_false
  unfold signN
  repeat' split
  all_goals omega
theorem enc_mem {s : ByteArray} {c : UInt8} (h : c ∈ encL s) : c = 61 ∨ ∃ n, n < 64 ∧ c = UInt8.ofNat (signN n) := by
  unfold encL at h
  rcases List.mem_append.1 h with h | h
  · obtain ⟨j, _, rfl⟩ := List.mem_map.1 h
    exact .inr ⟨_, grp_lt s j, rfl⟩
  · exact .inl (List.eq_of_mem_replicate h)
theorem kept_enc (s : ByteArray) : keptL (encL s) = encL s := by
  unfold keptL
  rw [List.filter_eq_self]
  intro c hc
  rcases enc_mem hc with rfl | ⟨n, _, rfl⟩
  · decide
  · rw [sign_blank]; rfl
theorem ok_enc (s : ByteArray) : (encL s).all okSign = true := by
  rw [List.all_eq_true]
  intro c hc
  rcases enc_mem hc with rfl | ⟨n, hn, rfl⟩
  · decide
  · unfold okSign
    rw [sign8_toNat, (six_sign hn).1 rfl]
    simp
/-- What is answered of a folded text that was written. -/
theorem dec_enc {s b : ByteArray} {n E : Int} (h : DecSaid (foldL n (encL s)) E b) : E = 0 ∧ b = s := by
  have hk : keptL (foldL n (encL s)) = encL s := by unfold foldL; rw [kept_fold, kept_enc]
  rcases h with ⟨_, _, h⟩ | ⟨_, ⟨_, _, h⟩ | ⟨h1, h2⟩⟩
  · rw [hk, ok_enc] at h; cases h
  · exact absurd hk.symm (h s)
  · rw [hk] at h2
    exact ⟨h1, enc_inj h2⟩
/-- The answer is one alone. -/
theorem dec_one {l : List UInt8} {E F : Int} {b c : ByteArray} (h : DecSaid l E b) (h' : DecSaid l F c) : E = F ∧ b = c := by
  rcases h with ⟨rfl, rfl, h⟩ | ⟨h, ⟨rfl, rfl, h2⟩ | ⟨rfl, h2⟩⟩ <;> rcases h' with ⟨rfl, rfl, g⟩ | ⟨g, ⟨rfl, rfl, g2⟩ | ⟨rfl, g2⟩⟩
  · exact ⟨rfl, rfl⟩
  · rw [h] at g; cases g
  · rw [h] at g; cases g
  · rw [h] at g; cases g
  · exact ⟨rfl, rfl⟩
  · exact absurd g2 (h2 c)
  · rw [h] at g; cases g
  · exact absurd h2 (g2 b)
  · exact ⟨rfl, enc_inj (h2.trans g2.symm)⟩

theorem digit_hex {n : Nat} (h : n < 16) : digitZ (hexN n) = n := by
  unfold digitZ hexN
  repeat' split
  all_goals omega
theorem hex_toNat {n : Nat} (h : n < 16) : (UInt8.ofNat (hexN n)).toNat = hexN n := by
  rw [UInt8.toNat_ofNat']
  have := (show hexN n < 128 by unfold hexN; split <;> omega)
  omega
theorem two_hex (c : UInt8) : two (UInt8.ofNat (hexN (c.toNat / 16))) (UInt8.ofNat (hexN (c.toNat % 16))) = c := by
  have h := c.toNat_lt
  unfold two
  rw [hex_toNat (by omega), hex_toNat (by omega), digit_hex (by omega), digit_hex (by omega)]
  apply UInt8.toNat_inj.1
  rw [UInt8.toNat_ofNat']
  omega
theorem pairs_hex (l : List UInt8) : pairsL (hexL l) = l := by
  induction l with
  | nil => rfl
  | cons c r ih =>
    show pairsL (_ :: _ :: hexL r) = _
    rw [pairsL, two_hex, ih]
theorem hex_digits (l : List UInt8) : (hexL l).all isDig = true := by
  rw [List.all_eq_true]
  intro x hx
  obtain ⟨c, _, h⟩ := List.mem_flatMap.1 hx
  have hc := c.toNat_lt
  simp only [List.mem_cons, List.not_mem_nil, or_false] at h
  unfold isDig
  rcases h with rfl | rfl
  · rw [hex_toNat (by omega), digit_hex (by omega)]; exact decide_eq_true (by omega)
  · rw [hex_toNat (by omega), digit_hex (by omega)]; exact decide_eq_true (by omega)
theorem hex_length (l : List UInt8) : (hexL l).length = 2 * l.length := by
  induction l with
  | nil => rfl
  | cons c r ih => show (_ :: _ :: hexL r).length = _; simp only [List.length_cons, ih]; omega
theorem unhex_hex (l : List UInt8) : unhexE (hexL l) = 0 ∧ unhexB (hexL l) = l := by
  have h : unhexE (hexL l) = 0 := by
    unfold unhexE
    rw [if_pos (hex_digits l), hex_length, if_pos (by omega)]
  refine ⟨h, ?_⟩
  unfold unhexB
  rw [if_pos h, pairs_hex]
theorem hex_inj {l r : List UInt8} (h : hexL l = hexL r) : l = r := by rw [← pairs_hex l, h, pairs_hex]

/-- Put together behind bytes in threes. -/
theorem bit_behind (a b : ByteArray) (q i : Nat) (ha : a.size = 3 * q) : bitN (cat a b) (24 * q + i) = bitN b i := by
  unfold bitN
  rw [show (24 * q + i) / 8 = a.size + i / 8 by omega, show (24 * q + i) % 8 = i % 8 by omega, cat_right]
theorem bit_ahead (a b : ByteArray) (i : Nat) (h : i / 8 < a.size) : bitN (cat a b) i = bitN a i := by
  unfold bitN
  rw [cat_left a b _ h]
theorem bits_behind (a b : ByteArray) (q i k : Nat) (ha : a.size = 3 * q) : bitsN (cat a b) (24 * q + i) k = bitsN b i k := by
  induction k with
  | zero => rfl
  | succ k ih => rw [bitsN, bitsN, ih, Nat.add_assoc, bit_behind a b q _ ha]
theorem bits_ahead (a b : ByteArray) (i k : Nat) (h : i + k ≤ 8 * a.size) : bitsN (cat a b) i k = bitsN a i k := by
  induction k with
  | zero => rfl
  | succ k ih => rw [bitsN, bitsN, ih (by omega), bit_ahead a b _ (by omega)]
theorem signs_cat (a b : ByteArray) (q m : Nat) (ha : a.size = 3 * q) : signsL (cat a b) (4 * q + m) = signsL a (4 * q) ++ signsL b m := by
  induction m with
  | zero =>
    show signsL _ _ = _ ++ []
    rw [List.append_nil, Nat.add_zero]
    unfold signsL
    apply List.map_congr_left
    intro j hj
    have hj := List.mem_range.1 hj
    unfold grp
    rw [bits_ahead a b _ _ (by omega)]
  | succ m ih =>
    rw [← Nat.add_assoc, signsL_succ, ih, signsL_succ, List.append_assoc]
    congr 4
    unfold grp
    rw [show 6 * (4 * q + m) = 24 * q + 6 * m by omega, bits_behind a b q _ _ ha]
theorem enc_cat (a b : ByteArray) (q : Nat) (ha : a.size = 3 * q) : encL (cat a b) = encL a ++ encL b := by
  have h1 : signCount (cat a b).size = 4 * q + signCount b.size := by rw [cat_size, ha]; unfold signCount; omega
  have h2 : signCount a.size = 4 * q := by rw [ha]; unfold signCount; omega
  unfold encL
  rw [h1, h2, signs_cat a b q _ ha, show (4 - (4 * q + signCount b.size) % 4) % 4 = (4 - signCount b.size % 4) % 4 by omega, show (4 - 4 * q % 4) % 4 = 0 by omega]
  simp
end Go.Proofs.YtioncfodelaakaaDoor.Ch
