/-
  Layer 3's plain facts: a piece cut at its first =, a text parted at its &.
-/
import Derived.Test.YtnkefpopkaagaaaDoorEPlain2
import Derived.Test.YtnkefpopkaagaaaDoorGRune
import Derived.Lib.FieldsP
import Derived.Lib.IndexMore
namespace Go.Proofs.YtnkefpopkaagaaaDoor
open Go.RowKit Ch
set_option maxRecDepth 100000

theorem index_eq : ∀ t : List UInt8, Lib.index t [61] = if t.dropWhile (fun c => c != 61) = [] then -1 else ((t.takeWhile (fun c => c != 61)).length : Int)
  | [] => rfl
  | b :: l => by
    have ih := index_eq l
    rw [Lib.index]
    by_cases hb : b = 61
    · subst hb
      rfl
    · have h1 : List.isPrefixOf [61] (b :: l) = false := by
        simp [List.isPrefixOf]
        exact fun e => hb e.symm
      have h2 : (b != 61) = true := by simpa using hb
      rw [h1, if_neg (by decide), List.dropWhile_cons_of_pos (p := fun c => c != 61) h2, List.takeWhile_cons_of_pos (p := fun c => c != 61) h2, ih]
      by_cases hd : l.dropWhile (fun c => c != 61) = []
      · rw [if_pos hd, if_pos hd]; rfl
      · rw [if_neg hd, if_neg hd, if_neg]
        · simp
        · simp
theorem cut_eq (t : List UInt8) : (Lib.cut t [61]).1 = t.takeWhile (fun c => c != 61) ∧ (Lib.cut t [61]).2.1 = (t.dropWhile (fun c => c != 61)).tail := by
  have h := index_eq t
  have ht : t.takeWhile (fun c => c != 61) ++ t.dropWhile (fun c => c != 61) = t := List.takeWhile_append_dropWhile
  unfold Lib.cut
  by_cases hd : t.dropWhile (fun c => c != 61) = []
  · rw [if_pos hd] at h
    rw [h, if_neg (by decide), hd]
    rw [hd, List.append_nil] at ht
    exact ⟨ht.symm, rfl⟩
  · rw [if_neg hd] at h
    rw [h, if_pos (by omega), Int.toNat_natCast]
    obtain ⟨A, hA⟩ : ∃ A, t.takeWhile (fun c => c != 61) = A := ⟨_, rfl⟩
    obtain ⟨B, hB⟩ : ∃ B, t.dropWhile (fun c => c != 61) = B := ⟨_, rfl⟩
    rw [hA, hB] at ht
    rw [hA, hB, ← ht]
    constructor
    · show (A ++ B).take A.length = A
      exact List.take_left' rfl
    · show (A ++ B).drop (A.length + 1) = B.tail
      rw [← List.drop_drop, List.drop_left' rfl]
      exact List.drop_one
def both : Option (List UInt8) → Option (List UInt8) → Option (List UInt8 × List UInt8)
  | some a, some b => some (a, b)
  | _, _ => none
theorem pair_eq (t : List UInt8) : pairOf t = both (unpL true (Lib.cut t [61]).1) (unpL true (Lib.cut t [61]).2.1) := by
  rw [(cut_eq t).1, (cut_eq t).2]
  unfold pairOf
  by_cases hd : t.dropWhile (fun c => c != 61) = []
  · rw [if_pos hd, hd]; rfl
  · rw [if_neg hd]; rfl
theorem cut_le (t : List UInt8) : (Lib.cut t [61]).1.length ≤ t.length ∧ (Lib.cut t [61]).2.1.length ≤ t.length := by
  rw [(cut_eq t).1, (cut_eq t).2]
  have ht : t.takeWhile (fun c => c != 61) ++ t.dropWhile (fun c => c != 61) = t := List.takeWhile_append_dropWhile
  have := congrArg List.length ht
  rw [List.length_append] at this
  rw [List.length_tail]
  omega
theorem unp_le (plus : Bool) : ∀ (k : Nat) (l t : List UInt8), unpS plus k l = some t → t.length ≤ l.length
  | _, [], t, h => by simp [unpS] at h; subst h; exact Nat.le_refl _
  | k + 1, c :: r, t, h => by
    rw [unpS] at h
    have := unp_le plus k r t h
    rw [List.length_cons]
    omega
  | 0, c :: r, t, h => by
    rw [unpS] at h
    split at h
    · split at h
      · obtain ⟨u, hu, rfl⟩ := Option.map_eq_some_iff.1 h
        have := unp_le plus 2 r u hu
        simp
        omega
      · cases h
    · obtain ⟨u, hu, rfl⟩ := Option.map_eq_some_iff.1 h
      have := unp_le plus 0 r u hu
      simp
      omega
theorem pairOf_le {t a b : List UInt8} (h : pairOf t = some (a, b)) : a.length ≤ t.length ∧ b.length ≤ t.length := by
  rw [pair_eq] at h
  have hc := cut_le t
  cases h1 : unpL true (Lib.cut t [61]).1 with
  | none => rw [h1] at h; cases h
  | some x =>
    cases h2 : unpL true (Lib.cut t [61]).2.1 with
    | none => rw [h1, h2] at h; cases h
    | some y =>
      rw [h1, h2] at h
      simp [both] at h
      obtain ⟨rfl, rfl⟩ := h
      have := unp_le true 0 _ _ h1
      have := unp_le true 0 _ _ h2
      omega

theorem amp_mem : ∀ (l cur x : List UInt8), x ∈ ampFrom cur l → x.length ≤ cur.length + l.length
  | [], cur, x, h => by
    unfold ampFrom flushA at h
    split at h
    · cases h
    · simp at h; subst h; omega
  | c :: r, cur, x, h => by
    rw [ampFrom] at h
    rw [List.length_cons]
    split at h
    · rcases List.mem_append.1 h with h | h
      · unfold flushA at h
        split at h
        · cases h
        · simp at h; subst h; omega
      · have := amp_mem r [] x h
        simp at this
        omega
    · have := amp_mem r (cur ++ [c]) x h
      simp at this
      omega
theorem flushA_le (cur : List UInt8) : (flushA cur).length ≤ cur.length := by
  unfold flushA
  split
  · simp
  · rename_i h
    have := List.length_pos_iff.2 h
    simp
    omega
theorem amp_len : ∀ (l cur : List UInt8), (ampFrom cur l).length ≤ cur.length + l.length
  | [], cur => by
    have := flushA_le cur
    rw [ampFrom]
    simpa using this
  | c :: r, cur => by
    rw [ampFrom, List.length_cons]
    have h0 := flushA_le cur
    split
    · have := amp_len r []
      rw [List.length_append]
      simp at this
      omega
    · have := amp_len r (cur ++ [c])
      simp at this
      omega
theorem amp_step {s : ByteArray} {a p n : Nat} (ha : a ≤ p) (h : ∀ k, k < n → byte s (p + k) ≠ 38) : ampFrom (seg s a p) (s.data.toList.drop p) = ampFrom (seg s a (p + n)) (s.data.toList.drop (p + n)) := by
  rw [← seg_rest s (show p ≤ p + n by omega), ampFrom_plain, seg_append s ha (by omega)]
  intro c hc e
  obtain ⟨k, hk, _, hb⟩ := mem_seg hc
  rw [e] at hb
  exact h k hk hb.symm
theorem amp_sep {s : ByteArray} {a p : Nat} (hp : p < s.size) (h : byte s p = 38) : ampFrom (seg s a p) (s.data.toList.drop p) = flushA (seg s a p) ++ ampFrom (seg s (p + 1) (p + 1)) (s.data.toList.drop (p + 1)) := by
  rw [drop_byte hp (b := 38) h, ampFrom, if_pos rfl, seg_nil]
theorem flushA_some {s : ByteArray} {a p : Nat} (h : a < p) (hp : p ≤ s.size) : flushA (seg s a p) = [seg s a p] := by
  unfold flushA
  rw [if_neg]
  intro e
  have := seg_length s (a := a) hp
  rw [e] at this
  simp at this
  omega
theorem flushA_none {s : ByteArray} {a p : Nat} (h : ¬ a < p) : flushA (seg s a p) = [] := by
  have : seg s a p = [] := by unfold seg; rw [show p - a = 0 by omega]; rfl
  unfold flushA
  rw [if_pos this]
def isAmp (r : Nat) : Bool := (r : Int) == 38
def segs (s : ByteArray) (l : List (Nat × Nat)) : List (List UInt8) := l.map fun x => seg s x.1 x.2
theorem spans_amp (s : ByteArray) : ∀ (f pos : Nat) (st : Option Nat) (acc : List (Nat × Nat)) (a : Nat), s.size ≤ pos + f → pos ≤ s.size → (st = none → a = pos) → (∀ b, st = some b → a = b ∧ b < pos) →
    segs s (Lib.closeSpans s (Lib.spansFromP isAmp s f pos st acc)) = segs s acc ++ ampFrom (seg s a pos) (s.data.toList.drop pos) := by
  intro f
  induction f with
  | zero =>
    intro pos st acc a hf hp hn hs
    obtain rfl : pos = s.size := by omega
    rw [Lib.spansFromP, List.drop_of_length_le (by rw [len_eq]; omega), ampFrom]
    cases st with
    | none => rw [hn rfl, flushA_none (by omega), List.append_nil]; rfl
    | some b =>
      obtain ⟨rfl, hb⟩ := hs b rfl
      rw [flushA_some hb (Nat.le_refl _)]
      simp [Lib.closeSpans, segs]
  | succ f ih =>
    intro pos st acc a hf hp hn hs
    by_cases hlt : pos < s.size
    · obtain ⟨c, n, hd, hn0, hpn, hc, hcase⟩ := rune_cases s pos hlt
      unfold Lib.spansFromP
      rw [if_pos hlt, hd]
      have ha : a ≤ pos := by
        cases st with
        | none => rw [hn rfl]; exact Nat.le_refl _
        | some b => obtain ⟨rfl, hb⟩ := hs b rfl; omega
      by_cases h38 : c = 38
      · have hi : isAmp c = true := by rw [h38]; rfl
        have h1 : n = 1 ∧ byte s pos = 38 := by
          rcases hcase with ⟨h1, h2, _⟩ | ⟨h1, _⟩
          · exact ⟨h1, by omega⟩
          · omega
        obtain ⟨rfl, hb⟩ := h1
        rw [amp_sep hlt hb]
        simp only [hi, if_true]
        cases st with
        | none =>
          rw [hn rfl, flushA_none (by omega), List.nil_append]
          exact ih (pos + 1) none acc (pos + 1) (by omega) (by omega) (fun _ => rfl) (fun b h => by cases h)
        | some b =>
          obtain ⟨rfl, hb2⟩ := hs b rfl
          rw [flushA_some hb2 hp]
          have := ih (pos + 1) none (acc ++ [(a, pos)]) (pos + 1) (by omega) (by omega) (fun _ => rfl) (fun b h => by cases h)
          simp only at this ⊢
          rw [this]
          simp [segs]
      · have hi : isAmp c = false := beq_eq_false_iff_ne.2 (by omega)
        have hne : ∀ k, k < n → byte s (pos + k) ≠ 38 := by
          intro k hk
          rcases hcase with ⟨h1, h2, _⟩ | ⟨_, h2⟩
          · obtain rfl : k = 0 := by omega
            rw [Nat.add_zero]; omega
          · have := h2 k hk; omega
        rw [amp_step ha hne]
        simp only [hi, Bool.false_eq_true, if_false]
        cases st with
        | none =>
          obtain rfl := hn rfl
          exact ih (a + n) (some a) acc a (by omega) hpn (fun h => by cases h) (fun b h => by cases h; exact ⟨rfl, by omega⟩)
        | some b =>
          obtain ⟨rfl, hb2⟩ := hs b rfl
          exact ih (pos + n) (some a) acc a (by omega) hpn (fun h => by cases h) (fun b h => by cases h; exact ⟨rfl, by omega⟩)
    · obtain rfl : pos = s.size := by omega
      rw [Lib.spansFromP_end isAmp s (f + 1) s.size st acc hlt, List.drop_of_length_le (by rw [len_eq]; omega), ampFrom]
      cases st with
      | none => rw [hn rfl, flushA_none (by omega), List.append_nil]; rfl
      | some b =>
        obtain ⟨rfl, hb⟩ := hs b rfl
        rw [flushA_some hb (Nat.le_refl _)]
        simp [Lib.closeSpans, segs]
theorem fields_amp (s : ByteArray) : Lib.goFieldsP isAmp s = (ampL s.data.toList).map fun x => (⟨x.toArray⟩ : ByteArray) := by
  have h := spans_amp s s.size 0 none [] 0 (by omega) (Nat.zero_le _) (fun _ => rfl) (fun b h => by cases h)
  rw [seg_nil, List.drop_zero] at h
  show (Lib.closeSpans s (Lib.spansFromP isAmp s s.size 0 none [])).map (fun x => s.extract x.1 x.2) = _
  have h2 : ampL s.data.toList = segs s (Lib.closeSpans s (Lib.spansFromP isAmp s s.size 0 none [])) := by rw [h]; rfl
  rw [h2]
  unfold segs
  rw [List.map_map]
  congr 1
  funext x
  exact extract_seg s x.1 x.2
end Go.Proofs.YtnkefpopkaagaaaDoor
