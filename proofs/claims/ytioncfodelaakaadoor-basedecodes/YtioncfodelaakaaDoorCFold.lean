/-
  The program's Fold: a text in lines of n bytes.
-/
import Derived.Test.YtioncfodelaakaaDoorCEnc
import Derived.Test.YtioncfodelaakaaDoorBFold
namespace Go.Proofs.YtioncfodelaakaaDoor
open Go.RowKit Go.Shelf Ch
attribute [local go_sem] Oper.semAt_some

theorem fold_within {N j : Nat} (hN : 0 < N) : ∀ (t r : List UInt8) (d : Nat), 1 ≤ d → d + t.length ≤ N → foldFrom (N : Int) (N * j + d) (t ++ r) = t ++ foldFrom (N : Int) (N * j + d + t.length) r
  | [], r, d, _, _ => rfl
  | c :: t, r, d, h1, h2 => by
    rw [List.length_cons] at h2
    have hm : ((N * j + d : Nat) : Int) % (N : Int) ≠ 0 := by
      have e : (N * j + d) % N = d := by rw [Nat.mul_add_mod]; exact Nat.mod_eq_of_lt (by omega)
      have : ((N * j + d : Nat) : Int) % (N : Int) = ((d : Nat) : Int) := by rw [← e]; simp
      omega
    rw [List.cons_append, foldFrom_one (fun h => hm h.2.2)]
    have := fold_within (j := j) hN t r (d + 1) (by omega) (by omega)
    rw [show N * j + d + 1 = N * j + (d + 1) by omega, this, List.length_cons]
    rw [show N * j + (d + 1) + t.length = N * j + d + (t.length + 1) by omega]
    rfl
theorem fold_line {N j : Nat} (hN : 0 < N) {t r : List UInt8} (h0 : t ≠ []) (h2 : t.length ≤ N) : foldFrom (N : Int) (N * j) (t ++ r) = (if j = 0 then [] else [10]) ++ (t ++ foldFrom (N : Int) (N * j + t.length) r) := by
  match t, h0, h2 with
  | c :: t, _, h2 =>
    rw [List.length_cons] at h2
    have hw := fold_within (j := j) hN t r 1 (by omega) (by omega)
    rw [List.cons_append]
    by_cases hj : j = 0
    · rw [if_pos hj, foldFrom_one (fun h => by subst hj; have := h.2.1; omega), hw, List.length_cons]
      rw [show N * j + 1 + t.length = N * j + (t.length + 1) by omega]
      rfl
    · have hp : 0 < N * j := Nat.mul_pos hN (by omega)
      have hm : ((N * j : Nat) : Int) % (N : Int) = 0 := by simp
      rw [if_neg hj, foldFrom_both (by omega) hp hm, hw, List.length_cons]
      rw [show N * j + 1 + t.length = N * j + (t.length + 1) by omega]
      rfl
/-- Lines one behind the other. -/
def joinF : Bool → List ByteArray → List UInt8
  | _, [] => []
  | b, p :: ps => (if b = true then [] else [10]) ++ (p.data.toList ++ joinF false ps)
theorem fold_pieces {N : Nat} (hN : 0 < N) : ∀ (k : Nat) (s : ByteArray) (j : Nat), s.size ≤ k → foldFrom (N : Int) (N * j) s.data.toList = joinF (decide (j = 0)) (piecesB N s)
  | 0, s, j, hk => by
    rw [piecesB_nil (by omega), empty_of_size (s := s) (by omega)]
    rfl
  | k + 1, s, j, hk => by
    by_cases h0 : s.size = 0
    · rw [piecesB_nil h0, empty_of_size h0]; rfl
    obtain ⟨m, hm⟩ : ∃ m, m = min N s.size := ⟨_, rfl⟩
    rw [piecesB_cons hN h0, ← hm, joinF]
    have ih := fold_pieces hN k (s.extract m s.size) (j + 1) (by rw [size_rest]; omega)
    have e1 : (s.extract 0 m).data.toList = s.data.toList.take m := by rw [Lib.extract_data, List.drop_zero, Nat.sub_zero]
    have e2 : (s.extract m s.size).data.toList = s.data.toList.drop m := by rw [Lib.extract_data, List.take_of_length_le (by rw [List.length_drop, len_eq]; exact Nat.le_refl _)]
    have e3 : (s.data.toList.take m).length = m := by rw [List.length_take, len_eq]; omega
    have hl := fold_line (j := j) hN (t := s.data.toList.take m) (r := s.data.toList.drop m) (fun h => by rw [h] at e3; simp at e3; omega) (by omega)
    rw [List.take_append_drop, e3] at hl
    rw [hl, e1]
    have e4 : foldFrom (N : Int) (N * j + m) (s.data.toList.drop m) = joinF false (piecesB N (s.extract m s.size)) := by
      by_cases hle : s.size ≤ N
      · have hd : s.data.toList.drop m = [] := List.drop_of_length_le (by rw [len_eq]; omega)
        rw [hd, piecesB_nil (by rw [size_rest]; omega)]
        rfl
      · have hmN : m = N := by omega
        rw [e2, show decide (j + 1 = 0) = false by simp, show N * (j + 1) = N * j + N by rw [Nat.mul_add]; omega] at ih
        rw [hmN] at ih ⊢
        exact ih
    rw [e4]
    by_cases hj : j = 0
    · rw [if_pos hj, if_pos (by simp [hj])]
    · rw [if_neg hj, if_neg (by simp [hj])]

/-- The pieces that Fold is handed. -/
abbrev PN := { x : ByteArray // 1 ≤ x.size ∧ x.size ≤ 100000 }
def addLine (acc : List UInt8) (x : PN) : List UInt8 := if acc.length = 0 then x.1.data.toList else acc ++ [10] ++ x.1.data.toList
def foldP (pre : List PN) : List UInt8 := pre.foldl addLine []
theorem foldP_snoc (pre : List PN) (x : PN) : foldP (pre ++ [x]) = addLine (foldP pre) x := by simp [foldP]
theorem foldl_line : ∀ (ps : List PN) (acc : List UInt8), ps.foldl addLine acc = acc ++ joinF (decide (acc.length = 0)) (ps.map (·.1))
  | [], acc => by rw [List.foldl_nil, List.map_nil, joinF, List.append_nil]
  | p :: ps, acc => by
    have hp : p.1.data.toList.length ≠ 0 := by rw [len_eq]; have := p.2.1; omega
    rw [List.foldl_cons, foldl_line ps, List.map_cons, joinF]
    unfold addLine
    by_cases h : acc.length = 0
    · rw [if_pos h, if_pos (by simpa using h), List.eq_nil_of_length_eq_zero h, show decide (p.1.data.toList.length = 0) = false from decide_eq_false hp]
      rfl
    · have : decide ((acc ++ [10] ++ p.1.data.toList).length = 0) = false := decide_eq_false (by simp)
      rw [if_neg h, if_neg (by simpa using h), this]
      simp
theorem foldP_all {pre : List PN} {s : ByteArray} {N : Nat} (hN : 0 < N) (h : pre.map (·.1) = piecesB N s) : foldP pre = foldL (N : Int) s.data.toList := by
  unfold foldP
  rw [foldl_line, h, List.nil_append]
  have := fold_pieces hN s.size s 0 (Nat.le_refl _)
  rw [Nat.mul_zero] at this
  exact this.symm

theorem addLine_length (acc : List UInt8) (x : PN) : (addLine acc x).length ≤ acc.length + 100001 := by
  have := x.2.2
  have e : x.1.data.toList.length = x.1.size := len_eq x.1
  unfold addLine
  split
  · omega
  · rw [List.length_append, List.length_append]; simp; omega
theorem foldl_length : ∀ (pre : List PN) (acc : List UInt8), (pre.foldl addLine acc).length ≤ acc.length + 100001 * pre.length
  | [], acc => Nat.le_refl _
  | x :: pre, acc => by
    have := foldl_length pre (addLine acc x)
    have := addLine_length acc x
    rw [List.foldl_cons, List.length_cons]
    omega
theorem foldP_length (pre : List PN) : (foldP pre).length ≤ 100001 * pre.length := by
  have := foldl_length pre []
  unfold foldP
  simpa using this
theorem sClone_any (s : ByteArray) (w : World) (hs : s.size ≤ 1000000) :
    Calls Tryd.prog 26 #[.string s] w fun e w' => e = .returned (.string s) ∧ Below w.heap.size w w' := by
  go_enter Tryd.func26, Tryd.ntmps26
  go_wp2_with (go_at_call 39; refine (Tryd.stringslite_Clone _ _ (by omega)).mono ?_)
  rintro e w' ⟨rfl, hb⟩
  go_wp2
  go_ret
  exact ⟨rfl, hb⟩
theorem fold_none {n : Int} (hn : n < 1) : ∀ (l : List UInt8) (i : Nat), foldFrom n i l = l
  | [], _ => rfl
  | c :: l, i => by rw [foldFrom_one (fun h => by have := h.1; omega), fold_none hn l]; rfl
set_option maxHeartbeats 400000 in
theorem cFold_low (s : ByteArray) (n : Int) (w : World) (hs : s.size ≤ 100000) (hn : n < 1) :
    Calls Tryd.prog 13 #[.string s, .int .i64 n] w fun e w' => e = .returned (.string ⟨(foldL n s.data.toList).toArray⟩) ∧ Below w.heap.size w w' := by
  go_enter Tryd.func13, Tryd.ntmps13
  go_wp2_with fail
  refine (sClone_any s w (by omega)).mono ?_
  rintro e w' ⟨rfl, hb⟩
  go_wp2_with fail
  go_ret
  unfold foldL
  rw [fold_none hn]
  exact ⟨rfl, hb⟩
end Go.Proofs.YtioncfodelaakaaDoor
