/-
  Layer 6's laws: what each call answers, in the laws' words.
-/
import Derived.Test.YthfgbcpppamboaaLNAwake
import Derived.Test.YthfgbcpppamboaaNTr
namespace Go.Proofs.Ythfgbcpppamboaa
open Go.RowKit Ch
set_option maxRecDepth 100000

theorem compare_val : ∀ l m : List UInt8, Lib.compareBytes l m = -1 ∨ Lib.compareBytes l m = 0 ∨ Lib.compareBytes l m = 1
  | [], [] => .inr (.inl rfl)
  | [], _ :: _ => .inl rfl
  | _ :: _, [] => .inr (.inr rfl)
  | a :: l, b :: m => by
    rw [Lib.compareBytes]
    split
    · exact .inl rfl
    · split
      · exact .inr (.inr rfl)
      · exact compare_val l m
theorem cmpL_num (a b : List UInt8) : cmpL a b = cmpN (numB a) (numB b) := by
  have h1 := cmp_num a b
  have h2 : cmpL a b = -1 ∨ cmpL a b = 0 ∨ cmpL a b = 1 := by
    unfold cmpL
    split
    · exact compare_val _ _
    · unfold cmpI
      split
      · exact .inl rfl
      · split
        · exact .inr (.inr rfl)
        · exact .inr (.inl rfl)
  unfold cmpN
  by_cases h3 : numB a < numB b
  · rw [if_pos h3]
    have := h1.1.2 h3
    omega
  · rw [if_neg h3]
    have h4 : ¬ cmpL a b < 0 := fun h => h3 (h1.1.1 h)
    by_cases h5 : numB b < numB a
    · rw [if_pos h5]
      have h6 : cmpL a b ≠ 0 := fun h => by have := h1.2.1 h; omega
      omega
    · rw [if_neg h5]
      exact h1.2.2 (by omega)
/-- A number, with its bytes. -/
def NumAt (w : World) (v : Value) (S : ByteArray) (N : Nat) : Prop := IsBytes w v S ∧ bareL S.data.toList = S.data.toList ∧ numB S.data.toList = N
theorem NumAt.later {w w' : World} {v : Value} {S : ByteArray} {N : Nat} (h : NumAt w v S N) (hb : Below w.heap.size w w') : NumAt w' v S N := ⟨h.1.later hb, h.2⟩
theorem numAt_ex {w : World} {v : Value} {N : Nat} (h : IsNum w v N) : ∃ S y c, v = .slice y S.size c ∧ NumAt w (.slice y S.size c) S N := by
  obtain ⟨S, h1, ⟨y, c, rfl⟩, h2⟩ := isNum_ex h
  exact ⟨S, y, c, rfl, h2, h1⟩
theorem numOk_ex {w w' : World} {N : Nat} {e : Ending} (h : NumOk w w' N e) : ∃ S y c, e = .returned (.tuple #[.slice y S.size c, .int .i64 0]) ∧ NumAt w' (.slice y S.size c) S N ∧ Below w.heap.size w w' := by
  obtain ⟨v, rfl, h1, h2⟩ := h
  obtain ⟨S, y, c, rfl, h3⟩ := numAt_ex h1
  exact ⟨S, y, c, rfl, h3, h2⟩
theorem nAddS (x y : Option Addr) (cx cy : Nat) (s t : ByteArray) (w : World) (hS : IsBytes w (.slice x s.size cx) s) (hT : IsBytes w (.slice y t.size cy) t) (hs : s.size ≤ 1024) (ht : t.size ≤ 1024) :
    Calls Try.prog 13 #[.slice x s.size cx, .slice y t.size cy] w fun e w' => ∃ S y c, e = .returned (.tuple #[.slice y S.size c, .int .i64 0]) ∧ NumAt w' (.slice y S.size c) S (numB s.data.toList + numB t.data.toList) ∧ Below w.heap.size w w' :=
  (nAdd_any x y cx cy s t w hS hT hs ht).mono fun _ _ h => numOk_ex h
theorem nMulS (x y : Option Addr) (cx cy : Nat) (s t : ByteArray) (w : World) (hS : IsBytes w (.slice x s.size cx) s) (hT : IsBytes w (.slice y t.size cy) t) (hs : s.size ≤ 1024) (ht : t.size ≤ 1024) :
    Calls Try.prog 14 #[.slice x s.size cx, .slice y t.size cy] w fun e w' => ∃ S y c, e = .returned (.tuple #[.slice y S.size c, .int .i64 0]) ∧ NumAt w' (.slice y S.size c) S (numB s.data.toList * numB t.data.toList) ∧ Below w.heap.size w w' :=
  (nMul_any x y cx cy s t w hS hT hs ht).mono fun _ _ h => numOk_ex h
/-- What Sub answers. -/
def SubIs (w' : World) (A B : Nat) (l : Nat) (g : Int) (y : Option Addr) (c : Nat) : Prop := if A < B then l = 0 ∧ g = 2 else g = 0 ∧ ∃ S, S.size = l ∧ NumAt w' (.slice y l c) S (A - B)
theorem nSubS (x y : Option Addr) (cx cy : Nat) (s t : ByteArray) (w : World) (hS : IsBytes w (.slice x s.size cx) s) (hT : IsBytes w (.slice y t.size cy) t) (hs : s.size ≤ 1024) (ht : t.size ≤ 1024) :
    Calls Try.prog 15 #[.slice x s.size cx, .slice y t.size cy] w fun e w' => ∃ (y : Option Addr) (l c : Nat) (g : Int), e = .returned (.tuple #[.slice y l c, .int .i64 g]) ∧ Hid (SubIs w' (numB s.data.toList) (numB t.data.toList) l g y c) ∧ Below w.heap.size w w' := by
  by_cases h : numB s.data.toList < numB t.data.toList
  · refine (nSub_less x y cx cy s t w hS hT hs ht h).mono ?_
    rintro e w' ⟨rfl, hb⟩
    exact ⟨none, 0, 0, 2, rfl, by unfold Hid SubIs; rw [if_pos h]; exact ⟨rfl, rfl⟩, hb⟩
  · refine (nSub_any x y cx cy s t w hS hT hs ht (by omega)).mono ?_
    intro e w' hn
    obtain ⟨S, y, c, rfl, h1, h2⟩ := numOk_ex hn
    exact ⟨y, S.size, c, 0, rfl, by unfold Hid SubIs; rw [if_neg h]; exact ⟨rfl, S, rfl, h1⟩, h2⟩
theorem nTrimS (x : Option Addr) (cx : Nat) (s : ByteArray) (w : World) (hS : IsBytes w (.slice x s.size cx) s) (hs : s.size ≤ 1000000) :
    Calls Try.prog 21 #[.slice x s.size cx] w fun e w' => ∃ S y c, e = .returned (.slice y S.size c) ∧ NumAt w' (.slice y S.size c) S (numB s.data.toList) ∧ Below w.heap.size w w' := by
  refine (nTrim_any x cx s w hS hs).mono ?_
  rintro e w' ⟨v, rfl, ho, hb⟩
  have e1 : (⟨(bareL s.data.toList).toArray⟩ : ByteArray).size = (bareL s.data.toList).length := size_of_list _
  have hI : IsBytes w' v ⟨(bareL s.data.toList).toArray⟩ := own_bytes (base := w.heap.size) (by rw [e1]; exact ho)
  obtain ⟨y, c, rfl, _⟩ := id hI
  exact ⟨_, y, c, rfl, ⟨hI, bare_bare _, numB_bare _⟩, hb⟩
theorem nCmpS (x y : Option Addr) (cx cy : Nat) (s t : ByteArray) (w : World) (hS : IsBytes w (.slice x s.size cx) s) (hT : IsBytes w (.slice y t.size cy) t) (hs : s.size ≤ 1000000) (ht : t.size ≤ 1000000) :
    Calls Try.prog 19 #[.slice x s.size cx, .slice y t.size cy] w fun e w' => e = .returned (.int .i64 (cmpN (numB s.data.toList) (numB t.data.toList))) ∧ w' = w := by
  rw [← cmpL_num]
  exact nCmp_any x y cx cy s t w hS hT hs ht
theorem lnSameS (n N : Nat) (y : Option Addr) (c : Nat) (d : Value) (S : ByteArray) (w : World) (hS : NumAt w (.slice y S.size c) S N) (hd : IsD n w d N) (hn : n ≤ 1000000) :
    Calls Try.prog 16 #[.slice y S.size c, d] w fun e w' => e = .returned (.bool true) ∧ Below w.heap.size w w' := lnSame_any n N y c d S w hS.1 hd hS.2 hn
/-- A copy of bytes. -/
theorem own_copy {w : World} {base : Nat} {v : Value} {s : ByteArray} (h : w.ownsRow base 5 1 v (cat ByteArray.empty s).size (byteVals (cat ByteArray.empty s))) : ∃ y c, v = .slice y s.size c ∧ IsBytes w (.slice y s.size c) s := by
  rw [cat_empty] at h
  have hI := own_bytes h
  obtain ⟨y, c, rfl, _⟩ := id hI
  exact ⟨y, c, rfl, hI⟩
end Go.Proofs.Ythfgbcpppamboaa
