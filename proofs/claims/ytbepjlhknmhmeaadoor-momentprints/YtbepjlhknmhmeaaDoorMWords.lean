/-
  Package chars: Words and Collapse (layer 1's, over GPlain, Gen, HGen and GRune).
-/
import Derived.Test.YtbepjlhknmhmeaaDoorHGen
import Derived.Test.YtbepjlhknmhmeaaDoorGRune
import Derived.Test.YtbepjlhknmhmeaaDoorShelf
import Derived.WalkKit
import Derived.WalkSpells
import Derived.WalkLawsBesides
import Derived.Deep.RegionLawGrows
import Derived.Deep.AppendLies
import Derived.OwnWalk
import Derived.Lib.Join
import Derived.Lib.Strings
import Derived.Lib.RabinKarpLaws
import Derived.Laws.RangeAny
namespace Go.Proofs.YtbepjlhknmhmeaaDoor
open Go.RowKit Ch
set_option maxRecDepth 100000

set_option maxHeartbeats 400000 in
theorem cBlank_any (r : Int) (w : World) :
    Calls Tryd.prog 56 #[.int .i32 r] w fun e w' => e = .returned (.bool (blankB r)) ∧ w' = w := by
  by_cases h1 : r = 32
  · subst h1
    go_enter Tryd.func56, Tryd.ntmps56
    go_wp2
    go_ret
    exact ⟨rfl, rfl⟩
  by_cases h2 : r = 9
  · subst h2
    go_enter Tryd.func56, Tryd.ntmps56
    go_wp2
    go_ret
    exact ⟨rfl, rfl⟩
  by_cases h3 : r = 10
  · subst h3
    go_enter Tryd.func56, Tryd.ntmps56
    go_wp2
    go_ret
    exact ⟨rfl, rfl⟩
  by_cases h4 : r = 13
  · subst h4
    go_enter Tryd.func56, Tryd.ntmps56
    go_wp2
    go_ret
    exact ⟨rfl, rfl⟩
  have e1 : (r == 32) = false := beq_eq_false_iff_ne.2 h1
  have e2 : (r == 9) = false := beq_eq_false_iff_ne.2 h2
  have e3 : (r == 10) = false := beq_eq_false_iff_ne.2 h3
  have e4 : (r == 13) = false := beq_eq_false_iff_ne.2 h4
  have hf : Hid (blankB r = false) := decide_eq_false (by omega)
  go_enter Tryd.func56, Tryd.ntmps56
  go_wp2
  go_ret
  exact ⟨ret_bool hf.out.symm, rfl⟩

theorem sClone_any (s : ByteArray) (w : World) (hs : s.size ≤ 1000000) :
    Calls Tryd.prog 55 #[.string s] w fun e w' => e = .returned (.string s) ∧ Below w.heap.size w w' := by
  go_enter Tryd.func55, Tryd.ntmps55
  go_wp2_with (go_at_call 69; refine (Tryd.stringslite_Clone _ _ (by omega)).mono ?_)
  rintro e w' ⟨rfl, hb⟩
  go_wp2
  go_ret
  exact ⟨rfl, hb⟩

theorem info9 : ∃ i, Tryd.prog.info? 9 = some i ∧ i.zero = some (.string ⟨#[]⟩) ∧ i.size = 1 ∧ i.bytes = 16 := info_parts (by kernel_rfl)

/-- The variables of Words: the text, the words so far, where the piece begins; one block behind them is the iterator. -/
structure WS (B : Nat) (s : ByteArray) (v : Value) (start : Nat) (w : World) : Prop where
  cS : w.cell? ⟨B, 0, none⟩ = some (.string s)
  cW : w.cell? ⟨B + 1, 0, none⟩ = some v
  cN : w.cell? ⟨B + 1 + 1, 0, none⟩ = some (.int .i64 (start : Int))
  fW : w.frozen? ⟨B + 1, 0, none⟩ = false
  fN : w.frozen? ⟨B + 1 + 1, 0, none⟩ = false
  sz : B + 3 < w.heap.size

set_option maxHeartbeats 400000 in
theorem end_skip (B at_ start : Nat) (s : ByteArray) (v : Value) (w : World) (hat : at_ ≤ 1000000) (hws : WS B s v start w) (h : ¬ start < at_) :
    Calls Tryd.prog 54 #[.int .i64 (at_ : Int), .pointer (some ⟨B + 1 + 1, 0, none⟩), .pointer (some ⟨B + 1, 0, none⟩), .pointer (some ⟨B, 0, none⟩)] w
      fun e w' => e = .returned (.tuple #[]) ∧ w' = w.setCell ⟨B + 1 + 1, 0, none⟩ (.int .i64 ((at_ : Int) + 1)) := by
  obtain ⟨cS, cW, cN, fW, fN, sz⟩ := hws
  go_enter Tryd.func54, Tryd.ntmps54
  go_wp2
  go_end0
  exact ⟨rfl, rfl⟩

/-- What is behind the call. -/
def EndPost (B : Nat) (s : ByteArray) (w : World) (start : Nat) (ys : List Value) (w' : World) : Prop :=
  ∃ v', WS B s v' start w' ∧ w'.ownsRow (B + 4) 9 1 v' ys.length ys ∧ Below (B + 1) w w' ∧ w'.heap[B + 3]? = w.heap[B + 3]?

theorem WS.later {B start : Nat} {s : ByteArray} {v : Value} {w w' : World} (h : WS B s v start w) {C : Nat} (hC : B + 3 ≤ C) (hb : Below C w w') : WS B s v start w' :=
  ⟨(hb.cell (p := ⟨B, 0, none⟩) (by show B < C; omega)).trans h.cS, (hb.cell (p := ⟨B + 1, 0, none⟩) (by show B + 1 < C; omega)).trans h.cW, (hb.cell (p := ⟨B + 1 + 1, 0, none⟩) (by show B + 1 + 1 < C; omega)).trans h.cN,
    (hb.frozen (p := ⟨B + 1, 0, none⟩) (by show B + 1 < C; omega)).trans h.fW, (hb.frozen (p := ⟨B + 1 + 1, 0, none⟩) (by show B + 1 + 1 < C; omega)).trans h.fN, Nat.lt_of_lt_of_le h.sz hb.size⟩

theorem WS.setN {B start : Nat} {s : ByteArray} {v : Value} {w : World} (h : WS B s v start w) (n : Nat) : WS B s v n (w.setCell ⟨B + 1 + 1, 0, none⟩ (.int .i64 (n : Int))) :=
  ⟨(World.cell?_setCell_other _ _ _ _ (by simp)).trans h.cS, (World.cell?_setCell_other _ _ _ _ (by simp)).trans h.cW, World.cell?_setCell_same _ _ _ h.cN,
    (World.frozen?_setCell _ _ _ _).trans h.fW, (World.frozen?_setCell _ _ _ _).trans h.fN, by rw [setCell_size]; exact h.sz⟩
theorem WS.setW {B start : Nat} {s : ByteArray} {v : Value} {w : World} (h : WS B s v start w) (v' : Value) : WS B s v' start (w.setCell ⟨B + 1, 0, none⟩ v') :=
  ⟨(World.cell?_setCell_other _ _ _ _ (by simp)).trans h.cS, World.cell?_setCell_same _ _ _ h.cW, (World.cell?_setCell_other _ _ _ _ (by simp)).trans h.cN,
    (World.frozen?_setCell _ _ _ _).trans h.fW, (World.frozen?_setCell _ _ _ _).trans h.fN, by rw [setCell_size]; exact h.sz⟩

theorem end_post {B at_ start : Nat} {s : ByteArray} {v v2 : Value} {ys : List Value} {w w2 : World} (hws : WS B s v start w) (hb : Below (B + 4) w w2) (hown : w2.ownsRow (B + 4) 9 1 v2 ys.length ys) :
    EndPost B s w (at_ + 1) ys ((w2.setCell ⟨B + 1, 0, none⟩ v2).setCell ⟨B + 1 + 1, 0, none⟩ (.int .i64 ((at_ : Int) + 1))) := by
  refine ⟨v2, ((hws.later (by omega) hb).setW v2).setN (at_ + 1), ownsRow_setCell_below (ownsRow_setCell_below hown (a := ⟨B + 1, 0, none⟩) (by show B + 1 < B + 4; omega) _) (a := ⟨B + 1 + 1, 0, none⟩) (by show B + 1 + 1 < B + 4; omega) _, ?_, ?_⟩
  · exact ((hb.mono (B' := B + 1) (by omega)).setCell (p := ⟨B + 1, 0, none⟩) (Nat.le_refl _) _).setCell (p := ⟨B + 1 + 1, 0, none⟩) (by show B + 1 ≤ B + 1 + 1; omega) _
  · rw [Below.heap_setCell _ _ _ _ (by show B + 3 ≠ B + 1 + 1; omega), Below.heap_setCell _ _ _ _ (by show B + 3 ≠ B + 1; omega)]
    exact hb.block (B + 3) (by omega)

theorem WS.clone {B start : Nat} {s : ByteArray} {v : Value} {w w1 : World} (h : WS B s v start w) (hb : Below w.heap.size w.drew w1) :
    w1.cell? ⟨B + 1, 0, none⟩ = some v ∧ (∀ o, (w1.alloc o).cell? ⟨B + 1, 0, none⟩ = some v) ∧ B + 3 < w1.heap.size ∧ Below w.heap.size w w1 := by
  have hb' : Below w.heap.size w w1 := (Below.refl _ w).drew.trans hb
  have h' := h.later (by have := h.sz; omega) hb'
  have h2 := h.sz
  have h3 := hb.size
  exact ⟨h'.cW, fun o => (h.later (C := B + 3) (by omega) ((hb'.mono (by omega)).alloc (by simp at h3; omega) o)).cW, h'.sz, hb'⟩

theorem WS.append {B start : Nat} {s : ByteArray} {v : Value} {w w1 w2 : World} {xs : List Value} {o : Obj} (h : WS B s v start w) (ho : w.ownsRow (B + 4) 9 1 v xs.length xs) (hb : Below w.heap.size w w1) (hg : (w1.alloc o).grownBy w2 v.ownBlock) :
    Below (B + 4) w w2 ∧ w2.cell? ⟨B + 1, 0, none⟩ = some v ∧ w2.frozen? ⟨B + 1, 0, none⟩ = false ∧ w2.cell? ⟨B + 1 + 1, 0, none⟩ = some (.int .i64 (start : Int)) ∧ w2.frozen? ⟨B + 1 + 1, 0, none⟩ = false := by
  have h0 := h.sz
  have h1 := hb.size
  have hB : Below (B + 4) w w2 := ((hb.mono (B' := B + 4) (by omega)).alloc (by omega) o).grown hg (by simp; omega) (own_ge ho)
  have h' := h.later (by omega) hB
  exact ⟨hB, h'.cW, h'.fW, h'.cN, h'.fN⟩


set_option maxHeartbeats 2000000 in
theorem end_add (B at_ start : Nat) (s : ByteArray) (v : Value) (xs : List Value) (w : World) (hat : at_ ≤ s.size) (hs : s.size ≤ 1000000) (hx : xs.length ≤ 1000000) (hws : WS B s v start w) (hown : w.ownsRow (B + 4) 9 1 v xs.length xs) (h : start < at_) :
    Calls Tryd.prog 54 #[.int .i64 (at_ : Int), .pointer (some ⟨B + 1 + 1, 0, none⟩), .pointer (some ⟨B + 1, 0, none⟩), .pointer (some ⟨B, 0, none⟩)] w
      fun e w' => e = .returned (.tuple #[]) ∧ EndPost B s w (at_ + 1) (xs ++ [.string (s.extract start at_)]) w' := by
  obtain ⟨i0, hi, hz0, hz1, hz2⟩ := info9
  have h' : start ≤ at_ := by omega
  have HW : Hid (WS B s v start w) := hws
  have HO : Hid (w.ownsRow (B + 4) 9 1 v xs.length xs) := hown
  obtain ⟨cS, cW, cN, fW, fN, sz⟩ := hws
  clear hown
  go_enter Tryd.func54, Tryd.ntmps54
  go_wp2_with fail
  go_region_law (first
    | (refine step_append_lies _ rfl (.tmp 8) (.tmp 14) 56 rfl (B + 4) 9 i0 (.string ⟨#[]⟩) 1 16 Tryd.underlying56 hi hz0 hz1 hz2 rfl (by decide) v xs.length xs (by simp [Act.eval]) ((ownsRow_later HO.out HB.out).alloc _) ⟨w1.heap.size, 0, none⟩ 1 1 [.string (s.extract start at_)] (by simp [Act.eval]) rfl (cell_one_new _ _ _) (by intro u hu; simp at hu; subst hu; rfl) (by decide) (by unfold maxLen; omega) (by omega) (by simp; omega) _ rfl ?_
       intro g cap w2 hown2 hgrow _ _
       have HO2 : Hid (w2.ownsRow (B + 4) 9 1 (.slice (some ⟨g, 0, none⟩) (xs.length + 1) cap) (xs.length + 1) (xs ++ [.string (s.extract start at_)])) := hown2
       obtain ⟨k4, k5, k6, k7, k8⟩ := HW.out.append HO.out HB.out hgrow
       have HB2 : Hid (Below (B + 4) w w2) := k4
       clear hown2 hgrow k4)
    | (go_simp
       go_wp2_with (go_at_call 55; refine (sClone_any _ _ (by simp; omega)).mono ?_)
       rintro e w1 ⟨rfl, hb1⟩
       obtain ⟨k1, k2, k3, k4⟩ := HW.out.clone hb1
       have HB : Hid (Below w.heap.size w w1) := k4
       clear hb1 k4))
  all_goals
    go_wp2
    go_end0
    exact ⟨rfl, end_post HW.out HB2.out (by simpa using HO2.out)⟩
theorem ownsRow_iter {w : World} {base : Nat} {e : TypeId} {size n : Nat} {v : Value} {xs : List Value} (h : w.ownsRow base e size v n xs) {k : Nat} (hk : k < base) (s : ByteArray) (p : Nat) : (w.iterAt k s p).ownsRow base e size v n xs := by
  obtain ⟨h1, h2⟩ := h
  refine ⟨h1, ?_⟩
  rcases h2 with h2 | ⟨g, cap, cur, hv, hg, hh, r⟩
  · exact .inl h2
  · exact .inr ⟨g, cap, cur, hv, hg, (Lib.iterAt_other w k g s p (by omega)).trans hh, r⟩
theorem ownsRow_low {w : World} {base base' : Nat} {e : TypeId} {size n : Nat} {v : Value} {xs : List Value} (h : w.ownsRow base e size v n xs) (hb : base' ≤ base) : w.ownsRow base' e size v n xs := by
  obtain ⟨h1, h2⟩ := h
  refine ⟨h1, ?_⟩
  rcases h2 with h2 | ⟨g, cap, cur, hv, hg, r⟩
  · exact .inl h2
  · exact .inr ⟨g, cap, cur, hv, Nat.le_trans hb hg, r⟩

theorem WS.init (w : World) (s : ByteArray) : WS w.heap.size s (.slice none 0 0) 0 ((((w.alloc (.cells #[.string s] 9)).alloc (.cells #[.slice none 0 0] 56)).alloc (.cells #[.int .i64 0] 3)).iter s 0) := by
  have z1 : (w.alloc (.cells #[.string s] 9)).heap.size = w.heap.size + 1 := by simp
  have z2 : ((w.alloc (.cells #[.string s] 9)).alloc (.cells #[.slice none 0 0] 56)).heap.size = w.heap.size + 1 + 1 := by simp
  have z3 : (((w.alloc (.cells #[.string s] 9)).alloc (.cells #[.slice none 0 0] 56)).alloc (.cells #[.int .i64 0] 3)).heap.size = w.heap.size + 1 + 1 + 1 := by simp
  have b0 : ((((w.alloc (.cells #[.string s] 9)).alloc (.cells #[.slice none 0 0] 56)).alloc (.cells #[.int .i64 0] 3)).iter s 0).heap[w.heap.size]? = some (.cells #[.string s] 9 (0, 0)) :=
    (heap_push_old _ _ (by rw [z3]; omega)).trans ((heap_push_old _ _ (by rw [z2]; omega)).trans ((heap_push_old _ _ (by rw [z1]; omega)).trans (heap_push_at w _)))
  have b1 : ((((w.alloc (.cells #[.string s] 9)).alloc (.cells #[.slice none 0 0] 56)).alloc (.cells #[.int .i64 0] 3)).iter s 0).heap[w.heap.size + 1]? = some (.cells #[.slice none 0 0] 56 (0, 0)) := by
    refine (heap_push_old _ _ (by rw [z3]; omega)).trans ((heap_push_old _ _ (by rw [z2]; omega)).trans ?_)
    rw [← z1]
    exact heap_push_at _ _
  have b2 : ((((w.alloc (.cells #[.string s] 9)).alloc (.cells #[.slice none 0 0] 56)).alloc (.cells #[.int .i64 0] 3)).iter s 0).heap[w.heap.size + 1 + 1]? = some (.cells #[.int .i64 0] 3 (0, 0)) := by
    refine (heap_push_old _ _ (by rw [z3]; omega)).trans ?_
    rw [← z2]
    exact heap_push_at _ _
  exact ⟨(cell_of_block b0).1, (cell_of_block b1).1, (cell_of_block b2).1, (cell_of_block b1).2, (cell_of_block b2).2, by show w.heap.size + 3 < (World.alloc _ _).heap.size; simp⟩

theorem strs_snoc (ws : List (List UInt8)) (s : ByteArray) (a b : Nat) : strs ws ++ [.string (s.extract a b)] = strs (ws ++ [seg s a b]) := by
  rw [extract_seg]; simp [strs]
theorem strs_length (ws : List (List UInt8)) : (strs ws).length = ws.length := by simp [strs]

/-- One more piece, or none. -/
theorem end_any (B at_ start : Nat) (s : ByteArray) (v : Value) (ws : List (List UInt8)) (w : World) (hat : at_ ≤ s.size) (hs : s.size ≤ 1000000) (hx : ws.length ≤ 1000000) (hws : WS B s v start w) (hown : w.ownsRow (B + 4) 9 1 v (strs ws).length (strs ws)) :
    Calls Tryd.prog 54 #[.int .i64 (at_ : Int), .pointer (some ⟨B + 1 + 1, 0, none⟩), .pointer (some ⟨B + 1, 0, none⟩), .pointer (some ⟨B, 0, none⟩)] w
      fun e w' => e = .returned (.tuple #[]) ∧ EndPost B s w (at_ + 1) (strs (ws ++ flush (seg s start at_))) w' := by
  by_cases h : start < at_
  · refine (end_add B at_ start s v (strs ws) w hat hs (by rw [strs_length]; exact hx) hws hown h).mono ?_
    rintro e w' ⟨rfl, hp⟩
    rw [flush_some h hat, ← strs_snoc]
    exact ⟨rfl, hp⟩
  · refine (end_skip B at_ start s v w (by omega) hws h).mono ?_
    rintro e w' ⟨rfl, rfl⟩
    refine ⟨rfl, v, hws.setN (at_ + 1), ?_, (Below.refl _ w).setCell (p := ⟨B + 1 + 1, 0, none⟩) (by show B + 1 ≤ B + 1 + 1; omega) _, Below.heap_setCell _ _ _ _ (by show B + 3 ≠ B + 1 + 1; omega)⟩
    rw [flush_none h, List.append_nil]
    exact ownsRow_setCell_below hown (a := ⟨B + 1 + 1, 0, none⟩) (by show B + 1 + 1 < B + 4; omega) _

theorem strs_wordsB (s : ByteArray) : strs (words s.data.toList) = (wordsB s).map Value.string := by
  simp [strs, wordsB]

set_option maxHeartbeats 1000000 in
theorem cWords_any (s : ByteArray) (w : World) (hs : s.size ≤ 1000000) :
    Calls Tryd.prog 41 #[.string s] w fun e w' => ∃ v, e = .returned v ∧ w'.ownsRow w.heap.size 9 1 v (wordsB s).length ((wordsB s).map Value.string) ∧ Below w.heap.size w w' := by
  go_enter Tryd.func41, Tryd.ntmps41
  go_wp2_with fail
  go_loopw [] (fun wr => ∃ (pos start : Nat) (ws : List (List UInt8)) (v : Value), wr.heap[w.heap.size + 3]? = some (.stringIter s pos) ∧ WS w.heap.size s v start wr ∧ wr.ownsRow (w.heap.size + 4) 9 1 v (strs ws).length (strs ws) ∧ Below w.heap.size w wr ∧ Hid (ws ++ wordsFrom (seg s start pos) (s.data.toList.drop pos) = words s.data.toList) ∧ start ≤ pos ∧ pos ≤ s.size ∧ ws.length ≤ pos) (fun wr => s.size - wr.iterPos (w.heap.size + 3))
  case atStart =>
    refine ⟨0, 0, [], .slice none 0 0, ?_, ?_, World.ownsRow_nil _ _ _ _, ?_, words_start s, Nat.le_refl _, Nat.zero_le _, Nat.le_refl _⟩
    · have := World.iter_heap (((w.alloc (.cells #[.string s] 9)).alloc (.cells #[.slice none 0 0] 56)).alloc (.cells #[.int .i64 0] 3)) s 0
      simpa using this
    · exact WS.init w s
    · exact ((((Below.refl _ w).alloc (Nat.le_refl _) _).alloc (by simp) _).alloc (by simp; omega) _).alloc (by simp; omega) _
  case round =>
    obtain ⟨pos, start, ws, v, hit, hws, hown, hb, hW, hsp, hps, hwl⟩ := hrel
    by_cases hp : pos < s.size
    · have hnx : ∀ ty, (Instr.next (.pointer (some ⟨w.heap.size + 3, 0, none⟩)) true ty).run Tryd.prog wr = _ := fun ty => Lib.run_next_any_at wr (w.heap.size + 3) s pos ty hit hp
      obtain ⟨c, n, hd, hn0, hpn, hc, hcase⟩ := rune_cases s pos hp
      simp only [hd] at hnx
      have hit2 := Lib.iterAt_heap wr (w.heap.size + 3) s pos (pos + n) hit
      have hws2 := hws.later (Nat.le_refl _) (Lib.below_iterAt (Below.refl (w.heap.size + 3) wr) (Nat.le_refl _) s (pos + n))
      have hown2 := ownsRow_iter hown (show w.heap.size + 3 < w.heap.size + 4 by omega) s (pos + n)
      have hb2 := Lib.below_iterAt hb (show w.heap.size ≤ w.heap.size + 3 by omega) s (pos + n)
      have HW2 : Hid (WS w.heap.size s v start (wr.iterAt (w.heap.size + 3) s (pos + n))) := hws2
      clear hws2 hws hown hb hd
      by_cases hbl : blankB (c : Int) = true
      · have hcn : n = 1 ∧ c = byte s pos := by
          rcases hcase with ⟨h1, h2, _⟩ | ⟨h1, _⟩
          · exact ⟨h1, h2⟩
          · rw [blank_high h1] at hbl; cases hbl
        have hW2 : Hid ((ws ++ flush (seg s start pos)) ++ wordsFrom (seg s (pos + 1) (pos + 1)) (s.data.toList.drop (pos + 1)) = words s.data.toList) := by
          have := hW.out
          rw [words_blank hp (by rw [← hcn.2]; exact hbl)] at this
          rw [← List.append_assoc] at this
          exact this
        have hfl : (flush (seg s start pos)).length ≤ 1 := by unfold flush; split <;> simp
        obtain ⟨hn1, hcb⟩ := hcn
        subst hn1
        clear hcase hW hcb
        go_wp2_with (go_at_call 56; refine (cBlank_any _ _).mono ?_; rintro e w' ⟨rfl, rfl⟩)
        refine (end_any w.heap.size pos start s v ws _ hps hs (by omega) HW2.out hown2).mono ?_
        rintro e W3 ⟨rfl, v3, ws3, own3, b3, i3⟩
        have HW3 : Hid (WS w.heap.size s v3 (pos + 1) W3) := ws3
        clear ws3
        go_wp2_with fail
        go_roundw
        case rel => exact ⟨pos + 1, pos + 1, ws ++ flush (seg s start pos), v3, i3.trans hit2, HW3.out, own3, hb2.trans (b3.mono (by omega)), hW2, Nat.le_refl _, hpn, by rw [List.length_append]; omega⟩
        case measure =>
          simp only [World.iterPos, i3.trans hit2, hit]
          omega
      · have hbl : blankB (c : Int) = false := Bool.eq_false_iff.2 hbl
        have hW2 : Hid (ws ++ wordsFrom (seg s start (pos + n)) (s.data.toList.drop (pos + n)) = words s.data.toList) := by
          have := hW.out
          rw [words_step (n := n) hsp] at this
          · exact this
          · intro k hk
            rcases hcase with ⟨h1, h2, _⟩ | ⟨_, h2⟩
            · obtain rfl : k = 0 := by omega
              rw [Nat.add_zero, ← h2]; exact hbl
            · exact blank_high (h2 k hk)
        clear hcase hW
        go_wp2_with (go_at_call 56; refine (cBlank_any _ _).mono ?_; rintro e w' ⟨rfl, rfl⟩)
        go_roundw
        case rel => exact ⟨pos + n, start, ws, v, hit2, HW2.out, hown2, hb2, hW2, by omega, hpn, by omega⟩
        case measure =>
          simp only [World.iterPos, hit2, hit]
          omega
    · have hnx : ∀ ty, (Instr.next (.pointer (some ⟨w.heap.size + 3, 0, none⟩)) true ty).run Tryd.prog wr = _ := fun ty => Lib.run_next_end_at wr (w.heap.size + 3) s pos ty hit hp
      obtain rfl : pos = s.size := by omega
      have hW2 : Hid (ws ++ flush (seg s start s.size) = words s.data.toList) := by
        have := hW.out
        rw [words_end] at this
        exact this
      have cS := hws.cS
      have HW2 : Hid (WS w.heap.size s v start wr) := hws
      clear hW hws
      go_wp2_with fail
      refine (end_any w.heap.size s.size start s v ws _ (Nat.le_refl _) hs (by omega) HW2.out hown).mono ?_
      rintro e W3 ⟨rfl, v3, ws3, own3, b3, i3⟩
      have cW := ws3.cW
      clear ws3
      go_wp2_with fail
      go_ret
      refine ⟨v3, rfl, ?_, hb.trans (b3.mono (by omega))⟩
      rw [hW2.out, strs_wordsB] at own3
      have own4 := ownsRow_low own3 (show w.heap.size ≤ w.heap.size + 4 by omega)
      simpa using own4
def total (ws : List (List UInt8)) : Nat := (ws.map fun x => x.length + 1).sum
theorem total_append (a b : List (List UInt8)) : total (a ++ b) = total a + total b := by simp [total]
theorem total_flush (cur : List UInt8) : total (flush cur) ≤ cur.length + 1 := by
  unfold flush; split <;> simp [total]
theorem total_le : ∀ (l cur : List UInt8), total (wordsFrom cur l) ≤ cur.length + l.length + 1
  | [], cur => total_flush cur
  | c :: r, cur => by
    rw [wordsFrom]
    split
    · rw [total_append]
      have h1 := total_flush cur
      have h2 := total_le r []
      simp at h2 ⊢
      omega
    · have h := total_le r (cur ++ [c])
      simp at h ⊢
      omega
theorem total_lens (ws : List (List UInt8)) : total ws = Lib.lens ws + ws.length := by
  induction ws with
  | nil => rfl
  | cons x r ih =>
    simp only [total, Lib.lens, List.map_cons, List.sum_cons, List.length_cons] at ih ⊢
    omega
theorem join_le (ws : List (List UInt8)) : (Lib.join ws [32]).length ≤ total ws := by
  cases ws with
  | nil => simp [Lib.join_nil]
  | cons x r =>
    rw [Lib.join_cons, List.length_append, Lib.joinTail_length, total_lens]
    simp only [Lib.lens, List.map_cons, List.sum_cons, List.length_cons, List.length_nil]
    omega
theorem length_total (ws : List (List UInt8)) : ws.length ≤ total ws := by rw [total_lens]; omega

/-- The collapsed text. -/
def collapse (l : List UInt8) : List UInt8 := Lib.join (words l) [32]

theorem words_total (s : ByteArray) : total (words s.data.toList) ≤ s.size + 1 := by
  have := total_le s.data.toList []
  rw [len_eq] at this
  unfold words
  simpa using this
theorem wordsB_lists (s : ByteArray) : (wordsB s).map (fun x => x.data.toList) = words s.data.toList := by
  unfold wordsB
  rw [List.map_map]
  conv => rhs; rw [← List.map_id (words s.data.toList)]
  apply List.map_congr_left
  intro x _
  simp
theorem wordsB_length (s : ByteArray) : (wordsB s).length = (words s.data.toList).length := by simp [wordsB]
theorem collapse_le (s : ByteArray) : (collapse s.data.toList).length ≤ s.size + 1 := Nat.le_trans (join_le _) (words_total s)

/-- A value that owns texts: nil, or a slice whose cells hold them. -/
theorem own_cells {w : World} {base : Nat} {v : Value} {l : List ByteArray} (h : w.ownsRow base 9 1 v l.length (l.map Value.string)) :
    (v = .slice none 0 0 ∧ l = []) ∨ ∃ g cap, v = .slice (some ⟨g, 0, none⟩) l.length cap ∧ base ≤ g ∧ g < w.heap.size ∧ l.length ≤ cap ∧ ∀ (j : Nat) x, l[j]? = some x → w.cell? ⟨g, 0 + j, none⟩ = some (.string x) := by
  have hc := fun g (hg : v.ownBlock = some g) => World.ownsRow.cells h hg
  rcases h.2 with ⟨hv, h0⟩ | ⟨g, cap, cur, hv, hb, hh, hcap, _⟩
  · exact .inl ⟨hv, List.eq_nil_of_length_eq_zero h0⟩
  · refine .inr ⟨g, cap, hv, hb, (Array.getElem?_eq_some_iff.1 hh).1, hcap, ?_⟩
    intro j x hj
    have := hc g (by rw [hv]; rfl) j (.string x) (by rw [List.getElem?_map, hj]; rfl)
    have e : (⟨g, 0, none⟩ : Addr).add j = ⟨g, 0 + j, none⟩ := by unfold Addr.add; split <;> simp_all
    rw [e] at this
    exact this
theorem join_own (v : Value) (l : List ByteArray) (base : Nat) (w : World) (h : w.ownsRow base 9 1 v l.length (l.map Value.string)) (hl : l.length ≤ 140737488355328) (hj : (Lib.join (l.map (·.data.toList)) [32]).length ≤ 140737488355328) :
    Calls Tryd.prog 40 #[v, .string ⟨#[32]⟩] w fun e w' => e = .returned (.string ⟨(Lib.join (l.map (·.data.toList)) [32]).toArray⟩) ∧ Below w.heap.size w w' := by
  rcases own_cells h with ⟨rfl, rfl⟩ | ⟨g, cap, rfl, _, hlt, hcap, hc⟩
  · refine (Tryd.strings_Join_none none 0 ⟨#[32]⟩ w).mono ?_
    rintro e w' ⟨rfl, rfl⟩
    exact ⟨rfl, Below.refl _ _⟩
  · exact Tryd.strings_Join g 0 cap l ⟨#[32]⟩ w hc hlt hl hcap hj

set_option maxHeartbeats 400000 in
theorem cCollapse_any (s : ByteArray) (w : World) (hs : s.size ≤ 1000000) :
    Calls Tryd.prog 27 #[.string s] w fun e w' => e = .returned (.string ⟨(collapse s.data.toList).toArray⟩) ∧ Below w.heap.size w w' := by
  have h1 := words_total s
  have h2 := length_total (words s.data.toList)
  have h3 := collapse_le s
  go_enter Tryd.func27, Tryd.ntmps27
  go_wp2_with (go_at_call 41; refine (cWords_any s _ hs).mono ?_)
  rintro e w1 ⟨v, rfl, own1, b1⟩
  go_wp2_with fail
  refine (join_own v (wordsB s) _ w1 own1 (by rw [wordsB_length]; omega) (by rw [wordsB_lists]; exact Nat.le_trans h3 (by omega))).mono ?_
  rintro e w2 ⟨rfl, b2⟩
  go_wp2_with fail
  go_ret
  refine ⟨?_, b1.trans (b2.mono b1.size)⟩
  rw [wordsB_lists]
  rfl
end Go.Proofs.YtbepjlhknmhmeaaDoor
