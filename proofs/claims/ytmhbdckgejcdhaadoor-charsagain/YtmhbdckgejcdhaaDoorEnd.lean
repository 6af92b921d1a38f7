/-
  What the function within Words does: at a blank, or at the end, the piece from the start on is laid by, if it isn't empty.
-/
import Derived.Test.YtmhbdckgejcdhaaDoorRBad
import Derived.Deep.RegionLawGrows
import Derived.Deep.AppendLies
import Derived.OwnWalk
namespace Go.Proofs.YtmhbdckgejcdhaaDoor
open Go.RowKit Ch

theorem sClone_any (s : ByteArray) (w : World) (hs : s.size ≤ 1000000) :
    Calls Tryd.prog 35 #[.string s] w fun e w' => e = .returned (.string s) ∧ Below w.heap.size w w' := by
  go_enter Tryd.func35, Tryd.ntmps35
  go_wp2_with (go_at_call 42; refine (Tryd.stringslite_Clone _ _ (by omega)).mono ?_)
  rintro e w' ⟨rfl, hb⟩
  go_wp2
  go_ret
  exact ⟨rfl, hb⟩

theorem info9 : ∃ i, Tryd.prog.info? 9 = some i ∧ i.zero = some (.string ⟨#[]⟩) ∧ i.size = 1 ∧ i.bytes = 16 := info_parts (by kernel_rfl)

/-- The variables of Words: the text, the words so far, where the piece begins; one block behind them is the iterator. -/
structure WS (B : Nat) (s : ByteArray) (v : Value) (start : Nat) (w : World) : Prop where
  cS : w.cell? ⟨B, 0, none⟩ = some (.string s)
  cW : w.cell? ⟨B + 1, 0, none⟩ = some v
  cN : w.cell? ⟨B + 1 + 1, 0, none⟩ = some (.int .i64 (start : Int))
  fW : w.frozen? ⟨B + 1, 0, none⟩ = false
  fN : w.frozen? ⟨B + 1 + 1, 0, none⟩ = false
  sz : B + 3 < w.heap.size

set_option maxHeartbeats 400000 in
theorem end_skip (B at_ start : Nat) (s : ByteArray) (v : Value) (w : World) (hat : at_ ≤ 1000000) (hws : WS B s v start w) (h : ¬ start < at_) :
    Calls Tryd.prog 34 #[.int .i64 (at_ : Int), .pointer (some ⟨B + 1 + 1, 0, none⟩), .pointer (some ⟨B + 1, 0, none⟩), .pointer (some ⟨B, 0, none⟩)] w
      fun e w' => e = .returned (.tuple #[]) ∧ w' = w.setCell ⟨B + 1 + 1, 0, none⟩ (.int .i64 ((at_ : Int) + 1)) := by
  obtain ⟨cS, cW, cN, fW, fN, sz⟩ := hws
  go_enter Tryd.func34, Tryd.ntmps34
  go_wp2
  go_end0
  exact ⟨rfl, rfl⟩

/-- What is behind the call. -/
def EndPost (B : Nat) (s : ByteArray) (w : World) (start : Nat) (ys : List Value) (w' : World) : Prop :=
  ∃ v', WS B s v' start w' ∧ w'.ownsRow (B + 4) 9 1 v' ys.length ys ∧ Below (B + 1) w w' ∧ w'.heap[B + 3]? = w.heap[B + 3]?

theorem ownsRow_later {w w' : World} {base : Nat} {e : TypeId} {size n : Nat} {v : Value} {xs : List Value} (h : w.ownsRow base e size v n xs) (hb : Below w.heap.size w w') : w'.ownsRow base e size v n xs := by
  obtain ⟨h1, h2⟩ := h
  refine ⟨h1, ?_⟩
  rcases h2 with h2 | ⟨g, cap, cur, hv, hg, hh, r⟩
  · exact .inl h2
  · exact .inr ⟨g, cap, cur, hv, hg, (hb.block g (Array.getElem?_eq_some_iff.1 hh).1).trans hh, r⟩

theorem WS.later {B start : Nat} {s : ByteArray} {v : Value} {w w' : World} (h : WS B s v start w) {C : Nat} (hC : B + 3 ≤ C) (hb : Below C w w') : WS B s v start w' :=
  ⟨(hb.cell (p := ⟨B, 0, none⟩) (by show B < C; omega)).trans h.cS, (hb.cell (p := ⟨B + 1, 0, none⟩) (by show B + 1 < C; omega)).trans h.cW, (hb.cell (p := ⟨B + 1 + 1, 0, none⟩) (by show B + 1 + 1 < C; omega)).trans h.cN,
    (hb.frozen (p := ⟨B + 1, 0, none⟩) (by show B + 1 < C; omega)).trans h.fW, (hb.frozen (p := ⟨B + 1 + 1, 0, none⟩) (by show B + 1 + 1 < C; omega)).trans h.fN, Nat.lt_of_lt_of_le h.sz hb.size⟩

theorem setCell_size (w : World) (a : Addr) (u : Value) : (w.setCell a u).heap.size = w.heap.size := by simp [World.setCell]

theorem WS.setN {B start : Nat} {s : ByteArray} {v : Value} {w : World} (h : WS B s v start w) (n : Nat) : WS B s v n (w.setCell ⟨B + 1 + 1, 0, none⟩ (.int .i64 (n : Int))) :=
  ⟨(World.cell?_setCell_other _ _ _ _ (by simp)).trans h.cS, (World.cell?_setCell_other _ _ _ _ (by simp)).trans h.cW, World.cell?_setCell_same _ _ _ h.cN,
    (World.frozen?_setCell _ _ _ _).trans h.fW, (World.frozen?_setCell _ _ _ _).trans h.fN, by rw [setCell_size]; exact h.sz⟩
theorem WS.setW {B start : Nat} {s : ByteArray} {v : Value} {w : World} (h : WS B s v start w) (v' : Value) : WS B s v' start (w.setCell ⟨B + 1, 0, none⟩ v') :=
  ⟨(World.cell?_setCell_other _ _ _ _ (by simp)).trans h.cS, World.cell?_setCell_same _ _ _ h.cW, (World.cell?_setCell_other _ _ _ _ (by simp)).trans h.cN,
    (World.frozen?_setCell _ _ _ _).trans h.fW, (World.frozen?_setCell _ _ _ _).trans h.fN, by rw [setCell_size]; exact h.sz⟩

theorem end_post {B at_ start : Nat} {s : ByteArray} {v v2 : Value} {ys : List Value} {w w2 : World} (hws : WS B s v start w) (hb : Below (B + 4) w w2) (hown : w2.ownsRow (B + 4) 9 1 v2 ys.length ys) :
    EndPost B s w (at_ + 1) ys ((w2.setCell ⟨B + 1, 0, none⟩ v2).setCell ⟨B + 1 + 1, 0, none⟩ (.int .i64 ((at_ : Int) + 1))) := by
  refine ⟨v2, ((hws.later (by omega) hb).setW v2).setN (at_ + 1), ownsRow_setCell_below (ownsRow_setCell_below hown (a := ⟨B + 1, 0, none⟩) (by show B + 1 < B + 4; omega) _) (a := ⟨B + 1 + 1, 0, none⟩) (by show B + 1 + 1 < B + 4; omega) _, ?_, ?_⟩
  · exact ((hb.mono (B' := B + 1) (by omega)).setCell (p := ⟨B + 1, 0, none⟩) (Nat.le_refl _) _).setCell (p := ⟨B + 1 + 1, 0, none⟩) (by show B + 1 ≤ B + 1 + 1; omega) _
  · rw [Below.heap_setCell _ _ _ _ (by show B + 3 ≠ B + 1 + 1; omega), Below.heap_setCell _ _ _ _ (by show B + 3 ≠ B + 1; omega)]
    exact hb.block (B + 3) (by omega)

theorem own_ge {w : World} {base : Nat} {e : TypeId} {size n : Nat} {v : Value} {xs : List Value} (h : w.ownsRow base e size v n xs) : ∀ k, v.ownBlock = some k → base ≤ k := fun k hk => (World.ownsRow.lt h k hk).1

theorem WS.clone {B start : Nat} {s : ByteArray} {v : Value} {w w1 : World} (h : WS B s v start w) (hb : Below w.heap.size w.drew w1) :
    w1.cell? ⟨B + 1, 0, none⟩ = some v ∧ (∀ o, (w1.alloc o).cell? ⟨B + 1, 0, none⟩ = some v) ∧ B + 3 < w1.heap.size ∧ Below w.heap.size w w1 := by
  have hb' : Below w.heap.size w w1 := (Below.refl _ w).drew.trans hb
  have h' := h.later (by have := h.sz; omega) hb'
  have h2 := h.sz
  have h3 := hb.size
  exact ⟨h'.cW, fun o => (h.later (C := B + 3) (by omega) ((hb'.mono (by omega)).alloc (by simp at h3; omega) o)).cW, h'.sz, hb'⟩

theorem WS.append {B start : Nat} {s : ByteArray} {v : Value} {w w1 w2 : World} {xs : List Value} {o : Obj} (h : WS B s v start w) (ho : w.ownsRow (B + 4) 9 1 v xs.length xs) (hb : Below w.heap.size w w1) (hg : (w1.alloc o).grownBy w2 v.ownBlock) :
    Below (B + 4) w w2 ∧ w2.cell? ⟨B + 1, 0, none⟩ = some v ∧ w2.frozen? ⟨B + 1, 0, none⟩ = false ∧ w2.cell? ⟨B + 1 + 1, 0, none⟩ = some (.int .i64 (start : Int)) ∧ w2.frozen? ⟨B + 1 + 1, 0, none⟩ = false := by
  have h0 := h.sz
  have h1 := hb.size
  have hB : Below (B + 4) w w2 := ((hb.mono (B' := B + 4) (by omega)).alloc (by omega) o).grown hg (by simp; omega) (own_ge ho)
  have h' := h.later (by omega) hB
  exact ⟨hB, h'.cW, h'.fW, h'.cN, h'.fN⟩


set_option maxHeartbeats 2000000 in
theorem end_add (B at_ start : Nat) (s : ByteArray) (v : Value) (xs : List Value) (w : World) (hat : at_ ≤ s.size) (hs : s.size ≤ 1000000) (hx : xs.length ≤ 1000000) (hws : WS B s v start w) (hown : w.ownsRow (B + 4) 9 1 v xs.length xs) (h : start < at_) :
    Calls Tryd.prog 34 #[.int .i64 (at_ : Int), .pointer (some ⟨B + 1 + 1, 0, none⟩), .pointer (some ⟨B + 1, 0, none⟩), .pointer (some ⟨B, 0, none⟩)] w
      fun e w' => e = .returned (.tuple #[]) ∧ EndPost B s w (at_ + 1) (xs ++ [.string (s.extract start at_)]) w' := by
  obtain ⟨i0, hi, hz0, hz1, hz2⟩ := info9
  have h' : start ≤ at_ := by omega
  have HW : Hid (WS B s v start w) := hws
  have HO : Hid (w.ownsRow (B + 4) 9 1 v xs.length xs) := hown
  obtain ⟨cS, cW, cN, fW, fN, sz⟩ := hws
  clear hown
  go_enter Tryd.func34, Tryd.ntmps34
  go_wp2_with fail
  go_region_law (first
    | (refine step_append_lies _ rfl (.tmp 8) (.tmp 14) 26 rfl (B + 4) 9 i0 (.string ⟨#[]⟩) 1 16 Tryd.underlying26 hi hz0 hz1 hz2 rfl (by decide) v xs.length xs (by simp [Act.eval]) ((ownsRow_later HO.out HB.out).alloc _) ⟨w1.heap.size, 0, none⟩ 1 1 [.string (s.extract start at_)] (by simp [Act.eval]) rfl (cell_one_new _ _ _) (by intro u hu; simp at hu; subst hu; rfl) (by decide) (by unfold maxLen; omega) (by omega) (by simp; omega) _ rfl ?_
       intro g cap w2 hown2 hgrow _ _
       have HO2 : Hid (w2.ownsRow (B + 4) 9 1 (.slice (some ⟨g, 0, none⟩) (xs.length + 1) cap) (xs.length + 1) (xs ++ [.string (s.extract start at_)])) := hown2
       obtain ⟨k4, k5, k6, k7, k8⟩ := HW.out.append HO.out HB.out hgrow
       have HB2 : Hid (Below (B + 4) w w2) := k4
       clear hown2 hgrow k4)
    | (go_simp
       go_wp2_with (go_at_call 35; refine (sClone_any _ _ (by simp; omega)).mono ?_)
       rintro e w1 ⟨rfl, hb1⟩
       obtain ⟨k1, k2, k3, k4⟩ := HW.out.clone hb1
       have HB : Hid (Below w.heap.size w w1) := k4
       clear hb1 k4))
  all_goals
    go_wp2
    go_end0
    exact ⟨rfl, end_post HW.out HB2.out (by simpa using HO2.out)⟩
end Go.Proofs.YtmhbdckgejcdhaaDoor
