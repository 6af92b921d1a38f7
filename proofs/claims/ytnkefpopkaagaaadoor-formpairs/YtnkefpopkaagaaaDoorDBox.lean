/-
  A slice of bytes in a variable that a loop over pieces writes; a builder while others are made.
-/
import Derived.Test.YtnkefpopkaagaaaDoorCPieces
import Derived.Test.YtnkefpopkaagaaaDoorGen2
import Derived.Test.YtnkefpopkaagaaaDoorGRune
import Derived.Test.YtnkefpopkaagaaaDoorShelf
import Derived.Shelf.Strings.BuilderK
import Derived.ShutString
import Derived.OneCell
import Derived.Lib.OwnKind
namespace Go.Proofs.YtnkefpopkaagaaaDoor
open Go.RowKit Go.Shelf Ch
set_option maxRecDepth 100000

attribute [local go_sem] Oper.semAt_some

/-- A builder stays one while blocks are laid, or one that holds no cells is turned. -/
theorem builder_own {T e : TypeId} {B b : Nat} {bs : List Value} {W W' : World} {row : Option Nat} (h : Lib.IsBuilderF T e B b bs W) (hg : W.grownBy W' row) (hr : ∀ r, row = some r → ∃ o : Obj, W.heap[r]? = some o ∧ o.isCells = false) : Lib.IsBuilderF T e B b bs W' := by
  have key : ∀ p, Lib.BuilderAtF T e B b p bs W → Lib.BuilderAtF T e B b p bs W' := by
    intro p ⟨hB, v, hbk, hown, hne⟩
    have hb : row ≠ some b := fun e' => by
      obtain ⟨o, ho, hc⟩ := hr b e'
      rw [hbk] at ho
      obtain rfl := Option.some.inj ho
      cases hc
    refine ⟨hB, v, ?_, hown.kept hg ?_, hne⟩
    · rw [hg.block b (Array.getElem?_eq_some_iff.1 hbk).1 (fun e' => hb e'.symm)]
      exact hbk
    · match hv : v.ownBlock with
      | none => exact .inl rfl
      | some g =>
        refine .inr fun e' => ?_
        obtain ⟨o, ho, hc⟩ := hr g e'.symm
        obtain ⟨c, fz, hk⟩ := Lib.ownsRowF_kind hown g hv
        rw [hk] at ho
        obtain rfl := Option.some.inj ho
        cases hc
  rcases h with h | h
  · exact .inl (key _ h)
  · exact .inr (key _ h)
theorem others_keeps {e : TypeId} {b : Nat} {W W' : World} (h : Lib.OthersKept e (some b) W W') (hs : W.heap.size ≤ W'.heap.size) {C : Nat} (hb : b < C) : KeepsFrom C W W' :=
  ⟨hs, fun k o hk ho hc => h k o ho (fun e' => by cases e'; omega) (fun c fz e' => by rw [e'] at hc; cases hc)⟩
theorem others_two {b n c : Nat} {s : ByteArray} {W W' : World} (h : Lib.OthersKept 5 (some b) W W') (hh : HasTwo c n s W) (hb : b < c) : KeepTwo c W W' :=
  ⟨(h c _ hh.1 (fun e => by cases e; omega) (fun _ _ e => by cases e)).trans hh.1.symm, (h (c + 1) _ hh.2 (fun e => by cases e; omega) (fun _ _ e => by cases e)).trans hh.2.symm⟩
theorem hasTwo_own {b n : Nat} {s : ByteArray} {W W' : World} {row : Option Nat} (h : HasTwo b n s W) (hg : W.grownBy W' row) (hr : ∀ r, row = some r → ∃ o : Obj, W.heap[r]? = some o ∧ o.isCells = false) : HasTwo b n s W' := by
  have key : ∀ (k : Nat) (c : Array Value) (t : TypeId) (fr : Nat × Nat), W.heap[k]? = some (Obj.cells c t fr) → W'.heap[k]? = some (Obj.cells c t fr) := fun k c t fr hk => by
    refine (hg.block k (Array.getElem?_eq_some_iff.1 hk).1 (fun e' => ?_)).trans hk
    · obtain ⟨o, ho, hc⟩ := hr k e'.symm
      rw [hk] at ho
      obtain rfl := Option.some.inj ho
      cases hc
  exact ⟨key _ _ _ _ h.1, key _ _ _ _ h.2⟩

theorem below_others {e : TypeId} {b : Option Nat} {W W' : World} (h : Below W.heap.size W W') : Lib.OthersKept e b W W' := fun k _ hk _ _ => (h.block k (Array.getElem?_eq_some_iff.1 hk).1).trans hk
theorem alloc_others {e : TypeId} {b : Option Nat} (W : World) (o : Obj) : Lib.OthersKept e b W (W.alloc o) := below_others ((Below.refl _ W).alloc (Nat.le_refl _) o)
theorem builder_later {T e : TypeId} {B b : Nat} {bs : List Value} {W W' : World} (h : Lib.IsBuilderF T e B b bs W) (hb : Below W.heap.size W W') : Lib.IsBuilderF T e B b bs W' := by
  have key : ∀ p, Lib.BuilderAtF T e B b p bs W → Lib.BuilderAtF T e B b p bs W' := by
    intro p ⟨hB, v, hbk, hown, hne⟩
    refine ⟨hB, v, (hb.block b (Array.getElem?_eq_some_iff.1 hbk).1).trans hbk, ⟨hown.1, ?_⟩, hne⟩
    rcases hown.2 with h2 | ⟨g, cap, cur, fz, hv, hg, hh, r⟩
    · exact .inl h2
    · exact .inr ⟨g, cap, cur, fz, hv, hg, (hb.block g (Array.getElem?_eq_some_iff.1 hh).1).trans hh, r⟩
  rcases h with h | h
  · exact .inl (key _ h)
  · exact .inr (key _ h)
theorem hasTwo_kept {b n c : Nat} {s : ByteArray} {W W' : World} (h : HasTwo c n s W) (hk : Lib.OthersKept 5 (some b) W W') (hb : b < c) : HasTwo c n s W' := h.kept (others_two hk h hb)
theorem pieces_length {n : Nat} (hn : 0 < n) : ∀ (k : Nat) (s : ByteArray), s.size ≤ k → (piecesB n s).length ≤ s.size
  | 0, s, hk => by rw [piecesB_nil (by omega)]; exact Nat.zero_le _
  | k + 1, s, hk => by
    by_cases h0 : s.size = 0
    · rw [piecesB_nil h0]; exact Nat.zero_le _
    have := pieces_length hn k (s.extract (min n s.size) s.size) (by rw [size_rest]; omega)
    rw [size_rest] at this
    rw [piecesB_cons hn h0, List.length_cons]
    omega
theorem seg_cells (s : ByteArray) (a b : Nat) : Lib.strCells (s.extract a b) = Lib.byteCells (seg s a b) := by
  rw [extract_seg]; rfl
theorem text_cells (l : List UInt8) : Lib.strCells ⟨l.toArray⟩ = Lib.byteCells l := rfl

theorem byte_cell {w : World} {b o : Nat} {s : ByteArray} (h : From w b o s 0) {j : Nat} (hj : j < s.size) : w.cell? ⟨b, o + j, none⟩ = some (.int .u8 (byte s j : Int)) := by
  have := h j (by omega)
  rw [Nat.zero_add] at this
  exact this
theorem wrap_nat (n : Nat) (h : n < 9223372036854775808) : IntKind.i64.wrap (n : Int) = (n : Int) := by
  rw [IntKind.wrap_i64]; omega

theorem wraps_i64 (n : Int) (_h₀ : 0 ≤ n) (_h₁ : n < 2 ^ 62) : IntKind.i64.wrap n = n := by rw [IntKind.wrap_i64]; omega
theorem i64_join8 {x y : Int} (h0 : 0 ≤ x) (hx : x % 256 = 0) (h1 : x < 1000000000000) (h2 : 0 ≤ y) (h3 : y < 256) : bits .or .i64 x y = x + y :=
  bits_join .i64 62 (by decide) wraps_i64 8 x y h0 hx (by omega) h2 h3 (by omega)
theorem i64_join6 {x y : Int} (h0 : 0 ≤ x) (hx : x % 64 = 0) (h1 : x < 1000000000000) (h2 : 0 ≤ y) (h3 : y < 64) : bits .or .i64 x y = x + y :=
  bits_join .i64 62 (by decide) wraps_i64 6 x y h0 hx (by omega) h2 h3 (by omega)
theorem block_own {k : Nat} {c : Array Value} {t : TypeId} {fr : Nat × Nat} {W W' : World} {row : Option Nat} (hk : W.heap[k]? = some (Obj.cells c t fr)) (hg : W.grownBy W' row) (hr : ∀ r, row = some r → ∃ o : Obj, W.heap[r]? = some o ∧ o.isCells = false) : W'.heap[k]? = some (Obj.cells c t fr) := by
  refine (hg.block k (Array.getElem?_eq_some_iff.1 hk).1 (fun e' => ?_)).trans hk
  obtain ⟨o, ho, hc⟩ := hr k e'.symm
  rw [hk] at ho
  obtain rfl := Option.some.inj ho
  cases hc
theorem row_own {base n size : Nat} {e : TypeId} {v : Value} {xs : List Value} {W W' : World} {row : Option Nat} (h : W.ownsRow base e size v n xs) (hg : W.grownBy W' row) (hr : ∀ r, row = some r → ∃ o : Obj, W.heap[r]? = some o ∧ o.isCells = false) : W'.ownsRow base e size v n xs := by
  refine ⟨h.1, ?_⟩
  rcases h.2 with h2 | ⟨g, cap, cur, hv, hg2, hh, r⟩
  · exact .inl h2
  · exact .inr ⟨g, cap, cur, hv, hg2, block_own hh hg hr, r⟩
/-- A slice of bytes in a variable of its own, and the iterator's two behind it. -/
structure BoxB (w : World) (bb n : Nat) (s : ByteArray) (l : List UInt8) (v : Value) (W : World) : Prop where
  box : W.heap[bb]? = some (Obj.cells #[v] 49 (0, 0))
  row : W.ownsRow (bb + 3) 5 1 v l.length (Lib.byteCells l)
  two : HasTwo (bb + 1) n s W
  below : Below w.heap.size w W
  size : bb + 3 ≤ W.heap.size
theorem BoxB.own {w W W' : World} {bb n : Nat} {s : ByteArray} {l : List UInt8} {v : Value} {row : Option Nat} (h : BoxB w bb n s l v W) (hw : w.heap.size ≤ bb) (hg : W.grownBy W' row) (hr : ∀ r, row = some r → bb + 3 ≤ r ∧ ∃ o : Obj, W.heap[r]? = some o ∧ o.isCells = false) : BoxB w bb n s l v W' :=
  ⟨block_own h.box hg (fun r e => (hr r e).2), row_own h.row hg (fun r e => (hr r e).2), hasTwo_own h.two hg (fun r e => (hr r e).2), h.below.grown hg h.below.size (fun r e => by have := (hr r e).1; omega), Nat.le_trans h.size hg.size⟩
theorem BoxB.init (w wr : World) (n : Nat) (s : ByteArray) (hb : Below w.heap.size w wr) : BoxB w wr.heap.size n s [] (.slice none 0 0) (((wr.alloc (.cells #[.slice none 0 0] 49)).alloc (.cells #[.string s] 9)).alloc (.cells #[.int .i64 (n : Int)] 3)) := by
  refine ⟨?_, World.ownsRow_nil _ _ _ _, ?_, ((hb.alloc hb.size _).alloc (by have := hb.size; simp; omega) _).alloc (by have := hb.size; simp; omega) _, by simp⟩
  · rw [heap_push_old _ _ (by simp; omega), heap_push_old _ _ (by simp)]
    exact heap_push_at wr _
  · have := hasTwo_new s n (wr.alloc (.cells #[.slice none 0 0] 49))
    rw [World.size_alloc] at this
    exact this
/-- What an append and a store into the variable leave. -/
theorem BoxB.step {w W W1 W2 : World} {bb n : Nat} {s : ByteArray} {l l' : List UInt8} {v v2 : Value} (h : BoxB w bb n s l v W) (hw : w.heap.size ≤ bb) (h1 : Below W.heap.size W W1) (hg : W1.grownBy W2 v.ownBlock) (ho : W2.ownsRow (bb + 3) 5 1 v2 l'.length (Lib.byteCells l')) :
    BoxB w bb n s l' v2 (W2.setCell ⟨bb, 0, none⟩ v2) ∧ KeepTwo (bb + 1) W (W2.setCell ⟨bb, 0, none⟩ v2) ∧ KeepsFrom (bb + 3) W (W2.setCell ⟨bb, 0, none⟩ v2) ∧ W2.cell? ⟨bb, 0, none⟩ = some v ∧ W2.frozen? ⟨bb, 0, none⟩ = false := by
  have hlow : ∀ r, v.ownBlock = some r → bb + 3 ≤ r := fun r e => (World.ownsRow.lt h.row r e).1
  have hz1 := h1.size
  have hz2 := hg.size
  have keep : ∀ (k : Nat) (o : Obj), k < bb + 3 → W.heap[k]? = some o → W2.heap[k]? = some o := fun k o hk ho => by
    have hlt := (Array.getElem?_eq_some_iff.1 ho).1
    rw [hg.block k (by omega) (fun e => by have := hlow k e.symm; omega), h1.block k hlt]
    exact ho
  have hbox := keep bb _ (by omega) h.box
  have hlt2 : bb < W2.heap.size := (Array.getElem?_eq_some_iff.1 hbox).1
  have other : ∀ k, k ≠ bb → (W2.setCell ⟨bb, 0, none⟩ v2).heap[k]? = W2.heap[k]? := fun k hk => Below.heap_setCell _ _ _ _ hk
  have hsz : (W2.setCell ⟨bb, 0, none⟩ v2).heap.size = W2.heap.size := by simp [World.setCell]
  have ht : HasTwo (bb + 1) n s W2 := ⟨keep _ _ (by omega) h.two.1, keep _ _ (by omega) h.two.2⟩
  have hT : HasTwo (bb + 1) n s (W2.setCell ⟨bb, 0, none⟩ v2) := ⟨(other _ (by omega)).trans ht.1, (other _ (by omega)).trans ht.2⟩
  refine ⟨⟨?_, ?_, hT, ?_, by rw [hsz]; have := h.size; omega⟩, ⟨hT.1.trans h.two.1.symm, hT.2.trans h.two.2.symm⟩, ⟨by rw [hsz]; omega, fun k o hk ho hc => ?_⟩, (cell_of_block hbox).1, (cell_of_block hbox).2⟩
  · exact one_setCell hbox
  · refine ⟨ho.1, ?_⟩
    rcases ho.2 with h2 | ⟨g, cap, cur, hv, hg2, hh, r⟩
    · exact .inl h2
    · exact .inr ⟨g, cap, cur, hv, hg2, (other g (by omega)).trans hh, r⟩
  · exact (h.below.trans (((h1.mono h.below.size)).grown hg (by have := h.below.size; omega) (fun r e => by have := hlow r e; omega))).setCell (p := ⟨bb, 0, none⟩) hw _
  · rw [other k (by omega), hg.block k (by have := (Array.getElem?_eq_some_iff.1 ho).1; omega) (fun e => ?_), h1.block k (Array.getElem?_eq_some_iff.1 ho).1]
    · exact ho
    · obtain ⟨c, fz, hk2⟩ := Lib.ownsRow_kind h.row k e.symm
      rw [hk2] at ho
      obtain rfl := Option.some.inj ho
      cases hc
end Go.Proofs.YtnkefpopkaagaaaDoor
