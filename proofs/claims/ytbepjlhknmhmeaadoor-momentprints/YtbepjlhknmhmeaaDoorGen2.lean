/-
  Appends of one byte onto what the call owns.
-/
import Derived.Test.YtbepjlhknmhmeaaDoorGen
namespace Go.Proofs.YtbepjlhknmhmeaaDoor
open Go.RowKit Ch
set_option maxRecDepth 100000

/-- The length of a slice. -/
def lenOf : Value → Nat
  | .slice _ n _ => n
  | _ => 0
theorem own_shape {w : World} {base : Nat} {e : TypeId} {size n : Nat} {v : Value} {xs : List Value} (h : w.ownsRow base e size v n xs) : ∃ a cap, v = .slice a n cap := by
  rcases h.2 with ⟨hv, h0⟩ | ⟨g, cap, cur, hv, _⟩
  · exact ⟨none, 0, by rw [hv, h0]⟩
  · exact ⟨_, _, hv⟩
theorem below_grown {w wr w2 : World} {base : Nat} {e : TypeId} {size n : Nat} {v : Value} {xs : List Value} {o : Obj} (hb : Below base w wr) (hB : base ≤ wr.heap.size) (hown : wr.ownsRow base e size v n xs) (hg : (wr.alloc o).grownBy w2 v.ownBlock) : Below base w w2 :=
  (hb.alloc hB _).grown hg (by simp; omega) (own_ge hown)

/-- append of one byte that was just laid down, onto what the call owns. -/
theorem wpList_append_one {w0 wr : World} {ops : Array Oper} {rest : List Oper} {o : Oper} {ac : Act} {Q : Exit → Act → World → Prop} (hgd : o.guard = none) (so x : Operand)
    (ho : o.op = .call { callee := .builtin .append, args := #[so, x], argTypes := #[43, 43] })
    (base : Nat) (v : Value) (acc : List UInt8) (hs : ac.eval so = v) (hown : wr.ownsRow base 5 1 v acc.length (Lib.byteCells acc))
    (z : Int) (hx : ac.eval x = .slice (some ⟨wr.heap.size, 0, none⟩) 1 1) (c : UInt8) (hc : Hid (z = (c.toNat : Int))) (acc' : List UInt8) (he : Hid (acc ++ [c] = acc')) (hlen : acc.length ≤ 1000000) (hbase : base ≤ wr.heap.size) (hb : Below base w0 wr)
    (h : ∀ v' w', w'.ownsRow base 5 1 v' acc'.length (Lib.byteCells acc') → Below base w0 w' → wpList Tryd.prog ops Q rest (ac.put o.dst v') w') :
    wpList Tryd.prog ops Q (o :: rest) ac (wr.alloc (.cells #[.int .u8 z] 5)) := by
  obtain ⟨i0, hi, hz0, hz1, hz2⟩ := info5
  refine wpList_append_own _ hgd _ _ 43 ho base 5 i0 (.int .u8 0) 1 1 Tryd.underlying43 hi hz0 hz1 hz2 rfl (by decide) v _ _ hs (hown.alloc _) ⟨wr.heap.size, 0, none⟩ 1 1 [_] hx rfl (cell_one_new _ _ _) (by intro u hu; simp at hu; subst hu; rfl) (by unfold maxLen; omega) (by omega) (by simp; omega) ?_
  intro v' w2 hown2 hgrow _
  have hb2 := below_grown hb hbase hown hgrow
  rw [hc.out] at hown2
  have hown3 := own_snoc (c := c) hown2
  rw [he.out] at hown3
  exact h v' w2 hown3 hb2
theorem snoc_ex (l : List UInt8) (c : UInt8) : ∃ l', Hid (l ++ [c] = l') ∧ l'.length ≤ l.length + 1 := ⟨_, rfl, by simp⟩
end Go.Proofs.YtbepjlhknmhmeaaDoor
