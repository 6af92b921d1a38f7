/-
  Lists of ints that the call owns: appends onto them. Bits as such lists.
-/
import Derived.Test.YtbhnlomppobbkaaHR9
import Derived.Test.YtbhnlomppobbkaaHPl4
namespace Go.Proofs.Ytbhnlomppobbkaa
open Go.RowKit Ch
set_option maxRecDepth 100000

theorem intCells_append (a b : List Nat) : intCells (a ++ b) = intCells a ++ intCells b := by simp [intCells]
theorem intCells_one (L : List Nat) : ∀ u ∈ intCells L, u.oneCell' = true := by
  intro u hu
  obtain ⟨c, _, rfl⟩ := List.mem_map.1 hu
  rfl
/-- append of one int that was just laid down, onto what the call owns. -/
theorem wpList_append_int {w0 wr : World} {ops : Array Oper} {rest : List Oper} {o : Oper} {ac : Act} {Q : Exit → Act → World → Prop} (hgd : o.guard = none) (so x : Operand)
    (ho : o.op = .call { callee := .builtin .append, args := #[so, x], argTypes := #[35, 35] })
    (base : Nat) (v : Value) (acc : List Nat) (hs : ac.eval so = v) (hown : wr.ownsRow base 3 1 v acc.length (intCells acc))
    (z : Int) (hx : ac.eval x = .slice (some ⟨wr.heap.size, 0, none⟩) 1 1) (c : Nat) (hc : Hid (z = (c : Int))) (acc' : List Nat) (he : Hid (acc ++ [c] = acc')) (hlen : acc.length ≤ 1000000) (hbase : base ≤ wr.heap.size) (hb : Below base w0 wr)
    (h : ∀ v' w', w'.ownsRow base 3 1 v' acc'.length (intCells acc') → Below base w0 w' → wpList Try.prog ops Q rest (ac.put o.dst v') w') :
    wpList Try.prog ops Q (o :: rest) ac (wr.alloc (.cells #[.int .i64 z] 3)) := by
  obtain ⟨i0, hi, hz0, hz1, hz2⟩ := info3
  refine wpList_append_own _ hgd _ _ 35 ho base 3 i0 (.int .i64 0) 1 8 Try.underlying35 hi hz0 hz1 hz2 rfl (by decide) v _ _ hs (hown.alloc _) ⟨wr.heap.size, 0, none⟩ 1 1 [_] hx rfl (cell_one_new _ _ _) (by intro u hu; simp at hu; subst hu; rfl) (by unfold maxLen; omega) (by omega) (by simp; omega) ?_
  intro v' w2 hown2 hgrow _
  have hb2 := below_grown hb hbase hown hgrow
  rw [hc.out] at hown2
  have e : intCells acc ++ [Value.int .i64 (c : Int)] = intCells acc' := by rw [← he.out, intCells_append]; rfl
  have e2 : acc.length + 1 = acc'.length := by rw [← he.out]; simp
  rw [e, e2] at hown2
  exact h v' w2 hown2 hb2
/-- append of a list of ints that the call owns. -/
theorem wpList_append_ints {w : World} {ops : Array Oper} {rest : List Oper} {o : Oper} {ac : Act} {Q : Exit → Act → World → Prop} (hgd : o.guard = none) (so x : Operand)
    (ho : o.op = .call { callee := .builtin .append, args := #[so, x], argTypes := #[35, 35] })
    (base : Nat) (v : Value) (acc : List Nat) (hs : ac.eval so = v) (hown : w.ownsRow base 3 1 v acc.length (intCells acc))
    (b2 : Nat) (u : Value) (L : List Nat) (hx : ac.eval x = u) (hu : w.ownsRow b2 3 1 u L.length (intCells L)) (acc' : List Nat) (he : Hid (acc ++ L = acc')) (hsz : acc.length + L.length ≤ 1000000) (hbase : base ≤ w.heap.size)
    (h : ∀ v' w', w'.ownsRow base 3 1 v' acc'.length (intCells acc') → Below base w w' → wpList Try.prog ops Q rest (ac.put o.dst v') w') : wpList Try.prog ops Q (o :: rest) ac w := by
  obtain ⟨i0, hi, hz0, hz1, hz2⟩ := info3
  rw [← he.out, intCells_append, List.length_append] at h
  have hcl := fun g (hg : u.ownBlock = some g) => World.ownsRow.cells hu hg
  rcases hu.2 with ⟨hv, h0⟩ | ⟨g, cap, cur, hv, hb, hh, hcap, hmax, _⟩
  · have hL : L = [] := List.eq_nil_of_length_eq_zero h0
    subst hL
    refine wpList_append_own_none hgd so x 35 ho base 3 i0 1 Try.underlying35 hi v acc.length _ hs hown (by rw [hx, hv]) (h v w ?_ (Below.refl _ _))
    simpa [intCells] using hown
  · refine wpList_append_own w hgd so x 35 ho base 3 i0 (.int .i64 0) 1 8 Try.underlying35 hi hz0 hz1 hz2 rfl (by decide) v acc.length _ hs hown ⟨g, 0, none⟩ L.length cap (intCells L) (by rw [hx, hv]) (by rw [intCells_length]; omega) (fun j u hj => hcl g (by rw [hv]; rfl) j u hj) (intCells_one L) (by unfold maxLen; omega) (by omega) hbase ?_
    intro v' w' ho' hg _
    exact h v' w' ho' ((Below.refl _ w).grown hg hbase (own_ge hown))
theorem own_mono {w : World} {b b2 : Nat} {e : TypeId} {size n : Nat} {v : Value} {xs : List Value} (h : w.ownsRow b2 e size v n xs) (hb : b ≤ b2) : w.ownsRow b e size v n xs := by
  refine ⟨h.1, ?_⟩
  rcases h.2 with h2 | ⟨g, cap, cur, hv, hg2, hh, r⟩
  · exact .inl h2
  · exact .inr ⟨g, cap, cur, hv, by omega, hh, r⟩
/-- Bits as numbers. -/
def natBits (l : List Bool) : List Nat := l.map Bool.toNat
theorem natBits_length (l : List Bool) : (natBits l).length = l.length := by simp [natBits]
theorem natBits_append (a b : List Bool) : natBits (a ++ b) = natBits a ++ natBits b := by simp [natBits]
theorem codeBits_succ (x k : Nat) : codeBits x (k + 1) = x.testBit k :: codeBits x k := by
  unfold codeBits
  rw [List.range_succ_eq_map, List.map_cons, List.map_map]
  simp only [Nat.add_sub_cancel, Nat.sub_zero]
  congr 1
  apply List.map_congr_left
  intro i _
  show x.testBit (k - (i + 1)) = x.testBit (k - 1 - i)
  congr 1
  omega
theorem bit_of (x k : Nat) : x / 2 ^ k % 2 = (x.testBit k).toNat := (Nat.toNat_testBit x k).symm
theorem div_step (x k : Nat) : x / 2 ^ k / 2 = x / 2 ^ (k + 1) := by rw [Nat.div_div_eq_div_mul, Nat.pow_succ]
end Go.Proofs.Ytbhnlomppobbkaa
