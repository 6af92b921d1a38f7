/-
  What the regions of the document's Sum want.
-/
import Derived.Test.YtgehgcnaoapbbaaDoorVNew
import Derived.Test.YtgehgcnaoapbbaaDoorKPadEtc
import Derived.Test.YtgehgcnaoapbbaaDoorKSched
namespace Go.Proofs.YtgehgcnaoapbbaaDoor
open Go.RowKit Ch
set_option maxRecDepth 100000
/-- append of one number, at an operation of a region that draws. -/
theorem wp_append_one (R : KR) {o : Oper} {a : Act} {u : World} {K : Act → World → Prop} {Q : Exit → Act → World → Prop} (so x : Operand) (ho : o.op = .call { callee := .builtin .append, args := #[so, x], argTypes := #[R.ts, R.ts] })
    (base : Nat) (v : Value) (acc : List Nat) (hs : a.eval so = v) (hown : u.ownsRow base R.e 1 v acc.length (kc R.k acc)) (g : Nat) (hx : a.eval x = .slice (some ⟨g, 0, none⟩) 1 1) (c : Nat) (hc : u.cell? ⟨g, 0, none⟩ = some (.int R.k (c : Int)))
    (acc' : List Nat) (he : acc ++ [c] = acc') (hlen : acc.length ≤ 1000000) (hbase : base ≤ u.heap.size)
    (h : ∀ v' u', u'.ownsRow base R.e 1 v' acc'.length (kc R.k acc') → u.grownBy u' v.ownBlock → K (a.put o.dst v') u') : o.wp Tryd.prog a u K Q := by
  obtain ⟨i0, hi, hz0, hz1, hz2⟩ := info_parts R.hi
  have h8 := R.hb8
  refine wp_append_own u so x R.ts ho base R.e i0 (.int R.k 0) 1 R.size R.hu hi hz0 hz1 hz2 rfl (by decide) v acc.length _ hs hown ⟨g, 0, none⟩ 1 1 [.int R.k (c : Int)] hx rfl ?_ (by intro q hq; simp at hq; subst hq; rfl) (by unfold maxLen; omega) (Nat.le_trans (Nat.mul_le_mul_left _ h8) (by omega)) hbase ?_
  · intro j q hj
    rcases j with _ | j
    · simp only [List.getElem?_cons_zero, Option.some.injEq] at hj
      rw [← hj]
      exact hc
    · cases hj
  · intro v' u' h1 h2 _
    have e : kc R.k acc ++ [Value.int R.k (c : Int)] = kc R.k acc' := by rw [← he, kc_append]; rfl
    have e2 : acc.length + 1 = acc'.length := by rw [← he]; simp
    rw [e, e2] at h1
    exact h v' u' h1 h2
theorem wrap32 (a b : Nat) : IntKind.u32.wrap ((a : Int) + (b : Int)) = (((a + b) % 4294967296 : Nat) : Int) := by rw [IntKind.wrap_u32]; omega
theorem grown_none {u u' : World} (h : u.grownBy u' none) : Below u.heap.size u u' := (Below.refl _ u).grown h (Nat.le_refl _) (fun _ h => by cases h)
theorem isN_lit (u : World) (L : List Nat) (hL : L.length ≤ 1000) : IsN .u32 (u.alloc (.cells (kc .u32 L).toArray 46)) (.slice (some ⟨u.heap.size, 0, none⟩) L.length L.length) L :=
  ⟨_, _, rfl, Nat.le_refl _, by unfold maxLen; omega, .inr ⟨_, rfl, .inr ⟨u.heap.size, 0, rfl, by simp, fun i n hn => by
    rw [Nat.zero_add]
    exact block_cell i (heap_push_at u _) (by rw [List.getElem?_toArray]; exact kc_at hn)⟩⟩⟩
/-- append of four bytes, at an operation of a region that draws. -/
theorem wp_append_four {o : Oper} {a : Act} {u : World} {K : Act → World → Prop} {Q : Exit → Act → World → Prop} (so x : Operand) (ho : o.op = .call { callee := .builtin .append, args := #[so, x], argTypes := #[23, 23] })
    (base : Nat) (v : Value) (acc : List UInt8) (hs : a.eval so = v) (hown : u.ownsRow base 5 1 v acc.length (Lib.byteCells acc)) (g : Nat) (hx : a.eval x = .slice (some ⟨g, 0, none⟩) 4 4) (c0 c1 c2 c3 : Nat) (h0 : u.cell? ⟨g, 0, none⟩ = some (.int .u8 (c0 : Int))) (h1 : u.cell? ⟨g, 1, none⟩ = some (.int .u8 (c1 : Int))) (h2 : u.cell? ⟨g, 2, none⟩ = some (.int .u8 (c2 : Int))) (h3 : u.cell? ⟨g, 3, none⟩ = some (.int .u8 (c3 : Int)))
    (acc' : List UInt8) (he : Lib.byteCells acc' = Lib.byteCells acc ++ [.int .u8 (c0 : Int), .int .u8 (c1 : Int), .int .u8 (c2 : Int), .int .u8 (c3 : Int)]) (hel : acc'.length = acc.length + 4) (hlen : acc.length ≤ 1000) (hbase : base ≤ u.heap.size)
    (h : ∀ v' u', u'.ownsRow base 5 1 v' acc'.length (Lib.byteCells acc') → u.grownBy u' v.ownBlock → K (a.put o.dst v') u') : o.wp Tryd.prog a u K Q := by
  obtain ⟨i0, hi, hz0, hz1, hz2⟩ := info5
  refine wp_append_own u so x 23 ho base 5 i0 (.int .u8 0) 1 1 Tryd.underlying23 hi hz0 hz1 hz2 rfl (by decide) v acc.length _ hs hown ⟨g, 0, none⟩ 4 4 [.int .u8 (c0 : Int), .int .u8 (c1 : Int), .int .u8 (c2 : Int), .int .u8 (c3 : Int)] hx rfl ?_ (by intro q hq; simp at hq; rcases hq with rfl | rfl | rfl | rfl <;> rfl) (by unfold maxLen; omega) (by omega) hbase ?_
  · intro j q hj
    rcases j with _ | _ | _ | _ | j
    · simp only [List.getElem?_cons_zero, Option.some.injEq] at hj
      rw [← hj]; exact h0
    · simp only [List.getElem?_cons_succ, List.getElem?_cons_zero, Option.some.injEq] at hj
      rw [← hj]; exact h1
    · simp only [List.getElem?_cons_succ, List.getElem?_cons_zero, Option.some.injEq] at hj
      rw [← hj]; exact h2
    · simp only [List.getElem?_cons_succ, List.getElem?_cons_zero, Option.some.injEq] at hj
      rw [← hj]; exact h3
    · cases hj
  · intro v' u' k1 k2 _
    rw [← he, ← hel] at k1
    exact h v' u' k1 k2
end Go.Proofs.YtgehgcnaoapbbaaDoor
