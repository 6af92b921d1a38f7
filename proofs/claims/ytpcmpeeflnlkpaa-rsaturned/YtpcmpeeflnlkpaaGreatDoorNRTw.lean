
/-
  The document's Div: a slice of slices of digits.
-/
import Derived.Test.YtpcmpeeflnlkpaaGreatDoorNRMul
import Derived.Test.YtpcmpeeflnlkpaaGreatDoorHFreeS
namespace Go.Proofs.YtpcmpeeflnlkpaaGreatDoor
open Go.RowKit Ch
set_option maxRecDepth 100000

/-- Digits that lie in this block. -/
def IsDb (n : Nat) (w : World) (v : Value) (N b : Nat) : Prop := ∃ o c L, v = .slice (some ⟨b, o, none⟩) L.length c ∧ IsN .i64 w v L ∧ AllD L ∧ Tidy L ∧ numD L = N ∧ L.length ≤ n ∧ b < w.heap.size
theorem IsDb.isD {n b : Nat} {w : World} {v : Value} {N : Nat} (h : IsDb n w v N b) : IsD n w v N := by
  obtain ⟨o, c, L, h1, h2, h3, h4, h5, h6, _⟩ := h
  exact ⟨_, c, L, h1, h2, h3, h4, h5, h6⟩
theorem IsD.db {n : Nat} {w : World} {v : Value} {N : Nat} (h : IsD n w v N) (hN : N ≠ 0) : ∃ b, IsDb n w v N b := by
  obtain ⟨y, c, L, rfl, h2, h3, h4, h5, h6⟩ := h
  have h0 : 0 < L.length := by
    apply Nat.pos_of_ne_zero
    intro e
    rw [List.eq_nil_of_length_eq_zero e] at h5
    exact hN h5.symm
  obtain ⟨_, b, o, rfl, hb, _⟩ := IsN.cellAt h2 (i := 0) (n := L[0]) (List.getElem?_eq_getElem h0)
  exact ⟨b, o, c, L, rfl, h2, h3, h4, h5, h6, hb⟩
theorem IsDb.later {n b : Nat} {w w' : World} {v : Value} {N : Nat} (h : IsDb n w v N b) (hb : Below w.heap.size w w') : IsDb n w' v N b := by
  obtain ⟨o, c, L, h1, h2, h3, h4, h5, h6, h7⟩ := h
  exact ⟨o, c, L, h1, h2.later hb, h3, h4, h5, h6, Nat.lt_of_lt_of_le h7 hb.size⟩
theorem IsDb.grown {n b g : Nat} {w w' : World} {v : Value} {N : Nat} (h : IsDb n w v N b) (hg : w.grownBy w' (some g)) (hne : b ≠ g) : IsDb n w' v N b := by
  obtain ⟨o, c, L, rfl, h2, h3, h4, h5, h6, h7⟩ := h
  exact ⟨o, c, L, rfl, h2.grown hg hne, h3, h4, h5, h6, Nat.lt_of_lt_of_le h7 hg.size⟩
theorem IsDb.fresh {n b B : Nat} {w : World} {v : Value} {N : Nat} (h : IsDb n w v N b) (hf : FreshS B v) : B ≤ b := by
  obtain ⟨o, c, L, rfl, _⟩ := h
  exact hf _ _ _ _ rfl
/-- Digits are as they were where another block is written. -/
theorem IsD.set {n g i : Nat} {w : World} {v u : Value} {N : Nat} (h : IsD n w v N) (hf : FreshS (g + 1) v) : IsD n (w.setCell ⟨g, i, none⟩ u) v N := by
  have hg := grown_cell w ⟨g, i, none⟩ u
  obtain ⟨y, c, L, rfl, h2, h3⟩ := h
  refine ⟨y, c, L, rfl, ?_, h3⟩
  rcases y with _ | ⟨b, o, q⟩
  · obtain ⟨a, cap, hv, hc, hm, h4⟩ := h2
    refine ⟨a, cap, hv, hc, hm, ?_⟩
    rcases h4 with h4 | ⟨x, h5, _⟩
    · exact .inl h4
    · simp only [Value.slice.injEq] at hv
      rw [← hv.1] at h5
      cases h5
  · rcases q with _ | q
    · exact h2.grown hg (by have := hf _ _ _ _ rfl; show b ≠ g; omega)
    · obtain ⟨a, cap, hv, hc, hm, h4⟩ := h2
      refine ⟨a, cap, hv, hc, hm, ?_⟩
      rcases h4 with h4 | ⟨x, h5, h6⟩
      · exact .inl h4
      · refine .inr ⟨x, h5, ?_⟩
        rcases h6 with h6 | ⟨b', o', h6, _⟩
        · exact .inl h6
        · simp only [Value.slice.injEq] at hv
          rw [← hv.1] at h5
          rw [h6] at h5
          cases h5
/-- The multiples by 1, 2, 4 ..: as many as there are. -/
def Tw (base : Nat) (w : World) (g kk ck : Nat) (Vs : List Value) (d N : Nat) : Prop :=
  w.ownsRow base 56 1 (.slice (some ⟨g, 0, none⟩) kk ck) kk Vs ∧ g < w.heap.size ∧ ∀ j x, Vs[j]? = some x → ∃ b, b ≠ g ∧ IsDb (d + j) w x (N * 2 ^ j) b
theorem Tw.len {base : Nat} {w : World} {g kk ck : Nat} {Vs : List Value} {d N : Nat} (h : Tw base w g kk ck Vs d N) : Vs.length = kk := by have := h.1.1; omega
theorem own_keep {w w' : World} {base n : Nat} {e : TypeId} {v : Value} {xs : List Value} (h : w.ownsRow base e 1 v n xs) (hb : Below w.heap.size w w') : w'.ownsRow base e 1 v n xs := by
  refine ⟨h.1, ?_⟩
  rcases h.2 with h2 | ⟨g, cap, cur, hv, hg2, hh, r⟩
  · exact .inl h2
  · exact .inr ⟨g, cap, cur, hv, hg2, (hb.block g (block_lt hh)).trans hh, r⟩
theorem Tw.later {base : Nat} {w w' : World} {g kk ck : Nat} {Vs : List Value} {d N : Nat} (h : Tw base w g kk ck Vs d N) (hb : Below w.heap.size w w') : Tw base w' g kk ck Vs d N := by
  refine ⟨own_keep h.1 hb, Nat.lt_of_lt_of_le h.2.1 hb.size, fun j x hx => ?_⟩
  obtain ⟨b, h1, h2⟩ := h.2.2 j x hx
  exact ⟨b, h1, h2.later hb⟩
theorem Tw.cell {base : Nat} {w : World} {g kk ck : Nat} {Vs : List Value} {d N j : Nat} {x : Value} (h : Tw base w g kk ck Vs d N) (hj : Vs[j]? = some x) : w.cell? ⟨g, j, none⟩ = some x := by
  have := World.ownsRow.cells h.1 (g := g) rfl j x hj
  have e : (⟨g, 0, none⟩ : Addr).add j = ⟨g, j, none⟩ := by unfold Addr.add; split <;> simp_all
  rw [e] at this
  exact this
theorem slice_one {n : Nat} {w : World} {v : Value} {N : Nat} (h : IsD n w v N) : v.oneCell' = true := by
  obtain ⟨y, c, L, rfl, _⟩ := h
  rfl
/-- append of one slice, at an operation of a region that draws. -/
theorem wp_append_tw {o : Oper} {a : Act} {u : World} {K : Act → World → Prop} {Q : Exit → Act → World → Prop} (so x : Operand) (ho : o.op = .call { callee := .builtin .append, args := #[so, x], argTypes := #[113, 113] })
    (base g kk ck : Nat) (Vs : List Value) (hs : a.eval so = .slice (some ⟨g, 0, none⟩) kk ck) (hown : u.ownsRow base 56 1 (.slice (some ⟨g, 0, none⟩) kk ck) kk Vs) (p : Nat) (hx : a.eval x = .slice (some ⟨p, 0, none⟩) 1 1) (X : Value) (hc : u.cell? ⟨p, 0, none⟩ = some X) (h1 : X.oneCell' = true)
    (hk : kk ≤ 100) (hbase : base ≤ u.heap.size)
    (h : ∀ g' ck' u', u'.ownsRow base 56 1 (.slice (some ⟨g', 0, none⟩) (kk + 1) ck') (kk + 1) (Vs ++ [X]) → u.grownBy u' (some g) → (g' = g ∨ g' = u.heap.size) → K (a.put o.dst (.slice (some ⟨g', 0, none⟩) (kk + 1) ck')) u') : o.wp Tryz.prog a u K Q := by
  have hu : Tryz.prog.underlying 113 = some (.slice 56) := by kernel_rfl
  have hi0 : (Tryz.prog.info? 56).map (fun i => (i.zero, i.size, i.bytes)) = some (some (.slice none 0 0), 1, 24) := by kernel_rfl
  obtain ⟨i0, hi, hz0, hz1, hz2⟩ := info_parts hi0
  obtain ⟨v', w', hr, h2, h3, h4⟩ := run_append_where (P := Tryz.prog) u base 113 o.type 56 i0 (.slice none 0 0) 24 hu hi hz0 hz1 hz2 rfl _ kk Vs hown ⟨p, 0, none⟩ 1 1 [X] rfl (by
    intro j q hj
    rcases j with _ | j
    · simp only [List.getElem?_cons_zero, Option.some.injEq] at hj
      rw [← hj]
      exact hc
    · cases hj) (by intro q hq; simp at hq; subst hq; exact h1) (by unfold maxLen; omega) (by omega) hbase (by decide)
  unfold Oper.wp execOp
  simp only [ho, resolve, invoke, builtin, Sem.run_bind, Sem.run_pure, Result.andThen_ok, List.map_toArray, List.map_cons, List.map_nil, hs, hx, hr]
  rcases h2.2 with ⟨_, h5⟩ | ⟨g', ck', cur, hv, h5⟩
  · omega
  · subst hv
    refine h g' ck' w' h2 h3 ?_
    rcases h4 with h4 | h4
    · exact .inl (Option.some.inj h4)
    · exact .inr (Option.some.inj h4)
theorem FreshS.mono {B C : Nat} {v : Value} (h : FreshS B v) (hc : C ≤ B) : FreshS C v := fun b o n c hv => Nat.le_trans hc (h b o n c hv)
theorem tw_more {base : Nat} {u u1 u2 : World} {g kk ck g' ck' d N : Nat} {Vs : List Value} {x : Value} (hT : Tw base u g kk ck Vs d N) (hN0 : N ≠ 0) (hb1 : Below u.heap.size u u1) (hx : IsD (d + kk) u1 x (N * 2 ^ kk)) (hfx : FreshS u.heap.size x)
    (ho : u2.ownsRow base 56 1 (.slice (some ⟨g', 0, none⟩) (kk + 1) ck') (kk + 1) (Vs ++ [x])) (hg : u1.grownBy u2 (some g)) (hw : g' = g ∨ g' = u1.heap.size) : Tw base u2 g' (kk + 1) ck' (Vs ++ [x]) d N := by
  have hT1 := hT.later hb1
  refine ⟨ho, ?_, fun j y hy => ?_⟩
  · rcases ho.2 with ⟨h1, _⟩ | ⟨g2, cap, cur, h1, _, hh, _⟩
    · cases h1
    · simp only [Value.slice.injEq, Option.some.injEq, Addr.mk.injEq, and_true] at h1
      rw [h1.1]
      exact block_lt hh
  · by_cases hj : j < Vs.length
    · rw [List.getElem?_append_left hj] at hy
      obtain ⟨b, h1, h2⟩ := hT1.2.2 j y hy
      have h3 := h2.grown hg h1
      refine ⟨b, ?_, h3⟩
      obtain ⟨_, _, _, _, _, _, _, _, _, h7⟩ := h2
      rcases hw with rfl | rfl
      · exact h1
      · omega
    · rw [List.getElem?_append_right (by omega)] at hy
      have hj2 : j - Vs.length = 0 := by
        have := (List.getElem?_eq_some_iff.1 hy).1
        simp at this
        omega
      rw [hj2] at hy
      simp only [List.getElem?_cons_zero, Option.some.injEq] at hy
      subst hy
      have hjk : j = kk := by have := hT.len; omega
      subst hjk
      obtain ⟨b, hb⟩ := hx.db (Nat.mul_ne_zero hN0 (Nat.ne_of_gt (Nat.pow_pos (by decide))))
      have h8 := hb.fresh hfx
      have h9 := hT.2.1
      have hbl : b < u1.heap.size := by
        obtain ⟨_, _, _, _, _, _, _, _, _, h7⟩ := hb
        exact h7
      refine ⟨b, ?_, hb.grown hg (by omega)⟩
      rcases hw with rfl | rfl
      · omega
      · omega
theorem below_tw {base : Nat} {w u1 u2 : World} {g : Nat} (hb : Below base w u1) (hbase : base ≤ u1.heap.size) (hg : u1.grownBy u2 (some g)) (hgb : base ≤ g) : Below base w u2 :=
  hb.grown hg hbase (fun b h => by obtain rfl := Option.some.inj h; exact hgb)
/-- A slice of one slice of digits. -/
def IsBx (n B : Nat) (w : World) (v : Value) (N : Nat) : Prop := ∃ p x, v = .slice (some ⟨p, 0, none⟩) 1 1 ∧ p < w.heap.size ∧ w.cell? ⟨p, 0, none⟩ = some x ∧ IsD n w x N ∧ FreshS B x
theorem IsBx.later {n B : Nat} {w w' : World} {v : Value} {N : Nat} (h : IsBx n B w v N) (hb : Below w.heap.size w w') : IsBx n B w' v N := by
  obtain ⟨p, x, h1, h2, h3, h4, h5⟩ := h
  exact ⟨p, x, h1, Nat.lt_of_lt_of_le h2 hb.size, (hb.cell (p := ⟨p, 0, none⟩) h2).trans h3, h4.later hb, h5⟩
theorem isBx_new {n B : Nat} {w : World} {x : Value} {N : Nat} (h : IsD n w x N) (hf : FreshS B x) : IsBx n B (w.alloc (.cells #[x] 56)) (.slice (some ⟨w.heap.size, 0, none⟩) 1 1) N :=
  ⟨w.heap.size, x, rfl, by simp, block_cell 0 (heap_push_at w _) rfl, h.later ((Below.refl _ w).alloc (Nat.le_refl _) _), hf⟩
theorem Tw.ge {base : Nat} {w : World} {g kk ck : Nat} {Vs : List Value} {d N : Nat} (h : Tw base w g kk ck Vs d N) : base ≤ g := by
  rcases h.1.2 with ⟨h1, _⟩ | ⟨g2, cap, cur, h1, hb, _⟩
  · cases h1
  · simp only [Value.slice.injEq, Option.some.injEq, Addr.mk.injEq, and_true] at h1
    rw [h1.1]
    exact hb
theorem tw_first (w : World) (d N b : Nat) (v : Value) (h : IsDb d w v N b) : Tw w.heap.size (w.alloc (.cells #[v] 56)) w.heap.size 1 1 [v] d N := by
  refine ⟨⟨rfl, .inr ⟨w.heap.size, 1, #[v], rfl, Nat.le_refl _, heap_push_at w _, Nat.le_refl _, by unfold maxLen; omega, rfl, rfl⟩⟩, by simp, fun j x hx => ?_⟩
  rcases j with _ | j
  · simp only [List.getElem?_cons_zero, Option.some.injEq] at hx
    subst hx
    refine ⟨b, ?_, ?_⟩
    · obtain ⟨_, _, _, _, _, _, _, _, _, h7⟩ := h
      omega
    · rw [Nat.pow_zero, Nat.mul_one, Nat.add_zero]
      exact h.later ((Below.refl _ w).alloc (Nat.le_refl _) _)
  · cases hx
theorem own_oneN (R : KR) (w : World) (n : Nat) : (w.alloc (.cells #[.int R.k (n : Int)] R.e)).ownsRow w.heap.size R.e 1 (.slice (some ⟨w.heap.size, 0, none⟩) 1 1) [n].length (kc R.k [n]) :=
  ⟨rfl, .inr ⟨w.heap.size, 1, #[.int R.k (n : Int)], rfl, Nat.le_refl _, heap_push_at w _, Nat.le_refl _, by unfold maxLen; omega, rfl, rfl⟩⟩
end Go.Proofs.YtpcmpeeflnlkpaaGreatDoor
