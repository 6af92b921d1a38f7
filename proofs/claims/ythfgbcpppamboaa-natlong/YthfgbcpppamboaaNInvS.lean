/-
  Package nat: the closure of Inverse.
-/
import Derived.Test.YthfgbcpppamboaaNKeptEtc
import Derived.Test.YthfgbcpppamboaaHFreeTEtc
namespace Go.Proofs.Ythfgbcpppamboaa
open Go.RowKit Ch
set_option maxRecDepth 100000

theorem keptX_set {ps : List Nat} {p : Nat} {v : Value} (w : World) (h : p ∈ ps) : KeptX ps w (w.setCell ⟨p, 0, none⟩ v) := by
  have hb : Below (w.heap.size) w w := Below.refl _ _
  refine ⟨rfl, rfl, rfl, by simp, fun k hk hn => ?_⟩
  exact Below.heap_setCell _ _ _ _ (fun e => hn (e ▸ h))
theorem IsW.narrow {n k : Nat} {w : World} {v : Value} {N : Nat} (h : IsW n w v N) (hN : N < 18446744073709551616 ^ k) : IsW k w v N := by
  obtain ⟨y, c, L, h1, h2, h3, h4, h5, h6⟩ := h
  refine ⟨y, c, L, h1, h2, h3, h4, h5, ?_⟩
  by_cases h0 : L = []
  · subst h0
    exact Nat.zero_le _
  · have h7 := tidy_ge h4 h0
    rw [h5] at h7
    have h8 := (Nat.pow_lt_pow_iff_right (a := 18446744073709551616) (by decide)).1 (Nat.lt_of_le_of_lt h7 hN)
    omega
theorem IsW.noInt {n : Nat} {w : World} {v : Value} {N : Nat} (h : IsW n w v N) : ∀ k z, v ≠ .int k z := by
  obtain ⟨y, l, c, rfl, _, _⟩ := h.shape
  intro k z e
  cases e
def semIv (gq gf : Value) (ys : Option Addr) (ls cs q s f : Nat) : Nat → Value → World → Prop := fun ix v u => match ix with
  | 0 => v = (.slice ys ls cs)
  | 1 => v = gf
  | 2 => v = gq
  | 3 => v = (.slice ys ls cs)
  | 4 => IsW 256 u v (q * s)
  | 5 => IsW 400 u v (f + q * s)
  | 6 => v = v
  | 7 => v = v
  | _ => True
set_option maxHeartbeats 2000000 in
theorem nInvS_any (p1 p2 p3 : Nat) (gq gf : Value) (ys : Option Addr) (ls cs q s f : Nat) (neg : Bool) (w : World) (h12 : p1 ≠ p2) (h31 : p3 ≠ p1) (h32 : p3 ≠ p2)
    (hB1 : w.heap[p1]? = some (.cells #[(.slice ys ls cs)] 48 (0, 0))) (hB2 : w.heap[p2]? = some (.cells #[gf] 48 (0, 0))) (hB3 : w.heap[p3]? = some (.cells #[.bool neg] 4 (0, 0)))
    (hq : IsW 128 w gq q) (hs : IsW 128 w (.slice ys ls cs) s) (hf : IsW 128 w gf f) :
    Calls Try.prog 47 #[gq, .pointer (some ⟨p1, 0, none⟩), .pointer (some ⟨p2, 0, none⟩), .pointer (some ⟨p3, 0, none⟩)] w fun e w' => e = .returned (.tuple #[]) ∧
      (∃ v, w'.heap[p1]? = some (.cells #[v] 48 (0, 0)) ∧ IsW 400 w' v (f + q * s)) ∧ w'.heap[p2]? = some (.cells #[(.slice ys ls cs)] 48 (0, 0)) ∧ w'.heap[p3]? = some (.cells #[.bool (!neg)] 4 (0, 0)) ∧ KeptX [p1, p2, p3] w w' := by
  have hv1 := hs.noInt
  have hv2 := hf.noInt
  have hd : Below w.heap.size w w.drew := (Below.refl _ _).drew
  have HU := show Hid (∀ u, Below w.drew.heap.size w.drew u → u.cell? ⟨p1, 0, none⟩ = some (.slice ys ls cs) ∧ u.cell? ⟨p2, 0, none⟩ = some gf ∧ IsW 128 u gq q ∧ IsW 128 u (.slice ys ls cs) s ∧ IsW 128 u gf f) from fun u hb => by
    have hbu : Below w.heap.size w u := hd.trans (hb.mono hd.size)
    exact ⟨(hbu.cell (p := ⟨p1, 0, none⟩) (block_lt hB1)).trans (block_cell 0 hB1 rfl), (hbu.cell (p := ⟨p2, 0, none⟩) (block_lt hB2)).trans (block_cell 0 hB2 rfl), hq.later hbu, hs.later hbu, hf.later hbu⟩
  have HE := show Hid (∀ (u : World) (z5 : Value), Below w.drew.heap.size w.drew u → IsW 400 u z5 (f + q * s) → u.heap[p1]? = some (.cells #[(.slice ys ls cs)] 48 (0, 0)) ∧ u.heap[p2]? = some (.cells #[gf] 48 (0, 0)) ∧ u.heap[p3]? = some (.cells #[.bool neg] 4 (0, 0)) ∧ IsW 400 u z5 (f + q * s) ∧ Below w.heap.size w u) from fun u z5 hb h5 => by
    have hbu : Below w.heap.size w u := hd.trans (hb.mono hd.size)
    exact ⟨(hbu.block p1 (block_lt hB1)).trans hB1, (hbu.block p2 (block_lt hB2)).trans hB2, (hbu.block p3 (block_lt hB3)).trans hB3, h5, hbu⟩
  clear hq hs hf hB1 hB2 hB3 hd
  go_enter Try.func47, Try.ntmps47
  go_wp2_with fail
  refine freeT_walk (Sem := semIv gq gf ys ls cs q s f) #[true, true, true, true, true, true, false, false] rfl (n := 13) rfl (by kernel_rfl) (by kernel_rfl) rfl (by kernel_rfl) ?_ ?_ ?_
  · intro ix v u u' h hb
    match ix, h with
    | 0, h => exact h
    | 1, h => exact h
    | 2, h => exact h
    | 3, h => exact h
    | 4, h => exact IsW.later h hb
    | 5, h => exact IsW.later h hb
    | 6, h => exact h
    | 7, h => exact h
    | _ + 8, _ => exact trivial
  · intro ix o a u ho hL hF hbu
    match ix, ho, hL, hF with
    | 0, ho, _, hF =>
      obtain rfl := Option.some.inj ho
      have h1 : a.tmps[1]? = some (.pointer (some ⟨p1, 0, none⟩)) := (hF.out 1 rfl).trans rfl
      have gx := (HU.out u hbu).1
      refine free_step rfl (by rfl) (fun K' hK => ?_)
      go_simp
      exact hK.out _ _ rfl (Below.refl _ _)
    | 1, ho, _, hF =>
      obtain rfl := Option.some.inj ho
      have h2 : a.tmps[2]? = some (.pointer (some ⟨p2, 0, none⟩)) := (hF.out 2 rfl).trans rfl
      have gx := (HU.out u hbu).2.1
      refine free_step rfl (by rfl) (fun K' hK => ?_)
      go_simp
      exact hK.out _ _ rfl (Below.refl _ _)
    | 2, ho, _, hF =>
      obtain rfl := Option.some.inj ho
      have h0 : a.tmps[0]? = some (gq) := (hF.out 0 rfl).trans rfl
      refine free_step rfl (by rfl) (fun K' hK => ?_)
      go_simp
      exact hK.out _ _ rfl (Below.refl _ _)
    | 3, ho, _, hF =>
      obtain rfl := Option.some.inj ho
      have h1 : a.tmps[1]? = some (.pointer (some ⟨p1, 0, none⟩)) := (hF.out 1 rfl).trans rfl
      have gx := (HU.out u hbu).1
      refine free_step rfl (by rfl) (fun K' hK => ?_)
      go_simp
      exact hK.out _ _ rfl (Below.refl _ _)
    | 4, ho, _, hF =>
      obtain rfl := Option.some.inj ho
      obtain ⟨v7, h7, s7⟩ := hF.dep 2 7 rfl rfl
      obtain rfl : v7 = gq := s7
      obtain ⟨v8, h8, s8⟩ := hF.dep 3 8 rfl rfl
      obtain rfl : v8 = (.slice ys ls cs) := s8
      refine free_step rfl (by rfl) (fun K' hK => ?_)
      go_wp2_with fail
      refine (wProduct 128 128 _ _ q s u (HU.out u hbu).2.2.1 (HU.out u hbu).2.2.2.1 (by omega) (by omega)).mono ?_
      rintro e u' ⟨⟨x, rfl, hI⟩, hb⟩
      go_simp
      exact hK.out _ _ hI hb
    | 5, ho, _, hF =>
      obtain rfl := Option.some.inj ho
      obtain ⟨v6, h6, s6⟩ := hF.dep 1 6 rfl rfl
      obtain rfl : v6 = gf := s6
      obtain ⟨v9, h9, s9⟩ := hF.dep 4 9 rfl rfl
      replace s9 : IsW 256 u v9 (q * s) := s9
      refine free_step rfl (by rfl) (fun K' hK => ?_)
      go_wp2_with fail
      refine (wSum 128 256 _ _ f (q * s) u (HU.out u hbu).2.2.2.2 s9 (by omega) (by omega)).mono ?_
      rintro e u' ⟨⟨x, rfl, hI⟩, hb⟩
      go_simp
      exact hK.out _ _ (hI.more (by decide)) hb
    | 6, _, hL, _ => exact absurd hL (by decide)
    | 7, _, hL, _ => exact absurd hL (by decide)
    | n + 8, ho, _, _ => exact absurd (Array.getElem?_eq_some_iff.1 ho).1 (by show ¬ n + 8 < 8; omega)
  · intro vs u m hm hS hbu
    have e0 : vs 0 = (.slice ys ls cs) := hS 0 5 rfl
    have s5 := hS 5 10 rfl
    simp only [putFrom, Act.put, List.setIfInBounds_toArray, List.set_cons_succ, List.set_cons_zero, Nat.reduceAdd]
    rw [e0]
    clear hS e0
    generalize vs 1 = z1
    generalize vs 2 = z2
    generalize vs 3 = z3
    generalize vs 4 = z4
    generalize vs 5 = z5 at *
    obtain ⟨m, rfl⟩ : ∃ k, m = k + 1 + 1 := ⟨m - 2, by have h2 : 2 ≤ m := hm; omega⟩
    obtain ⟨hB1, hB2, hB3, hS5, hbn⟩ : u.heap[p1]? = some (.cells #[(.slice ys ls cs)] 48 (0, 0)) ∧ u.heap[p2]? = some (.cells #[gf] 48 (0, 0)) ∧ u.heap[p3]? = some (.cells #[.bool neg] 4 (0, 0)) ∧ IsW 400 u z5 (f + q * s) ∧ Below w.heap.size w u := HE.out u z5 hbu s5
    clear hbu s5 HU HE
    obtain ⟨y5, l5, c5, rfl, _, _⟩ := id hS5.shape
    have c2 := block_cell (v := gf) 0 hB2 rfl
    have r2 := block_free 0 hB2
    have hX2 := setCell_block (i := 0) (u := (.slice ys ls cs)) hB2
    have hX1 := block_other ⟨p2, 0, none⟩ (.slice ys ls cs) hB1 h12
    have hX3 := block_other ⟨p2, 0, none⟩ (.slice ys ls cs) hB3 h32
    generalize hu2 : u.setCell ⟨p2, 0, none⟩ (.slice ys ls cs) = u2 at *
    have c1 := block_cell (v := (.slice ys ls cs)) 0 hX1 rfl
    have r1 := block_free 0 hX1
    refine any_op 6 (by kernel_rfl) rfl (by rfl) (fun K' hK => ?_)
    go_simp
    refine hK.out _ _ ?_
    clear hK
    refine any_op 7 (by kernel_rfl) rfl (by rfl) (fun K' hK => ?_)
    have hY1 := setCell_block (i := 0) (u := .slice y5 l5 c5) hX1
    have hY2 := block_other ⟨p1, 0, none⟩ (.slice y5 l5 c5) hX2 (Ne.symm h12)
    have hY3 := block_other ⟨p1, 0, none⟩ (.slice y5 l5 c5) hX3 h31
    generalize hu3 : u2.setCell ⟨p1, 0, none⟩ (.slice y5 l5 c5) = u3 at *
    have c3 := block_cell (v := .bool neg) 0 hY3 rfl
    have r3 := block_free 0 hY3
    go_simp
    refine hK.out _ _ (any_end (by kernel_rfl) ?_ _)
    clear hK
    have hZ3 := setCell_block (i := 0) (u := .bool (!neg)) hY3
    have hZ2 := block_other ⟨p3, 0, none⟩ (.bool (!neg)) hY2 (Ne.symm h32)
    have hZ1 := block_other ⟨p3, 0, none⟩ (.bool (!neg)) hY1 (Ne.symm h31)
    generalize hu4 : u3.setCell ⟨p3, 0, none⟩ (.bool (!neg)) = u4 at *
    have hk4 : KeptX [p1, p2, p3] w u4 := by
      rw [← hu4, ← hu3, ← hu2]
      exact ((KeptX.of hbn).trans (keptX_set _ (by simp))).trans ((keptX_set _ (by simp)).trans (keptX_set _ (by simp)))
    have hk5 : KeptX [p1, p2, p3] u u4 := by
      rw [← hu4, ← hu3, ← hu2]
      exact (keptX_set _ (by simp)).trans ((keptX_set _ (by simp)).trans (keptX_set _ (by simp)))
    have hS6 := hS5.kept hk5 (fun p hp => by
      simp only [List.mem_cons, List.not_mem_nil, or_false] at hp
      rcases hp with rfl | rfl | rfl
      · exact ⟨_, _, hB1, hv1⟩
      · exact ⟨_, _, hB2, hv2⟩
      · exact ⟨_, _, hB3, fun k z h => by cases h⟩)
    have HF := show Hid (u4.heap[p1]? = some (.cells #[.slice y5 l5 c5] 48 (0, 0)) ∧ u4.heap[p2]? = some (.cells #[(.slice ys ls cs)] 48 (0, 0)) ∧ u4.heap[p3]? = some (.cells #[.bool (!neg)] 4 (0, 0)) ∧ IsW 400 u4 (.slice y5 l5 c5) (f + q * s) ∧ KeptX [p1, p2, p3] w u4) from ⟨hZ1, hZ2, hZ3, hS6, hk4⟩
    clear hS6 hk4 hk5 hS5 hbn hB1 hB2 hB3 hX1 hX2 hX3 hY1 hY2 hY3 hZ1 hZ2 hZ3
    go_wp2_with fail
    go_end0
    exact ⟨rfl, ⟨_, HF.out.1, HF.out.2.2.2.1⟩, HF.out.2.1, HF.out.2.2.1, HF.out.2.2.2.2⟩
end Go.Proofs.Ythfgbcpppamboaa
