/-
  PLAIN: what is read depends on the bits that are read alone: of bytes that are cut the reading is the same, or they are short.
-/
import Derived.Test.YtbhnlomppobbkaaHPl2
namespace Go.Proofs.Ytbhnlomppobbkaa.Ch

/-- m is how l begins. -/
structure Cut (l m : List UInt8) : Prop where
  len : m.length ≤ l.length
  bit : ∀ i, i < 8 * m.length → bitL m i = bitL l i
  dat : ∀ a n, a + n ≤ m.length → (m.drop a).take n = (l.drop a).take n
theorem cut_take (l : List UInt8) (k : Nat) (h : k ≤ l.length) : Cut l (l.take k) := by
  have hl : (l.take k).length = k := by rw [List.length_take]; omega
  refine ⟨by omega, fun i hi => ?_, fun a n h => ?_⟩
  · have := bitL_append (l.take k) (l.drop k) i hi
    rw [List.take_append_drop] at this
    exact this.symm
  · rw [List.drop_take, List.take_take, Nat.min_eq_left (by omega)]
/-- What is answered at m where r is answered at l. -/
def Loc {α : Type} (m : List UInt8) (q : Nat) (x : α) (r : Except Nat α) : Prop := (q ≤ 8 * m.length → r = .ok x) ∧ (8 * m.length < q → r = .error 11)
theorem rdNum_loc {l m : List UInt8} (h : Cut l m) {k p x q : Nat} (hr : rdNum l k p = .ok (x, q)) : p ≤ q ∧ q ≤ 8 * l.length ∧ Loc m q (x, q) (rdNum m k p) := by
  unfold rdNum at hr
  split at hr
  · rename_i hp
    simp only [Except.ok.injEq, Prod.mk.injEq] at hr
    obtain ⟨rfl, rfl⟩ := hr
    refine ⟨by omega, hp, fun hq => ?_, fun hq => ?_⟩
    · unfold rdNum
      rw [if_pos hq]
      have e : numAt m p k = numAt l p k := by
        unfold numAt
        congr 1
        apply List.map_congr_left
        intro i hi
        have := List.mem_range.1 hi
        exact h.bit _ (by omega)
      rw [e]
    · unfold rdNum
      rw [if_neg (by omega)]
  · cases hr
theorem sgnF_loc {l m : List UInt8} (h : Cut l m) {L : List Nat} : ∀ (f n c p s q : Nat), sgnF L l f n c p = .ok (s, q) → p < q ∧ Loc m q (s, q) (sgnF L m f n c p) := by
  intro f
  induction f with
  | zero => intro n c p s q hr; cases hr
  | succ f ih =>
    intro n c p s q hr
    rw [sgnF] at hr
    unfold Loc
    rw [sgnF]
    split at hr
    · rename_i h1
      rw [if_pos h1]
      split at hr
      · rename_i h2
        by_cases h3 : p + 1 ≤ 8 * m.length
        · rw [if_pos h3, h.bit p (by omega)]
          split at hr
          · rename_i h4
            simp only [Except.ok.injEq, Prod.mk.injEq] at hr
            obtain ⟨rfl, rfl⟩ := hr
            rw [if_pos h4]
            exact ⟨by omega, fun _ => rfl, fun h => by omega⟩
          · rename_i h4
            rw [if_neg h4]
            obtain ⟨a, b⟩ := ih _ _ _ _ _ hr
            exact ⟨by omega, b⟩
        · rw [if_neg h3]
          have hpq : p < q := by
            split at hr
            · simp only [Except.ok.injEq, Prod.mk.injEq] at hr
              omega
            · have := (ih _ _ _ _ _ hr).1
              omega
          exact ⟨hpq, fun hq => by omega, fun _ => rfl⟩
      · cases hr
    · cases hr
theorem sgn_loc {l m : List UInt8} (h : Cut l m) {L : List Nat} {p s q : Nat} (hr : sgn L l p = .ok (s, q)) : p < q ∧ Loc m q (s, q) (sgn L m p) := sgnF_loc h _ _ _ _ _ _ hr
theorem stepAt_loc {l m : List UInt8} (h : Cut l m) {i g p x q : Nat} (hr : stepAt l i g p = .ok (x, q)) : p ≤ q ∧ Loc m q (x, q) (stepAt m i g p) := by
  unfold stepAt at hr
  split at hr
  · rename_i y q' he
    simp only [Except.ok.injEq, Prod.mk.injEq] at hr
    obtain ⟨rfl, rfl⟩ := hr
    obtain ⟨a, _, b, c⟩ := rdNum_loc h he
    refine ⟨a, fun hq => ?_, fun hq => ?_⟩
    · unfold stepAt; rw [b hq]
    · unfold stepAt; rw [c hq]
  · cases hr
theorem lenAt_loc {l m : List UInt8} (h : Cut l m) {s p x q : Nat} (hp : p ≤ 8 * m.length) (hr : lenAt l s p = .ok (x, q)) : p ≤ q ∧ Loc m q (x, q) (lenAt m s p) := by
  unfold lenAt at hr
  unfold Loc lenAt
  split at hr
  · rename_i h1
    rw [if_pos h1]
    split at hr
    · rename_i y q' he
      simp only [Except.ok.injEq, Prod.mk.injEq] at hr
      obtain ⟨rfl, rfl⟩ := hr
      obtain ⟨a, b, c⟩ := stepAt_loc h he
      refine ⟨a, fun hq => ?_, fun hq => ?_⟩
      · rw [b hq]
      · rw [c hq]
    · cases hr
  · rename_i h1
    rw [if_neg h1]
    simp only [Except.ok.injEq, Prod.mk.injEq] at hr
    obtain ⟨rfl, rfl⟩ := hr
    exact ⟨Nat.le_refl _, fun _ => rfl, fun hq => by omega⟩
theorem copyOf_loc {l m : List UInt8} (h : Cut l m) {B : List Nat} {most s p q : Nat} {text t2 : List UInt8} (hp : p ≤ 8 * m.length) (hr : copyOf B l most s p text = .ok (q, t2)) : p < q ∧ Loc m q (q, t2) (copyOf B m most s p text) := by
  unfold copyOf at hr
  unfold Loc copyOf
  split at hr
  · rename_i h1
    rw [if_pos h1]
    split at hr
    · cases hr
    · rename_i size p2 h2
      obtain ⟨a1, b1, c1⟩ := lenAt_loc h hp h2
      split at hr
      · cases hr
      · rename_i d p3 h3
        obtain ⟨a2, b2, c2⟩ := sgn_loc h h3
        split at hr
        · rename_i h4
          split at hr
          · cases hr
          · rename_i x p4 h5
            obtain ⟨a3, b3, c3⟩ := stepAt_loc h h5
            split at hr
            · rename_i h6
              split at hr
              · rename_i h7
                simp only [Except.ok.injEq, Prod.mk.injEq] at hr
                obtain ⟨rfl, rfl⟩ := hr
                refine ⟨by omega, fun hq => ?_, fun hq => ?_⟩
                · rw [b1 (by omega)]
                  simp only
                  rw [b2 (by omega)]
                  simp only
                  rw [if_pos h4, b3 hq]
                  simp only
                  rw [if_pos h6, if_pos h7]
                · by_cases g1 : p2 ≤ 8 * m.length
                  · rw [b1 g1]
                    simp only
                    by_cases g2 : p3 ≤ 8 * m.length
                    · rw [b2 g2]
                      simp only
                      rw [if_pos h4, c3 hq]
                    · rw [c2 (by omega)]
                  · rw [c1 (by omega)]
              · cases hr
            · cases hr
        · cases hr
  · cases hr
theorem cut_self (l : List UInt8) : Cut l l := ⟨Nat.le_refl _, fun _ _ => rfl, fun _ _ _ => rfl⟩
theorem copyOf_far {l : List UInt8} {B : List Nat} {most s p q : Nat} {text t2 : List UInt8} (hp : p ≤ 8 * l.length) (hr : copyOf B l most s p text = .ok (q, t2)) : p < q := (copyOf_loc (cut_self l) hp hr).1
theorem signsF_loc {l m : List UInt8} (h : Cut l m) {L B : List Nat} {most : Nat} : ∀ (f g p q : Nat) (text t2 : List UInt8), signsF L B l most f p text = .ok (q, t2) → 8 * m.length + 1 ≤ g + p → p < q ∧ Loc m q (q, t2) (signsF L B m most g p text) := by
  intro f
  induction f with
  | zero => intro g p q text t2 hr _; cases hr
  | succ f ih =>
    intro g p q text t2 hr hg
    rw [signsF] at hr
    split at hr
    · cases hr
    · rename_i s p1 h1
      obtain ⟨a1, b1, c1⟩ := sgn_loc h h1
      have hshort : 8 * m.length < p1 → signsF L B m most g p text = .error 11 := by
        intro hp
        cases g with
        | zero => rfl
        | succ g => rw [signsF, c1 hp]
      split at hr
      · rename_i h2
        split at hr
        · rename_i h3
          by_cases g1 : p1 ≤ 8 * m.length
          · obtain ⟨g, rfl⟩ : ∃ g', g = g' + 1 := ⟨g - 1, by omega⟩
            obtain ⟨a2, b2⟩ := ih g _ _ _ _ hr (by omega)
            refine ⟨by omega, ?_⟩
            rw [signsF, b1 g1]
            simp only
            rw [if_pos h2, if_pos h3]
            exact b2
          · obtain ⟨a2, b2⟩ := ih (8 * m.length + 1) _ _ _ _ hr (by omega)
            exact ⟨by omega, fun hq => by omega, fun _ => hshort (by omega)⟩
        · cases hr
      · rename_i h2
        split at hr
        · rename_i h3
          simp only [Except.ok.injEq, Prod.mk.injEq] at hr
          obtain ⟨rfl, rfl⟩ := hr
          refine ⟨a1, fun hq => ?_, hshort⟩
          obtain ⟨g, rfl⟩ : ∃ g', g = g' + 1 := ⟨g - 1, by omega⟩
          rw [signsF, b1 hq]
          simp only
          rw [if_neg h2, if_pos h3]
        · rename_i h3
          split at hr
          · cases hr
          · rename_i p2 text2 h4
            by_cases g1 : p1 ≤ 8 * m.length
            · obtain ⟨g, rfl⟩ : ∃ g', g = g' + 1 := ⟨g - 1, by omega⟩
              obtain ⟨a3, b3, c3⟩ := copyOf_loc h g1 h4
              by_cases g2 : p2 ≤ 8 * m.length
              · obtain ⟨a2, b2⟩ := ih g _ _ _ _ hr (by omega)
                refine ⟨by omega, ?_⟩
                rw [signsF, b1 g1]
                simp only
                rw [if_neg h2, if_neg h3, b3 g2]
                exact b2
              · obtain ⟨a2, b2⟩ := ih (8 * m.length + 1) _ _ _ _ hr (by omega)
                refine ⟨by omega, fun hq => by omega, fun _ => ?_⟩
                rw [signsF, b1 g1]
                simp only
                rw [if_neg h2, if_neg h3, c3 (by omega)]
            · have h5 := copyOf_far (sgn_ok h1).2.2 h4
              obtain ⟨a2, b2⟩ := ih (8 * m.length + 1) _ _ _ _ hr (by omega)
              exact ⟨by omega, fun hq => by omega, fun _ => hshort (by omega)⟩
theorem rawL_loc {l m : List UInt8} (h : Cut l m) {most p q : Nat} {text t2 : List UInt8} (hr : rawL l most p text = .ok (q, t2)) : p < q ∧ Loc m q (q, t2) (rawL m most p text) := by
  unfold rawL at hr
  unfold Loc rawL
  split at hr
  · cases hr
  · rename_i n p1 h1
    obtain ⟨a1, _, b1, c1⟩ := rdNum_loc h h1
    have e1 : p1 = (p + 7) / 8 * 8 + 16 := by
      unfold rdNum at h1
      split at h1
      · simp only [Except.ok.injEq, Prod.mk.injEq] at h1; omega
      · cases h1
    split at hr
    · cases hr
    · rename_i x p2 h2
      obtain ⟨a2, _, b2, c2⟩ := rdNum_loc h h2
      have e2 : p2 = p1 + 16 := by
        unfold rdNum at h2
        split at h2
        · simp only [Except.ok.injEq, Prod.mk.injEq] at h2; omega
        · cases h2
      split at hr
      · rename_i h3
        split at hr
        · rename_i h4
          split at hr
          · rename_i h5
            simp only [Except.ok.injEq, Prod.mk.injEq] at hr
            obtain ⟨rfl, rfl⟩ := hr
            refine ⟨by omega, fun hq => ?_, fun hq => ?_⟩
            · rw [b1 (by omega)]
              simp only
              rw [b2 (by omega)]
              simp only
              rw [if_pos h3, if_pos h4, if_pos (by omega), h.dat _ _ (by omega)]
            · by_cases g1 : p1 ≤ 8 * m.length
              · rw [b1 g1]
                simp only
                by_cases g2 : p2 ≤ 8 * m.length
                · rw [b2 g2]
                  simp only
                  rw [if_pos h3, if_pos h4, if_neg (by omega)]
                · rw [c2 (by omega)]
              · rw [c1 (by omega)]
          · cases hr
        · cases hr
      · cases hr
theorem blockL_loc {l m : List UInt8} (h : Cut l m) {O : Nat → List UInt8 → Except Nat (Nat × List UInt8)} (hO : ∀ p t x, O p t ≠ .ok x) {most p q : Nat} {text t2 : List UInt8} {last : Bool} (hr : blockL O l most p text = .ok (last, q, t2)) : p < q ∧ Loc m q (last, q, t2) (blockL O m most p text) := by
  unfold blockL at hr
  unfold Loc blockL
  split at hr
  · cases hr
  · rename_i b p1 h1
    obtain ⟨a1, _, b1, c1⟩ := rdNum_loc h h1
    split at hr
    · cases hr
    · rename_i k p2 h2
      obtain ⟨a2, _, b2, c2⟩ := rdNum_loc h h2
      split at hr
      · cases hr
      · rename_i p3 t3 h3
        simp only [Except.ok.injEq, Prod.mk.injEq] at hr
        obtain ⟨rfl, rfl, rfl⟩ := hr
        have key : p2 < p3 ∧ (p2 ≤ 8 * m.length → Loc m p3 (p3, t3) (if k = 0 then rawL m most p2 text else if k = 1 then signsL fixedL fixedD m most p2 text else if k = 2 then O p2 text else .error 10)) := by
          by_cases k0 : k = 0
          · rw [if_pos k0] at h3 ⊢
            have := rawL_loc h h3
            exact ⟨this.1, fun _ => this.2⟩
          · rw [if_neg k0] at h3 ⊢
            by_cases k1 : k = 1
            · rw [if_pos k1] at h3 ⊢
              unfold signsL at h3
              refine ⟨(signsF_loc h _ (8 * m.length + 1) _ _ _ _ h3 (by omega)).1, fun hp => ?_⟩
              exact (signsF_loc h _ _ _ _ _ _ h3 (by omega)).2
            · rw [if_neg k1] at h3 ⊢
              by_cases k2 : k = 2
              · rw [if_pos k2] at h3
                exact absurd h3 (hO _ _ _)
              · rw [if_neg k2] at h3
                cases h3
        obtain ⟨a3, hL⟩ := key
        refine ⟨by omega, fun hq => ?_, fun hq => ?_⟩
        · rw [b1 (by omega)]
          simp only
          rw [b2 (by omega)]
          simp only
          rw [(hL (by omega)).1 hq]
        · by_cases g1 : p1 ≤ 8 * m.length
          · rw [b1 g1]
            simp only
            by_cases g2 : p2 ≤ 8 * m.length
            · rw [b2 g2]
              simp only
              rw [(hL g2).2 hq]
            · rw [c2 (by omega)]
          · rw [c1 (by omega)]
theorem blocksF_loc {l m : List UInt8} (h : Cut l m) {O : Nat → List UInt8 → Except Nat (Nat × List UInt8)} (hO : ∀ p t x, O p t ≠ .ok x) {most : Nat} : ∀ (f g p q : Nat) (text t2 : List UInt8), blocksF O l most f p text = .ok (q, t2) → 8 * m.length < q → blocksF O m most g p text = .error 11 := by
  intro f
  induction f with
  | zero => intro g p q text t2 hr _; cases hr
  | succ f ih =>
    intro g p q text t2 hr hg
    rw [blocksF] at hr
    split at hr
    · cases hr
    · rename_i last p2 t3 h1
      obtain ⟨a1, b1, c1⟩ := blockL_loc h hO h1
      cases g with
      | zero => rfl
      | succ g =>
        by_cases g1 : p2 ≤ 8 * m.length
        · rw [blocksF, b1 g1]
          split at hr
          · simp only [Except.ok.injEq, Prod.mk.injEq] at hr
            omega
          · rename_i h2
            simp only [h2]
            exact ih g _ _ _ _ hr hg
        · rw [blocksF, c1 (by omega)]
/-- Bytes that are cut are short. -/
theorem infl_cut {O : Nat → List UInt8 → Except Nat (Nat × List UInt8)} (hO : ∀ p t x, O p t ≠ .ok x) {l t2 : List UInt8} {most q k : Nat} (hr : inflL O l most = .ok (q, t2)) (hk : k ≤ l.length) (hq : 8 * k < q) : inflL O (l.take k) most = .error 11 := by
  have hl : (l.take k).length = k := by rw [List.length_take]; omega
  unfold inflL at hr ⊢
  exact blocksF_loc (cut_take l k hk) hO _ _ _ _ _ _ hr (by rw [hl]; exact hq)
end Go.Proofs.Ytbhnlomppobbkaa.Ch
