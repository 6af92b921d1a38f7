/-
  Layer 3's plain facts: there and back, put together, one to one.
-/
import Derived.Test.YtnkefpopkaagaaaDoorEUnp
namespace Go.Proofs.YtnkefpopkaagaaaDoor
open Go.RowKit Ch
set_option maxRecDepth 100000

theorem percL_append (a b : List UInt8) : percL (a ++ b) = percL a ++ percL b := by simp [percL]
theorem turnL_append (how : Nat) (a b : List UInt8) : turnL how (a ++ b) = turnL how a ++ turnL how b := by simp [turnL]
theorem big_dig : ∀ n : Fin 16, isDig (big8 n.val) = true ∧ digitZ (big8 n.val).toNat = (n.val : Int) := by decide +kernel
theorem two_big (c : UInt8) : two (big8 (c.toNat / 16)) (big8 (c.toNat % 16)) = c := by
  have hc := c.toNat_lt
  have h1 := (big_dig ⟨c.toNat / 16, by omega⟩).2
  have h2 := (big_dig ⟨c.toNat % 16, by omega⟩).2
  simp only at h1 h2
  unfold two
  rw [h1, h2]
  apply UInt8.toNat_inj.1
  rw [UInt8.toNat_ofNat']
  omega
theorem unp_perc8 (plus : Bool) (c : UInt8) (r : List UInt8) : unpL plus (perc8 c ++ r) = (unpL plus r).map (c :: ·) := by
  by_cases h : (65 ≤ c.toNat ∧ c.toNat ≤ 90) ∨ (97 ≤ c.toNat ∧ c.toNat ≤ 122) ∨ (48 ≤ c.toNat ∧ c.toNat ≤ 57) ∨ c.toNat = 45 ∨ c.toNat = 46 ∨ c.toNat = 95 ∨ c.toNat = 126
  · have h37 : c ≠ 37 := fun e => by rw [e] at h; exact absurd h (by decide)
    have h43 : c ≠ 43 := fun e => by rw [e] at h; exact absurd h (by decide)
    rw [plain_true h, List.cons_append, List.nil_append, unp_plain h37]
    have : sub8 plus c = c := by unfold sub8; rw [if_neg (fun e => h43 e.1)]
    rw [this]
  · have hc := c.toNat_lt
    rw [plain_false h, List.cons_append, List.cons_append, List.cons_append, List.nil_append]
    rw [unp_code (big_dig ⟨c.toNat / 16, by omega⟩).1 (big_dig ⟨c.toNat % 16, by omega⟩).1, two_big]
/-- Out of percent coding is the text that was coded. -/
theorem unp_perc (plus : Bool) : ∀ l : List UInt8, unpL plus (percL l) = some l
  | [] => rfl
  | c :: l => by rw [percL_cons, unp_perc8, unp_perc plus l]; rfl
theorem perc_inj {a b : List UInt8} (h : percL a = percL b) : a = b := by
  have h1 := unp_perc true a
  rw [h, unp_perc] at h1
  exact (Option.some.inj h1).symm
theorem turn_none {how : Nat} {c : UInt8} (h : c ≠ 38 ∧ c ≠ 60 ∧ c ≠ 62 ∧ c ≠ 34 ∧ c ≠ 39 ∧ c ≠ 13 ∧ c ≠ 9 ∧ c ≠ 10) : turn8 how c = [c] := by
  unfold turn8
  rw [if_neg h.1, if_neg h.2.1, if_neg (fun e => h.2.2.1 e.1), if_neg (fun e => h.2.2.2.1 e.1), if_neg (fun e => h.2.2.2.2.1 e.1), if_neg (fun e => h.2.2.2.2.2.1 e.1), if_neg (fun e => h.2.2.2.2.2.2.1 e.1), if_neg (fun e => h.2.2.2.2.2.2.2 e.1)]
def specials : List UInt8 := [38, 60, 62, 34, 39, 13, 9, 10]
theorem special_or (c : UInt8) : c ∈ specials ∨ (c ≠ 38 ∧ c ≠ 60 ∧ c ≠ 62 ∧ c ≠ 34 ∧ c ≠ 39 ∧ c ≠ 13 ∧ c ≠ 9 ∧ c ≠ 10) := by
  by_cases h : c ∈ specials
  · exact .inl h
  · refine .inr ?_
    simp [specials] at h
    exact h
/-- No byte's text is the beginning of another's. -/
theorem turn_special : ∀ how : Fin 3, ∀ c ∈ specials, ∀ d ∈ specials, turn8 (how.val + 1) c <+: turn8 (how.val + 1) d → c = d := by decide +kernel
theorem turn_head : ∀ how : Fin 3, ∀ c ∈ specials, (turn8 (how.val + 1) c).head? = some 38 ∨ turn8 (how.val + 1) c = [c] := by decide +kernel
theorem turn_prefix (how : Fin 3) (c d : UInt8) (h : turn8 (how.val + 1) c <+: turn8 (how.val + 1) d) : c = d := by
  rcases special_or c with hc | hc
  · rcases special_or d with hd | hd
    · exact turn_special how c hc d hd h
    · rw [turn_none hd] at h
      rcases turn_head how c hc with e | e
      · exfalso
        match ht : turn8 (how.val + 1) c, e with
        | x :: r, e =>
          rw [ht] at h
          simp at e
          rw [List.cons_prefix_cons] at h
          exact hd.1 (h.1.symm.trans e)
      · rw [e, List.cons_prefix_cons] at h
        exact h.1
  · rw [turn_none hc] at h
    rcases special_or d with hd | hd
    · rcases turn_head how d hd with e | e
      · exfalso
        match ht : turn8 (how.val + 1) d, e with
        | x :: r, e =>
          rw [ht] at h
          simp at e
          rw [List.cons_prefix_cons] at h
          exact hc.1 (h.1.trans e)
      · rw [e, List.cons_prefix_cons] at h
        exact h.1
    · rw [turn_none hd, List.cons_prefix_cons] at h
      exact h.1
theorem turn_ne (how : Fin 3) (c : UInt8) : turn8 (how.val + 1) c ≠ [] := by
  rcases special_or c with hc | hc
  · rcases turn_head how c hc with e | e
    · intro h; rw [h] at e; cases e
    · rw [e]; simp
  · rw [turn_none hc]; simp
/-- Unlike texts are turned unlike. -/
theorem turn_inj (how : Fin 3) : ∀ a b : List UInt8, turnL (how.val + 1) a = turnL (how.val + 1) b → a = b
  | [], [], _ => rfl
  | [], d :: b, h => by
    rw [turnL_cons] at h
    have : turn8 (how.val + 1) d = [] := (List.append_eq_nil_iff.1 h.symm).1
    exact absurd this (turn_ne how d)
  | c :: a, [], h => by
    rw [turnL_cons] at h
    have : turn8 (how.val + 1) c = [] := (List.append_eq_nil_iff.1 h).1
    exact absurd this (turn_ne how c)
  | c :: a, d :: b, h => by
    rw [turnL_cons, turnL_cons] at h
    have hcd : c = d := by
      rcases List.append_eq_append_iff.1 h with ⟨t, h1, _⟩ | ⟨t, h1, _⟩
      · exact turn_prefix how c d ⟨t, h1.symm⟩
      · exact (turn_prefix how d c ⟨t, h1.symm⟩).symm
    subst hcd
    rw [turn_inj how a b (List.append_cancel_left h)]
/-- By what signs a text could be left: none of them is in it. -/
def barred : Fin 3 → List UInt8
  | 0 => [60, 34, 10]
  | 1 => [60, 62, 13]
  | 2 => [60, 62, 34, 39]
theorem turn_clean8 : ∀ how : Fin 3, ∀ c ∈ specials, ∀ x ∈ turn8 (how.val + 1) c, x ∉ barred how := by decide +kernel
theorem barred_special : ∀ how : Fin 3, ∀ x ∈ barred how, x ∈ specials := by decide +kernel
theorem turn_clean (how : Fin 3) (l : List UInt8) : ∀ x ∈ turnL (how.val + 1) l, x ∉ barred how := by
  intro x hx
  unfold turnL at hx
  obtain ⟨c, _, hc⟩ := List.mem_flatMap.1 hx
  rcases special_or c with h | h
  · exact turn_clean8 how c h x hc
  · rw [turn_none h] at hc
    simp at hc
    subst hc
    intro hb
    have := barred_special how x hb
    simp [specials, h] at this
end Go.Proofs.YtnkefpopkaagaaaDoor
