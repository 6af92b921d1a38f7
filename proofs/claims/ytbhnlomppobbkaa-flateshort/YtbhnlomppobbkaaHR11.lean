/-
  The program's reader: a block.
-/
import Derived.Test.YtbhnlomppobbkaaHR10
import Derived.Test.YtbhnlomppobbkaaHR7
namespace Go.Proofs.Ytbhnlomppobbkaa
open Go.RowKit Ch
set_option maxRecDepth 100000

theorem rawL_ok {l : List UInt8} {most p q : Nat} {text t : List UInt8} (h : rawL l most p text = .ok (q, t)) : p < q ∧ q ≤ 8 * l.length ∧ t.length ≤ text.length + (q - p) := by
  unfold rawL at h
  cases hx : rdNum l 16 ((p + 7) / 8 * 8) with
  | error e => rw [hx] at h; cases h
  | ok nq =>
    obtain ⟨n, q1⟩ := nq
    rw [hx] at h
    simp only at h
    cases hy : rdNum l 16 q1 with
    | error e => rw [hy] at h; cases h
    | ok mq =>
      obtain ⟨m, q2⟩ := mq
      rw [hy] at h
      simp only at h
      split at h
      · split at h
        · split at h
          · simp only [Except.ok.injEq, Prod.mk.injEq] at h
            obtain ⟨rfl, rfl⟩ := h
            rw [List.length_append, List.length_take, List.length_drop]
            omega
          · cases h
        · cases h
      · cases h
theorem signsF_ok {L B : List Nat} {l : List UInt8} {most : Nat} : ∀ (f p : Nat) (text : List UInt8) (q : Nat) (t : List UInt8), signsF L B l most f p text = .ok (q, t) → text.length ≤ 300 * p → p < q ∧ q ≤ 8 * l.length ∧ t.length ≤ 300 * q := by
  intro f
  induction f with
  | zero => intro p text q t h _; cases h
  | succ f ih =>
    intro p text q t h hT
    rw [signsF] at h
    cases hx : sgn L l p with
    | error e => rw [hx] at h; cases h
    | ok sq =>
      obtain ⟨sg, p1⟩ := sq
      rw [hx] at h
      obtain ⟨_, h1, h2⟩ := sgn_ok hx
      simp only at h
      split at h
      · split at h
        · obtain ⟨a, b, c⟩ := ih _ _ _ _ h (by rw [List.length_append, List.length_singleton]; omega)
          exact ⟨by omega, b, c⟩
        · cases h
      · split at h
        · simp only [Except.ok.injEq, Prod.mk.injEq] at h
          obtain ⟨rfl, rfl⟩ := h
          exact ⟨h1, h2, by omega⟩
        · cases hy : copyOf B l most sg p1 text with
          | error e => rw [hy] at h; cases h
          | ok qt =>
            obtain ⟨q2, t2⟩ := qt
            rw [hy] at h
            obtain ⟨k1, k2, k3⟩ := copyOf_ok hy (by omega)
            obtain ⟨a, b, c⟩ := ih _ _ _ _ h (by omega)
            exact ⟨by omega, b, c⟩
/-- What a block by codes of its own comes to. -/
structure OwnOk (rb : Nat) (s : ByteArray) (most : Nat) (O : Nat → List UInt8 → Except Nat (Nat × List UInt8)) : Prop where
  calls : ∀ (p : Nat) (text : List UInt8) (fv fx bk tv : Value) (w : World), Rd rb s most fv fx bk p text tv w → text.length ≤ 300 * p → O p text ≠ .error 99 →
    Calls Try.prog 45 #[.pointer (some ⟨rb, 0, none⟩)] w (Ends rb w (O p text) fun x e w' => e = .returned (.tuple #[]) ∧ ∃ tv', Rd rb s most fv fx bk x.1 x.2 tv' w' ∧ Kept rb w w')
  len : ∀ (p : Nat) (text : List UInt8) (q : Nat) (t : List UInt8), O p text = .ok (q, t) → text.length ≤ 300 * p → p ≤ q ∧ q ≤ 8 * s.size ∧ t.length ≤ 300 * q
theorem FxState.kept {rb : Nat} {fx bk : Value} {W W' : World} (h : FxState rb fx bk W) (hk : Kept rb W W') : FxState rb fx bk W' := by
  rcases h with h | ⟨h1, h2⟩
  · exact .inl h
  · exact .inr ⟨h1.kept hk, h2.kept hk⟩
theorem blockL_ok {O : Nat → List UInt8 → Except Nat (Nat × List UInt8)} {s : ByteArray} {most rb p q : Nat} {text t : List UInt8} {last : Bool} (hO : OwnOk rb s most O) (h : blockL O s.data.toList most p text = .ok (last, q, t)) (hT : text.length ≤ 300 * p) : p < q ∧ q ≤ 8 * s.size ∧ t.length ≤ 300 * q := by
  unfold blockL at h
  cases hx : rdNum s.data.toList 1 p with
  | error e => rw [hx] at h; cases h
  | ok bq =>
    obtain ⟨b, p1⟩ := bq
    rw [hx] at h
    obtain ⟨_, h1, _⟩ := rdNum_ok hx
    simp only at h
    cases hy : rdNum s.data.toList 2 p1 with
    | error e => rw [hy] at h; cases h
    | ok kq =>
      obtain ⟨k, p2⟩ := kq
      rw [hy] at h
      obtain ⟨_, h2, _⟩ := rdNum_ok hy
      simp only at h
      cases hz : (if k = 0 then rawL s.data.toList most p2 text else if k = 1 then signsL fixedL fixedD s.data.toList most p2 text else if k = 2 then O p2 text else .error 10) with
      | error e => rw [hz] at h; cases h
      | ok pt =>
        obtain ⟨p3, t3⟩ := pt
        rw [hz] at h
        simp only [Except.ok.injEq, Prod.mk.injEq] at h
        obtain ⟨_, rfl, rfl⟩ := h
        have hl := len_eq s
        split at hz
        · obtain ⟨a, b, c⟩ := rawL_ok hz
          exact ⟨by omega, by omega, by omega⟩
        · split at hz
          · obtain ⟨a, b, c⟩ := signsF_ok _ _ _ _ _ hz (by omega)
            exact ⟨by omega, by omega, c⟩
          · split at hz
            · obtain ⟨a, b, c⟩ := hO.len _ _ _ _ hz (by omega)
              exact ⟨by omega, b, c⟩
            · cases hz
set_option maxHeartbeats 8000000 in
theorem rdBlock_any (O : Nat → List UInt8 → Except Nat (Nat × List UInt8)) (rb : Nat) (s : ByteArray) (most p : Nat) (fv fx bk tv : Value) (text : List UInt8) (w : World) (hO : OwnOk rb s most O) (h : Rd rb s most fv fx bk p text tv w) (hF : FxState rb fx bk w) (hs : s.size ≤ 1000000) (hm : most ≤ 9223372036854775807) (hT : text.length ≤ 300 * p) (h99 : blockL O s.data.toList most p text ≠ .error 99) :
    Calls Try.prog 31 #[.pointer (some ⟨rb, 0, none⟩)] w (Ends rb w (blockL O s.data.toList most p text) fun x e w' => e = .returned (.bool (!x.1)) ∧ ∃ tv' fx' bk', Rd rb s most fv fx' bk' x.2.1 x.2.2 tv' w' ∧ FxState rb fx' bk' w' ∧ Kept rb w w') := by
  have hN1 := rdNumber_any rb s most p fv fx bk tv text w h 1 (by omega) hs
  unfold blockL at h99 ⊢
  cases hx : rdNum s.data.toList 1 p with
  | error k =>
    rw [hx] at hN1
    clear h99 hx
    go_enter Try.func31, Try.ntmps31
    go_wp2_with fail
    refine hN1.mono ?_
    rintro e w1 ⟨rfl, hb1⟩
    go_wp2_with fail
    exact ⟨rfl, rfl, hb1⟩
  | ok bq =>
    obtain ⟨b, p1⟩ := bq
    rw [hx] at hN1 h99
    obtain ⟨hb2, hp1, _⟩ := rdNum_ok hx
    clear hx
    simp only at h99 ⊢
    cases hy : rdNum s.data.toList 2 p1 with
    | error k =>
      have hN2 := fun w1 h1 => rdNumber_any rb s most p1 fv fx bk tv text w1 h1 2 (by omega) hs
      rw [hy] at hN2
      clear h99 hy
      go_enter Try.func31, Try.ntmps31
      go_wp2_with fail
      refine hN1.mono ?_
      rintro e w1 ⟨rfl, hR1, hK1⟩
      go_wp2_with fail
      refine (hN2 w1 hR1).mono ?_
      rintro e w2 ⟨rfl, hb2⟩
      go_wp2_with fail
      exact ⟨rfl, rfl, hK1.below.trans hb2⟩
    | ok kq =>
      obtain ⟨k, p2⟩ := kq
      have hN2 := fun w1 h1 => rdNumber_any rb s most p1 fv fx bk tv text w1 h1 2 (by omega) hs
      rw [hy] at hN2 h99
      obtain ⟨hk4, hp2, _⟩ := rdNum_ok hy
      clear hy
      simp only at h99 ⊢
      have hlast : ((b : Int) == 1) = (b == 1) := by
        by_cases e : b = 1
        · subst e; rfl
        · rw [beq_eq_false_iff_ne.2 e, beq_eq_false_iff_ne.2 (by omega)]
      generalize (b == 1) = lst at *
      by_cases k0 : k = 0
      · subst k0
        simp only [if_true] at h99 ⊢
        have hS := fun w2 h2 => rdStored_any rb s most p2 fv fx bk tv text w2 h2 hs hm (by omega)
        cases hz : rawL s.data.toList most p2 text with
        | error k =>
          rw [hz] at hS
          clear h99 hz
          go_enter Try.func31, Try.ntmps31
          go_wp2_with fail
          refine hN1.mono ?_
          rintro e w1 ⟨rfl, hR1, hK1⟩
          go_wp2_with fail
          refine (hN2 w1 hR1).mono ?_
          rintro e w2 ⟨rfl, hR2, hK2⟩
          go_wp2_with (go_at_call 43; go_must (refine (hS w2 hR2).mono ?_; rintro e w3 ⟨rfl, hb3⟩))
          exact ⟨rfl, rfl, (hK1.trans hK2).below.trans hb3⟩
        | ok x =>
          rw [hz] at hS
          clear h99 hz
          go_enter Try.func31, Try.ntmps31
          go_wp2_with fail
          refine hN1.mono ?_
          rintro e w1 ⟨rfl, hR1, hK1⟩
          go_wp2_with fail
          refine (hN2 w1 hR1).mono ?_
          rintro e w2 ⟨rfl, hR2, hK2⟩
          go_wp2_with (go_at_call 43; go_must (refine (hS w2 hR2).mono ?_; rintro e w3 ⟨rfl, v3, hR3, hK3⟩))
          go_wp2
          go_ret
          exact ⟨rfl, v3, fx, bk, hR3, hF.kept ((hK1.trans hK2).trans hK3), (hK1.trans hK2).trans hK3⟩
      · by_cases k1 : k = 1
        · subst k1
          simp only [if_true, if_neg k0] at h99 ⊢
          have hS := fun w2 h2 hf2 => rdFixed_any rb s most p2 fv fx bk tv text w2 h2 hf2 hs hm (by omega)
          cases hz : signsL fixedL fixedD s.data.toList most p2 text with
          | error k =>
            rw [hz] at hS
            clear h99 hz
            go_enter Try.func31, Try.ntmps31
            go_wp2_with fail
            refine hN1.mono ?_
            rintro e w1 ⟨rfl, hR1, hK1⟩
            go_wp2_with fail
            refine (hN2 w1 hR1).mono ?_
            rintro e w2 ⟨rfl, hR2, hK2⟩
            go_wp2_with (go_at_call 44; go_must (refine (hS w2 hR2 (hF.kept (hK1.trans hK2))).mono ?_; rintro e w3 ⟨rfl, hb3⟩))
            exact ⟨rfl, rfl, (hK1.trans hK2).below.trans hb3⟩
          | ok x =>
            rw [hz] at hS
            clear h99 hz
            go_enter Try.func31, Try.ntmps31
            go_wp2_with fail
            refine hN1.mono ?_
            rintro e w1 ⟨rfl, hR1, hK1⟩
            go_wp2_with fail
            refine (hN2 w1 hR1).mono ?_
            rintro e w2 ⟨rfl, hR2, hK2⟩
            go_wp2_with (go_at_call 44; go_must (refine (hS w2 hR2 (hF.kept (hK1.trans hK2))).mono ?_; rintro e w3 ⟨rfl, v3, fx3, bk3, hR3, hF3, hK3⟩))
            go_wp2
            go_ret
            exact ⟨rfl, v3, fx3, bk3, hR3, .inr hF3, (hK1.trans hK2).trans hK3⟩
        · by_cases k2 : k = 2
          · subst k2
            simp only [if_true, if_neg k0, if_neg k1] at h99 ⊢
            have hS := fun w2 h2 h9 => hO.calls p2 text fv fx bk tv w2 h2 (by omega) h9
            cases hz : O p2 text with
            | error k =>
              rw [hz] at hS h99
              have h9 : (Except.error k : Except Nat (Nat × List UInt8)) ≠ .error 99 := by
                intro e
                simp only [Except.error.injEq] at e
                exact h99 (by rw [e])
              clear h99 hz
              go_enter Try.func31, Try.ntmps31
              go_wp2_with fail
              refine hN1.mono ?_
              rintro e w1 ⟨rfl, hR1, hK1⟩
              go_wp2_with fail
              refine (hN2 w1 hR1).mono ?_
              rintro e w2 ⟨rfl, hR2, hK2⟩
              go_wp2_with (go_at_call 45; go_must (refine (hS w2 hR2 h9).mono ?_; rintro e w3 ⟨rfl, hb3⟩))
              exact ⟨rfl, rfl, (hK1.trans hK2).below.trans hb3⟩
            | ok x =>
              rw [hz] at hS
              have h9 : (Except.ok x : Except Nat (Nat × List UInt8)) ≠ .error 99 := by intro e; cases e
              clear h99 hz
              go_enter Try.func31, Try.ntmps31
              go_wp2_with fail
              refine hN1.mono ?_
              rintro e w1 ⟨rfl, hR1, hK1⟩
              go_wp2_with fail
              refine (hN2 w1 hR1).mono ?_
              rintro e w2 ⟨rfl, hR2, hK2⟩
              go_wp2_with (go_at_call 45; go_must (refine (hS w2 hR2 h9).mono ?_; rintro e w3 ⟨rfl, v3, hR3, hK3⟩))
              go_wp2
              go_ret
              exact ⟨rfl, v3, fx, bk, hR3, hF.kept ((hK1.trans hK2).trans hK3), (hK1.trans hK2).trans hK3⟩
          · simp only [if_neg k0, if_neg k1, if_neg k2]
            have hk3 : k = 3 := by omega
            subst hk3
            clear h99
            go_enter Try.func31, Try.ntmps31
            go_wp2_with fail
            refine hN1.mono ?_
            rintro e w1 ⟨rfl, hR1, hK1⟩
            go_wp2_with fail
            refine (hN2 w1 hR1).mono ?_
            rintro e w2 ⟨rfl, hR2, hK2⟩
            go_wp2
            exact ⟨rfl, rfl, (hK1.trans hK2).below⟩
end Go.Proofs.Ytbhnlomppobbkaa
