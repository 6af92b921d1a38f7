/-
  
  
-/
import Derived.Test.YtpcmpeeflnlkpaaGreatDoorKSumEtc
import Derived.Test.YtpcmpeeflnlkpaaGreatDoorHFreeTEtc
/-
  Package rsa: trimmed, Public.
-/
namespace Go.Proofs.YtpcmpeeflnlkpaaGreatDoor
open Go.RowKit Ch
set_option maxRecDepth 100000

/-- A key of these bytes, as a value. -/
def qTrK (u : World) (v : Value) (N E D : List UInt8) : Prop := ∃ (ya : Option Addr) (ka ca : Nat) (yb : Option Addr) (kb cb : Nat) (yc : Option Addr) (kc cc : Nat), v = .agg #[.slice ya ka ca, .slice yb kb cb, .slice yc kc cc] ∧ IsBytes u (.slice ya ka ca) ⟨N.toArray⟩ ∧ IsBytes u (.slice yb kb cb) ⟨E.toArray⟩ ∧ IsBytes u (.slice yc kc cc) ⟨D.toArray⟩
theorem qTrK.later {u u' : World} {v : Value} {N E D : List UInt8} (h : qTrK u v N E D) (hb : Below u.heap.size u u') : qTrK u' v N E D := by
  obtain ⟨ya, ka, ca, yb, kb, cb, yc, kc, cc, rfl, ia, ib, ic⟩ := h
  exact ⟨_, _, _, _, _, _, _, _, _, rfl, ia.later hb, ib.later hb, ic.later hb⟩
def semqTr (y1 y2 y3 : Option Addr) (k1 c1 k2 c2 k3 c3 q : Nat) (N E D : List UInt8) : Nat → Value → World → Prop := fun ix v u => match ix with
  | 0 => v = .pointer (some ⟨q, 0, none⟩)
  | 1 => v = .slice y1 k1 c1
  | 2 => IsBytes u v ⟨(bareL N).toArray⟩
  | 3 => v = .pointer (some ⟨q, 1, none⟩)
  | 4 => v = .slice y2 k2 c2
  | 5 => IsBytes u v ⟨(bareL E).toArray⟩
  | 6 => v = .pointer (some ⟨q, 2, none⟩)
  | 7 => v = .slice y3 k3 c3
  | 8 => IsBytes u v ⟨(bareL D).toArray⟩
  | 9 => qTrK u v (bareL N) (bareL E) (bareL D)
  | 10 => v = v
  | _ => True
set_option maxHeartbeats 4000000 in
theorem qTrimmed_any (v1 v2 v3 : Value) (N E D : List UInt8) (w : World) (h1 : IsBytes w v1 ⟨N.toArray⟩) (h2 : IsBytes w v2 ⟨E.toArray⟩) (h3 : IsBytes w v3 ⟨D.toArray⟩) (lN : N.length ≤ 900000) (lE : E.length ≤ 900000) (lD : D.length ≤ 900000) :
    Calls Tryz.prog 23 #[.agg #[v1, v2, v3]] w fun e w' => (∃ v, e = .returned v ∧ qTrK w' v (bareL N) (bareL E) (bareL D)) ∧ Below w.heap.size w w' := by
  obtain ⟨y1, k1, c1, rfl⟩ := isb_open h1
  obtain ⟨y2, k2, c2, rfl⟩ := isb_open h2
  obtain ⟨y3, k3, c3, rfl⟩ := isb_open h3
  have kb := keyBox w (.slice y1 k1 c1) (.slice y2 k2 c2) (.slice y3 k3 c3)
  obtain ⟨q, hq⟩ : ∃ q, w.heap.size = q := ⟨_, rfl⟩
  obtain ⟨W1, hW1⟩ : ∃ W, w.alloc (.cells #[.slice y1 k1 c1, .slice y2 k2 c2, .slice y3 k3 c3] 25) = W := ⟨_, rfl⟩
  rw [hW1, hq] at kb
  have kr := keyBox W1 (.slice none 0 0) (.slice none 0 0) (.slice none 0 0)
  obtain ⟨r, hr⟩ : ∃ r, W1.heap.size = r := ⟨_, rfl⟩
  obtain ⟨W2, hW2⟩ : ∃ W, W1.alloc (.cells #[.slice none 0 0, .slice none 0 0, .slice none 0 0] 25) = W := ⟨_, rfl⟩
  rw [hW2, hr] at kr
  have HR := show Hid (w.heap.size ≤ r) from by have := kb.below.size; unfold Hid; omega
  have HB := show Hid (∀ u, Below W2.drew.heap.size W2.drew u → IsBytes u (.slice y1 k1 c1) ⟨N.toArray⟩ ∧ IsBytes u (.slice y2 k2 c2) ⟨E.toArray⟩ ∧ IsBytes u (.slice y3 k3 c3) ⟨D.toArray⟩) from fun u hu => by
    have hb : Below w.heap.size w u := bl2 kb.below (bl2 kr.below (bl2 ((Below.refl _ W2).drew) hu))
    exact ⟨h1.later hb, h2.later hb, h3.later hb⟩
  have HU := show Hid (∀ u, Below W2.drew.heap.size W2.drew u → u.cell? ⟨q, 0, none⟩ = some (.slice y1 k1 c1) ∧ u.cell? ⟨q, 1, none⟩ = some (.slice y2 k2 c2) ∧ u.cell? ⟨q, 2, none⟩ = some (.slice y3 k3 c3) ∧ u.heap[r]? = some (.cells #[.slice none 0 0, .slice none 0 0, .slice none 0 0] 25 (0, 0)) ∧ Below w.heap.size w u) from fun u hu => by
    have hu2 : Below W2.heap.size W2 u := bl2 ((Below.refl _ W2).drew) hu
    obtain ⟨a, b, c⟩ := kb.cells (bl2 kr.below hu2)
    exact ⟨a, b, c, (hu2.block r (block_lt kr.at0)).trans kr.at0, bl2 kb.below (bl2 kr.below hu2)⟩
  have HL := show Hid (N.length ≤ 900000 ∧ E.length ≤ 900000 ∧ D.length ≤ 900000) from ⟨lN, lE, lD⟩
  clear kb kr h1 h2 h3 lN lE lD
  go_enter Tryz.func23, Tryz.ntmps23
  go_wp2_with fail
  refine freeT_walk (Sem := semqTr y1 y2 y3 k1 c1 k2 c2 k3 c3 q N E D) #[true, true, true, true, true, true, true, true, true, true, false] rfl (n := 13) rfl (by kernel_rfl) (by kernel_rfl) rfl (by kernel_rfl) ?_ ?_ ?_
  · intro ix v u u' h hb
    match ix, h with
    | 0, h => exact h
    | 1, h => exact h
    | 2, h => exact IsBytes.later h hb
    | 3, h => exact h
    | 4, h => exact h
    | 5, h => exact IsBytes.later h hb
    | 6, h => exact h
    | 7, h => exact h
    | 8, h => exact IsBytes.later h hb
    | 9, h => exact qTrK.later h hb
    | 10, h => exact h
    | _ + 11, _ => exact trivial
  · intro ix o a u ho hL hF hbu
    match ix, ho, hL, hF with
    | 0, ho, _, hF =>
      obtain rfl := Option.some.inj ho
      have h1 : a.tmps[1]? = some (.pointer (some ⟨q, 0, none⟩)) := (hF.out 1 rfl).trans rfl
      refine free_step rfl (by rfl) (fun K' hK => ?_)
      go_simp
      exact hK.out _ _ rfl (Below.refl _ _)
    | 1, ho, _, hF =>
      obtain rfl := Option.some.inj ho
      obtain ⟨v3, h3, s3⟩ := hF.dep 0 3 rfl rfl
      obtain rfl : v3 = .pointer (some ⟨q, 0, none⟩) := s3
      have g0 := (HU.out u hbu).1
      refine free_step rfl (by rfl) (fun K' hK => ?_)
      go_simp
      exact hK.out _ _ rfl (Below.refl _ _)
    | 2, ho, _, hF =>
      obtain rfl := Option.some.inj ho
      obtain ⟨v4, h4, s4⟩ := hF.dep 1 4 rfl rfl
      obtain rfl : v4 = .slice y1 k1 c1 := s4
      have hc := nTrimV N _ u (HB.out u hbu).1 (by have := HL.out.1; omega)
      refine free_step rfl (by rfl) (fun K' hK => ?_)
      go_wp2_with fail
      refine hc.mono ?_
      rintro e u' ⟨⟨x, rfl, hI⟩, hb⟩
      go_simp
      exact hK.out _ _ hI hb
    | 3, ho, _, hF =>
      obtain rfl := Option.some.inj ho
      have h1 : a.tmps[1]? = some (.pointer (some ⟨q, 0, none⟩)) := (hF.out 1 rfl).trans rfl
      refine free_step rfl (by rfl) (fun K' hK => ?_)
      go_simp
      exact hK.out _ _ rfl (Below.refl _ _)
    | 4, ho, _, hF =>
      obtain rfl := Option.some.inj ho
      obtain ⟨v6, h6, s6⟩ := hF.dep 3 6 rfl rfl
      obtain rfl : v6 = .pointer (some ⟨q, 1, none⟩) := s6
      have g0 := (HU.out u hbu).2.1
      refine free_step rfl (by rfl) (fun K' hK => ?_)
      go_simp
      exact hK.out _ _ rfl (Below.refl _ _)
    | 5, ho, _, hF =>
      obtain rfl := Option.some.inj ho
      obtain ⟨v7, h7, s7⟩ := hF.dep 4 7 rfl rfl
      obtain rfl : v7 = .slice y2 k2 c2 := s7
      have hc := nTrimV E _ u (HB.out u hbu).2.1 (by have := HL.out.2.1; omega)
      refine free_step rfl (by rfl) (fun K' hK => ?_)
      go_wp2_with fail
      refine hc.mono ?_
      rintro e u' ⟨⟨x, rfl, hI⟩, hb⟩
      go_simp
      exact hK.out _ _ hI hb
    | 6, ho, _, hF =>
      obtain rfl := Option.some.inj ho
      have h1 : a.tmps[1]? = some (.pointer (some ⟨q, 0, none⟩)) := (hF.out 1 rfl).trans rfl
      refine free_step rfl (by rfl) (fun K' hK => ?_)
      go_simp
      exact hK.out _ _ rfl (Below.refl _ _)
    | 7, ho, _, hF =>
      obtain rfl := Option.some.inj ho
      obtain ⟨v9, h9, s9⟩ := hF.dep 6 9 rfl rfl
      obtain rfl : v9 = .pointer (some ⟨q, 2, none⟩) := s9
      have g0 := (HU.out u hbu).2.2.1
      refine free_step rfl (by rfl) (fun K' hK => ?_)
      go_simp
      exact hK.out _ _ rfl (Below.refl _ _)
    | 8, ho, _, hF =>
      obtain rfl := Option.some.inj ho
      obtain ⟨v10, h10, s10⟩ := hF.dep 7 10 rfl rfl
      obtain rfl : v10 = .slice y3 k3 c3 := s10
      have hc := nTrimV D _ u (HB.out u hbu).2.2 (by have := HL.out.2.2; omega)
      refine free_step rfl (by rfl) (fun K' hK => ?_)
      go_wp2_with fail
      refine hc.mono ?_
      rintro e u' ⟨⟨x, rfl, hI⟩, hb⟩
      go_simp
      exact hK.out _ _ hI hb
    | 9, ho, _, hF =>
      obtain rfl := Option.some.inj ho
      obtain ⟨v5, h5, s5⟩ := hF.dep 2 5 rfl rfl
      replace s5 : IsBytes u v5 ⟨(bareL N).toArray⟩ := s5
      obtain ⟨v8, h8, s8⟩ := hF.dep 5 8 rfl rfl
      replace s8 : IsBytes u v8 ⟨(bareL E).toArray⟩ := s8
      obtain ⟨v11, h11, s11⟩ := hF.dep 8 11 rfl rfl
      replace s11 : IsBytes u v11 ⟨(bareL D).toArray⟩ := s11
      refine free_step rfl (by rfl) (fun K' hK => ?_)
      obtain ⟨w5, k5, d5, rfl⟩ := isb_open s5
      obtain ⟨w8, k8, d8, rfl⟩ := isb_open s8
      obtain ⟨w11, k11, d11, rfl⟩ := isb_open s11
      go_simp
      exact hK.out _ _ ⟨_, _, _, _, _, _, _, _, _, rfl, s5, s8, s11⟩ (Below.refl _ _)
    | 10, _, hL, _ => exact absurd hL (by decide)
    | n + 11, ho, _, _ => exact absurd (Array.getElem?_eq_some_iff.1 ho).1 (by show ¬ n + 11 < 11; omega)
  · intro vs u m hm hS hbu
    have s9 := hS 9 12 rfl
    simp only [putFrom, Act.put, List.setIfInBounds_toArray, List.set_cons_succ, List.set_cons_zero, Nat.reduceAdd]
    clear hS
    generalize vs 0 = z0
    generalize vs 1 = z1
    generalize vs 2 = z2
    generalize vs 3 = z3
    generalize vs 4 = z4
    generalize vs 5 = z5
    generalize vs 6 = z6
    generalize vs 7 = z7
    generalize vs 8 = z8
    generalize vs 9 = z9 at *
    obtain ⟨m, rfl⟩ : ∃ k, m = k + 1 := ⟨m - 1, by have h2 : 1 ≤ m := hm; omega⟩
    obtain ⟨ya, ka, ca, yb, kb, cb, yc, kc, cc, rfl, ia, ib, ic⟩ := s9
    have hB := (HU.out u hbu).2.2.2.1
    have hB2 := (HU.out u hbu).2.2.2.2
    have f0 := block_free 0 hB
    have f1 := block_free 1 hB
    have f2 := block_free 2 hB
    have g0 := block_cell (v := .slice none 0 0) 0 hB rfl
    have g1 := block_cell (v := .slice none 0 0) 1 hB rfl
    have g2 := block_cell (v := .slice none 0 0) 2 hB rfl
    have HE := show Hid (_ ∧ _) from key_stored (.slice ya ka ca) (.slice yb kb cb) (.slice yc kc cc) hB
    have HI := show Hid (IsBytes u (.slice ya ka ca) ⟨(bareL N).toArray⟩ ∧ IsBytes u (.slice yb kb cb) ⟨(bareL E).toArray⟩ ∧ IsBytes u (.slice yc kc cc) ⟨(bareL D).toArray⟩ ∧ BoxN u r ∧ Below w.heap.size w u) from ⟨ia, ib, ic, boxN_nil hB, hB2⟩
    clear HU hB hB2 hbu ia ib ic
    refine any_op 10 (by kernel_rfl) rfl (by rfl) (fun K' hK => ?_)
    go_simp
    refine hK.out _ _ (any_end (by kernel_rfl) ?_ _)
    clear hK
    generalize (((u.setCell ⟨r, 0, none⟩ (.slice ya ka ca)).setCell ⟨r, 1, none⟩ (.slice yb kb cb)).setCell ⟨r, 2, none⟩ (.slice yc kc cc)) = W5 at *
    obtain ⟨hb5, hk5⟩ := HE.out
    have q0 := block_cell (v := .slice ya ka ca) 0 hb5 rfl
    have q1 := block_cell (v := .slice yb kb cb) 1 hb5 rfl
    have q2 := block_cell (v := .slice yc kc cc) 2 hb5 rfl
    have hkb : Below w.heap.size w W5 := HI.out.2.2.2.2.trans (hk5.below HI.out.2.2.2.2.size (fun p hp => by simp at hp; have := HR.out; omega))
    have hbx : ∀ p ∈ [r], BoxN u p := fun p hp => by simp at hp; subst hp; exact HI.out.2.2.2.1
    (try simp only [Exit.then])
    go_wp2_with fail
    refine bodyPost_ret (v := .agg #[.slice ya ka ca, .slice yb kb cb, .slice yc kc cc]) (by simp [results, Tryz.results23, go_sem, q0, q1, q2]) rfl ⟨⟨_, rfl, _, _, _, _, _, _, _, _, _, rfl, HI.out.1.keptN hk5 hbx, HI.out.2.1.keptN hk5 hbx, HI.out.2.2.1.keptN hk5 hbx⟩, hkb⟩
/-- A key of these bytes, as a value. -/
def qPbK (u : World) (v : Value) (N E : List UInt8) : Prop := ∃ (ya : Option Addr) (ka ca : Nat) (yb : Option Addr) (kb cb : Nat), v = .agg #[.slice ya ka ca, .slice yb kb cb, .slice none 0 0] ∧ IsBytes u (.slice ya ka ca) ⟨N.toArray⟩ ∧ IsBytes u (.slice yb kb cb) ⟨E.toArray⟩
theorem qPbK.later {u u' : World} {v : Value} {N E : List UInt8} (h : qPbK u v N E) (hb : Below u.heap.size u u') : qPbK u' v N E := by
  obtain ⟨ya, ka, ca, yb, kb, cb, rfl, ia, ib⟩ := h
  exact ⟨_, _, _, _, _, _, rfl, ia.later hb, ib.later hb⟩
def semqPb (y1 y2 : Option Addr) (k1 c1 k2 c2 q : Nat) (N E : List UInt8) : Nat → Value → World → Prop := fun ix v u => match ix with
  | 0 => v = .pointer (some ⟨q, 0, none⟩)
  | 1 => v = .slice y1 k1 c1
  | 2 => IsBytes u v ⟨(N).toArray⟩
  | 3 => v = .pointer (some ⟨q, 1, none⟩)
  | 4 => v = .slice y2 k2 c2
  | 5 => IsBytes u v ⟨(E).toArray⟩
  | 6 => qPbK u v (N) (E)
  | 7 => v = v
  | _ => True
set_option maxHeartbeats 4000000 in
theorem qPublic_any (v1 v2 v3 : Value) (N E D : List UInt8) (w : World) (h1 : IsBytes w v1 ⟨N.toArray⟩) (h2 : IsBytes w v2 ⟨E.toArray⟩) (h3 : IsBytes w v3 ⟨D.toArray⟩) (lN : N.length ≤ 900000) (lE : E.length ≤ 900000) (lD : D.length ≤ 900000) :
    Calls Tryz.prog 11 #[.agg #[v1, v2, v3]] w fun e w' => (∃ v, e = .returned v ∧ qPbK w' v (N) (E)) ∧ Below w.heap.size w w' := by
  obtain ⟨y1, k1, c1, rfl⟩ := isb_open h1
  obtain ⟨y2, k2, c2, rfl⟩ := isb_open h2
  obtain ⟨y3, k3, c3, rfl⟩ := isb_open h3
  have kb := keyBox w (.slice y1 k1 c1) (.slice y2 k2 c2) (.slice y3 k3 c3)
  obtain ⟨q, hq⟩ : ∃ q, w.heap.size = q := ⟨_, rfl⟩
  obtain ⟨W1, hW1⟩ : ∃ W, w.alloc (.cells #[.slice y1 k1 c1, .slice y2 k2 c2, .slice y3 k3 c3] 25) = W := ⟨_, rfl⟩
  rw [hW1, hq] at kb
  have kr := keyBox W1 (.slice none 0 0) (.slice none 0 0) (.slice none 0 0)
  obtain ⟨r, hr⟩ : ∃ r, W1.heap.size = r := ⟨_, rfl⟩
  obtain ⟨W2, hW2⟩ : ∃ W, W1.alloc (.cells #[.slice none 0 0, .slice none 0 0, .slice none 0 0] 25) = W := ⟨_, rfl⟩
  rw [hW2, hr] at kr
  have HR := show Hid (w.heap.size ≤ r) from by have := kb.below.size; unfold Hid; omega
  have HB := show Hid (∀ u, Below W2.drew.heap.size W2.drew u → IsBytes u (.slice y1 k1 c1) ⟨N.toArray⟩ ∧ IsBytes u (.slice y2 k2 c2) ⟨E.toArray⟩ ∧ IsBytes u (.slice y3 k3 c3) ⟨D.toArray⟩) from fun u hu => by
    have hb : Below w.heap.size w u := bl2 kb.below (bl2 kr.below (bl2 ((Below.refl _ W2).drew) hu))
    exact ⟨h1.later hb, h2.later hb, h3.later hb⟩
  have HU := show Hid (∀ u, Below W2.drew.heap.size W2.drew u → u.cell? ⟨q, 0, none⟩ = some (.slice y1 k1 c1) ∧ u.cell? ⟨q, 1, none⟩ = some (.slice y2 k2 c2) ∧ u.cell? ⟨q, 2, none⟩ = some (.slice y3 k3 c3) ∧ u.heap[r]? = some (.cells #[.slice none 0 0, .slice none 0 0, .slice none 0 0] 25 (0, 0)) ∧ Below w.heap.size w u) from fun u hu => by
    have hu2 : Below W2.heap.size W2 u := bl2 ((Below.refl _ W2).drew) hu
    obtain ⟨a, b, c⟩ := kb.cells (bl2 kr.below hu2)
    exact ⟨a, b, c, (hu2.block r (block_lt kr.at0)).trans kr.at0, bl2 kb.below (bl2 kr.below hu2)⟩
  have HL := show Hid (N.length ≤ 900000 ∧ E.length ≤ 900000 ∧ D.length ≤ 900000) from ⟨lN, lE, lD⟩
  clear kb kr h1 h2 h3 lN lE lD
  go_enter Tryz.func11, Tryz.ntmps11
  go_wp2_with fail
  refine freeT_walk (Sem := semqPb y1 y2 k1 c1 k2 c2 q N E) #[true, true, true, true, true, true, true, false] rfl (n := 10) rfl (by kernel_rfl) (by kernel_rfl) rfl (by kernel_rfl) ?_ ?_ ?_
  · intro ix v u u' h hb
    match ix, h with
    | 0, h => exact h
    | 1, h => exact h
    | 2, h => exact IsBytes.later h hb
    | 3, h => exact h
    | 4, h => exact h
    | 5, h => exact IsBytes.later h hb
    | 6, h => exact qPbK.later h hb
    | 7, h => exact h
    | _ + 8, _ => exact trivial
  · intro ix o a u ho hL hF hbu
    match ix, ho, hL, hF with
    | 0, ho, _, hF =>
      obtain rfl := Option.some.inj ho
      have h1 : a.tmps[1]? = some (.pointer (some ⟨q, 0, none⟩)) := (hF.out 1 rfl).trans rfl
      refine free_step rfl (by rfl) (fun K' hK => ?_)
      go_simp
      exact hK.out _ _ rfl (Below.refl _ _)
    | 1, ho, _, hF =>
      obtain rfl := Option.some.inj ho
      obtain ⟨v3, h3, s3⟩ := hF.dep 0 3 rfl rfl
      obtain rfl : v3 = .pointer (some ⟨q, 0, none⟩) := s3
      have g0 := (HU.out u hbu).1
      refine free_step rfl (by rfl) (fun K' hK => ?_)
      go_simp
      exact hK.out _ _ rfl (Below.refl _ _)
    | 2, ho, _, hF =>
      obtain rfl := Option.some.inj ho
      obtain ⟨v4, h4, s4⟩ := hF.dep 1 4 rfl rfl
      obtain rfl : v4 = .slice y1 k1 c1 := s4
      have hc := sClone_any N _ u (HB.out u hbu).1 HL.out.1
      refine free_step rfl (by rfl) (fun K' hK => ?_)
      go_wp2_with fail
      refine hc.mono ?_
      rintro e u' ⟨⟨x, rfl, hI⟩, hb⟩
      go_simp
      exact hK.out _ _ hI hb
    | 3, ho, _, hF =>
      obtain rfl := Option.some.inj ho
      have h1 : a.tmps[1]? = some (.pointer (some ⟨q, 0, none⟩)) := (hF.out 1 rfl).trans rfl
      refine free_step rfl (by rfl) (fun K' hK => ?_)
      go_simp
      exact hK.out _ _ rfl (Below.refl _ _)
    | 4, ho, _, hF =>
      obtain rfl := Option.some.inj ho
      obtain ⟨v6, h6, s6⟩ := hF.dep 3 6 rfl rfl
      obtain rfl : v6 = .pointer (some ⟨q, 1, none⟩) := s6
      have g0 := (HU.out u hbu).2.1
      refine free_step rfl (by rfl) (fun K' hK => ?_)
      go_simp
      exact hK.out _ _ rfl (Below.refl _ _)
    | 5, ho, _, hF =>
      obtain rfl := Option.some.inj ho
      obtain ⟨v7, h7, s7⟩ := hF.dep 4 7 rfl rfl
      obtain rfl : v7 = .slice y2 k2 c2 := s7
      have hc := sClone_any E _ u (HB.out u hbu).2.1 HL.out.2.1
      refine free_step rfl (by rfl) (fun K' hK => ?_)
      go_wp2_with fail
      refine hc.mono ?_
      rintro e u' ⟨⟨x, rfl, hI⟩, hb⟩
      go_simp
      exact hK.out _ _ hI hb
    | 6, ho, _, hF =>
      obtain rfl := Option.some.inj ho
      obtain ⟨v5, h5, s5⟩ := hF.dep 2 5 rfl rfl
      replace s5 : IsBytes u v5 ⟨(N).toArray⟩ := s5
      obtain ⟨v8, h8, s8⟩ := hF.dep 5 8 rfl rfl
      replace s8 : IsBytes u v8 ⟨(E).toArray⟩ := s8
      refine free_step rfl (by rfl) (fun K' hK => ?_)
      obtain ⟨w5, k5, d5, rfl⟩ := isb_open s5
      obtain ⟨w8, k8, d8, rfl⟩ := isb_open s8
      go_simp
      exact hK.out _ _ ⟨_, _, _, _, _, _, rfl, s5, s8⟩ (Below.refl _ _)
    | 7, _, hL, _ => exact absurd hL (by decide)
    | n + 8, ho, _, _ => exact absurd (Array.getElem?_eq_some_iff.1 ho).1 (by show ¬ n + 8 < 8; omega)
  · intro vs u m hm hS hbu
    have s6 := hS 6 9 rfl
    simp only [putFrom, Act.put, List.setIfInBounds_toArray, List.set_cons_succ, List.set_cons_zero, Nat.reduceAdd]
    clear hS
    generalize vs 0 = z0
    generalize vs 1 = z1
    generalize vs 2 = z2
    generalize vs 3 = z3
    generalize vs 4 = z4
    generalize vs 5 = z5
    generalize vs 6 = z6 at *
    obtain ⟨m, rfl⟩ : ∃ k, m = k + 1 := ⟨m - 1, by have h2 : 1 ≤ m := hm; omega⟩
    obtain ⟨ya, ka, ca, yb, kb, cb, rfl, ia, ib⟩ := s6
    have hB := (HU.out u hbu).2.2.2.1
    have hB2 := (HU.out u hbu).2.2.2.2
    have f0 := block_free 0 hB
    have f1 := block_free 1 hB
    have f2 := block_free 2 hB
    have g0 := block_cell (v := .slice none 0 0) 0 hB rfl
    have g1 := block_cell (v := .slice none 0 0) 1 hB rfl
    have g2 := block_cell (v := .slice none 0 0) 2 hB rfl
    have HE := show Hid (_ ∧ _) from key_stored (.slice ya ka ca) (.slice yb kb cb) (.slice none 0 0) hB
    have HI := show Hid (IsBytes u (.slice ya ka ca) ⟨(N).toArray⟩ ∧ IsBytes u (.slice yb kb cb) ⟨(E).toArray⟩ ∧ BoxN u r ∧ Below w.heap.size w u) from ⟨ia, ib, boxN_nil hB, hB2⟩
    clear HU hB hB2 hbu ia ib
    refine any_op 7 (by kernel_rfl) rfl (by rfl) (fun K' hK => ?_)
    go_simp
    refine hK.out _ _ (any_end (by kernel_rfl) ?_ _)
    clear hK
    generalize (((u.setCell ⟨r, 0, none⟩ (.slice ya ka ca)).setCell ⟨r, 1, none⟩ (.slice yb kb cb)).setCell ⟨r, 2, none⟩ (.slice none 0 0)) = W5 at *
    obtain ⟨hb5, hk5⟩ := HE.out
    have q0 := block_cell (v := .slice ya ka ca) 0 hb5 rfl
    have q1 := block_cell (v := .slice yb kb cb) 1 hb5 rfl
    have q2 := block_cell (v := .slice none 0 0) 2 hb5 rfl
    have hkb : Below w.heap.size w W5 := HI.out.2.2.2.trans (hk5.below HI.out.2.2.2.size (fun p hp => by simp at hp; have := HR.out; omega))
    have hbx : ∀ p ∈ [r], BoxN u p := fun p hp => by simp at hp; subst hp; exact HI.out.2.2.1
    (try simp only [Exit.then])
    go_wp2_with fail
    refine bodyPost_ret (v := .agg #[.slice ya ka ca, .slice yb kb cb, .slice none 0 0]) (by simp [results, Tryz.results11, go_sem, q0, q1, q2]) rfl ⟨⟨_, rfl, _, _, _, _, _, _, rfl, HI.out.1.keptN hk5 hbx, HI.out.2.1.keptN hk5 hbx⟩, hkb⟩
end Go.Proofs.YtpcmpeeflnlkpaaGreatDoor

/-
  rsa.Verify.
-/
namespace Go.Proofs.YtpcmpeeflnlkpaaGreatDoor
open Go.RowKit Ch
set_option maxRecDepth 100000

/-- What Verify answers. -/
def verL (N E D b S : List UInt8) : Int := if rightP N E D then if S.length = (bareL N).length then if numB S < numB N ∧ numB S ^ numB E % numB N = numB (sealL b (bareL N).length) then 0 else 22 else 21 else 2
theorem right_len {N E D : List UInt8} (h : rightP N E D) : (bareL E).length ≤ (bareL N).length ∧ (bareL D).length ≤ (bareL N).length ∧ numB (bareL N) ≠ 0 := by
  obtain ⟨_, _, _, h4, h5, h6⟩ := h
  have hlt : numB (bareL N) < 256 ^ (bareL N).length := (show ∀ l : List UInt8, bareL l = l → numB l < 256 ^ l.length from fun l _ => numB_lt l) _ (bare_bare N)
  rw [numB_bare] at hlt
  refine ⟨numB_pow (bare_bare E) (by rw [numB_bare]; omega), numB_pow (bare_bare D) (by rw [numB_bare]; omega), ?_⟩
  rw [numB_bare]
  omega
theorem boxN_sl {u : World} {q : Nat} {t : TypeId} {a b c : Option Addr} {k l m k' l' m' : Nat} (h : u.heap[q]? = some (.cells #[.slice a k k', .slice b l l', .slice c m m'] t (0, 0))) : BoxN u q := ⟨_, _, _, h, fun i z => by
  rcases i with _ | _ | _ | i <;> simp⟩
set_option maxHeartbeats 8000000 in
theorem qVerify_any (v1 v2 v3 vb vs : Value) (N E D b S : List UInt8) (w : World) (h1 : IsBytes w v1 ⟨N.toArray⟩) (h2 : IsBytes w v2 ⟨E.toArray⟩) (h3 : IsBytes w v3 ⟨D.toArray⟩) (h4 : IsBytes w vb ⟨b.toArray⟩) (h5 : IsBytes w vs ⟨S.toArray⟩) (hK : KTab w)
    (lN : N.length ≤ 900000) (lE : E.length ≤ 900000) (lD : D.length ≤ 900000) (lb : b.length ≤ 900000) (lS : S.length ≤ 900000) :
    Calls Tryz.prog 10 #[.agg #[v1, v2, v3], vb, vs] w fun e w' => e = .returned (.int .i64 (verL N E D b S)) ∧ Below w.heap.size w w' := by
  obtain ⟨y1, k1, c1, rfl⟩ := isb_open h1
  obtain ⟨y2, k2, c2, rfl⟩ := isb_open h2
  obtain ⟨y3, k3, c3, rfl⟩ := isb_open h3
  obtain ⟨y4, k4, c4, rfl⟩ := isb_open h4
  obtain ⟨y5, c5, rfl⟩ := isb_shape h5
  obtain ⟨k5, hk5⟩ : ∃ k, S.length = k := ⟨_, rfl⟩
  rw [hk5] at h5 ⊢
  have kb := keyBox w (.slice y1 k1 c1) (.slice y2 k2 c2) (.slice y3 k3 c3)
  obtain ⟨q, hq⟩ : ∃ q, w.heap.size = q := ⟨_, rfl⟩
  obtain ⟨W1, hW1⟩ : ∃ W, w.alloc (.cells #[.slice y1 k1 c1, .slice y2 k2 c2, .slice y3 k3 c3] 25) = W := ⟨_, rfl⟩
  rw [hW1, hq] at kb
  have hRt := rightV (.slice y1 k1 c1) (.slice y2 k2 c2) (.slice y3 k3 c3) N E D W1 (h1.later kb.below) (h2.later kb.below) (h3.later kb.below) (by omega) (by omega) (by omega)
  have HK := show Hid (KeyBox w W1 q (.slice y1 k1 c1) (.slice y2 k2 c2) (.slice y3 k3 c3)) from kb
  have HU := show Hid (∀ u, Below w.heap.size w u → IsBytes u (.slice y1 k1 c1) ⟨N.toArray⟩ ∧ IsBytes u (.slice y2 k2 c2) ⟨E.toArray⟩ ∧ IsBytes u (.slice y3 k3 c3) ⟨D.toArray⟩ ∧ IsBytes u (.slice y4 k4 c4) ⟨b.toArray⟩ ∧ IsBytes u (.slice y5 k5 c5) ⟨S.toArray⟩ ∧ KTab u) from fun u hu =>
    ⟨h1.later hu, h2.later hu, h3.later hu, h4.later hu, h5.later hu, hK.later hu⟩
  have HL := show Hid (N.length ≤ 900000 ∧ E.length ≤ 900000 ∧ D.length ≤ 900000 ∧ b.length ≤ 900000 ∧ S.length ≤ 900000 ∧ S.length = k5) from ⟨lN, lE, lD, lb, lS, hk5⟩
  obtain ⟨R, hR⟩ : ∃ R, Hid (verL N E D b S = R) := ⟨_, rfl⟩
  rw [hR.out]
  obtain ⟨g0, g1, g2⟩ := kb.cells (Below.refl _ W1)
  clear kb h1 h2 h3 h4 h5 hK lN lE lD lb lS hk5
  by_cases cp : rightP N E D
  · rw [decide_eq_true cp] at hRt
    have HP := show Hid (rightP N E D) from cp
    clear cp
    go_enter Tryz.func10, Tryz.ntmps10
    go_wp2_with fail
    refine hRt.mono ?_
    rintro e w2 ⟨rfl, b2⟩
    clear hRt g0 g1 g2
    obtain ⟨g0, g1, g2⟩ := HK.out.cells b2
    have HB2 := show Hid (Below W1.heap.size W1 w2) from b2
    have hw2 := bl2 HK.out.below b2
    have hTm := qTrimmed_any (.slice y1 k1 c1) (.slice y2 k2 c2) (.slice y3 k3 c3) N E D w2 (HU.out w2 hw2).1 (HU.out w2 hw2).2.1 (HU.out w2 hw2).2.2.1 HL.out.1 HL.out.2.1 HL.out.2.2.1
    clear b2 hw2
    go_wp2_with fail
    refine hTm.mono ?_
    rintro e w3 ⟨⟨v, rfl, ya, ka, ca, yb, kb, cb, yc, kc, cc, rfl, ia, ib, ic⟩, b3⟩
    clear hTm g0 g1 g2
    have hB := ((bl2 HB2.out b3).block q (block_lt HK.out.at0)).trans HK.out.at0
    have HE := show Hid (_ ∧ _) from key_stored (.slice ya ka ca) (.slice yb kb cb) (.slice yc kc cc) hB
    have f0 := block_free 0 hB
    have f1 := block_free 1 hB
    have f2 := block_free 2 hB
    have g0 := block_cell (v := .slice y1 k1 c1) 0 hB rfl
    have g1 := block_cell (v := .slice y2 k2 c2) 1 hB rfl
    have g2 := block_cell (v := .slice y3 k3 c3) 2 hB rfl
    have HI := show Hid (IsBytes w3 (.slice ya ka ca) ⟨(bareL N).toArray⟩ ∧ IsBytes w3 (.slice yb kb cb) ⟨(bareL E).toArray⟩ ∧ IsBytes w3 (.slice yc kc cc) ⟨(bareL D).toArray⟩ ∧ BoxN w3 q ∧ Below w.heap.size w w3) from ⟨ia, ib, ic, boxN_sl hB, bl2 HK.out.below (bl2 HB2.out b3)⟩
    have hka : (bareL N).length = ka := (size_of_list _).symm.trans (isb_size ia)
    have HN := show Hid ((bareL N).length = ka ∧ 62 ≤ ka ∧ ka ≤ 512 ∧ (bareL E).length ≤ 512 ∧ numB (bareL N) ≠ 0) from by
      have h9 := HP.out.1
      have h8 := right_len HP.out
      rw [hka] at h9 h8
      exact ⟨hka, h9.1, h9.2, by omega, h8.2.2⟩
    have HS := show Hid (∀ W5, W5.heap[q]? = some (.cells #[.slice ya ka ca, .slice yb kb cb, .slice yc kc cc] 25 (0, 0)) → KeptX [q] w3 W5 → Below w.heap.size w W5 ∧ IsBytes W5 (.slice ya ka ca) ⟨(bareL N).toArray⟩ ∧ IsBytes W5 (.slice yb kb cb) ⟨(bareL E).toArray⟩ ∧ IsBytes W5 (.slice yc kc cc) ⟨(bareL D).toArray⟩) from fun W5 hb5 hk5 => by
      have hbx : ∀ p ∈ [q], BoxN w3 p := fun p hp => by
        rw [List.mem_singleton.1 hp]
        exact HI.out.2.2.2.1
      exact ⟨HI.out.2.2.2.2.trans (hk5.below HI.out.2.2.2.2.size (fun p hp => by
        rw [List.mem_singleton.1 hp]
        omega)), HI.out.1.keptN hk5 hbx, HI.out.2.1.keptN hk5 hbx, HI.out.2.2.1.keptN hk5 hbx⟩
    clear hB ia ib ic b3 hka
    by_cases cl : k5 = ka
    · subst cl
      go_wp2_with fail
      generalize (((w3.setCell ⟨q, 0, none⟩ (.slice ya k5 ca)).setCell ⟨q, 1, none⟩ (.slice yb kb cb)).setCell ⟨q, 2, none⟩ (.slice yc kc cc)) = W5 at *
      clear g0 g1 g2 f0 f1 f2
      obtain ⟨hb5, hk5⟩ := HE.out
      have HJ := show Hid (_ ∧ _) from HS.out W5 hb5 hk5
      have hSe := qSeal_any (.slice y4 k4 c4) b k5 W5 (HU.out W5 HJ.out.1).2.2.2.1 (HU.out W5 HJ.out.1).2.2.2.2.2 HL.out.2.2.2.1 HN.out.2.1 HN.out.2.2.1
      refine hSe.mono ?_
      rintro e w6 ⟨⟨v6, rfl, i6⟩, b6⟩
      obtain ⟨y6, k6, c6, rfl⟩ := isb_open i6
      have hqb := (b6.block q (block_lt hb5)).trans hb5
      have g0 := block_cell (v := .slice ya k5 ca) 0 hqb rfl
      have g1 := block_cell (v := .slice yb kb cb) 1 hqb rfl
      have g2 := block_cell (v := .slice yc kc cc) 2 hqb rfl
      have hw6 := bl2 HJ.out.1 b6
      have hC := cmpV S (bareL N) (.slice y5 k5 c5) (.slice ya k5 ca) w6 (HU.out w6 hw6).2.2.2.2.1 (HJ.out.2.1.later b6) (by have := HL.out.2.2.2.2.1; omega) (by have := HN.out; omega)
      have hO := qOpens_any (.slice ya k5 ca) (.slice yb kb cb) (.slice yc kc cc) (.slice y5 k5 c5) (.slice y6 k6 c6) (bareL N) (bareL E) (bareL D) S (sealL b k5) w6 (HJ.out.2.1.later b6) (HJ.out.2.2.1.later b6) (HJ.out.2.2.2.later b6) (HU.out w6 hw6).2.2.2.2.1 i6 (by have := HN.out; omega) (by have := HN.out; omega) (by have := HN.out; have := HL.out.2.2.2.2.2; omega) (by rw [sealL_length b (by have := HN.out; omega)]; have := HN.out; omega) HN.out.2.2.2.2 (bare_bare N)
      rw [numB_bare, numB_bare] at hO
      have hc := (cmp_num S (bareL N)).1
      rw [numB_bare] at hc
      obtain ⟨cq, hcq⟩ : ∃ c, cmpL S (bareL N) = c := ⟨_, rfl⟩
      rw [hcq] at hc hC
      have HB6 := show Hid (Below w.heap.size w w6) from hw6
      have HV := show Hid (verL N E D b S = if numB S < numB N ∧ numB S ^ numB E % numB N = numB (sealL b k5) then 0 else 22) from by
        unfold Hid verL
        rw [if_pos HP.out, if_pos (HL.out.2.2.2.2.2.trans HN.out.1.symm), HN.out.1]
      clear hSe hcq hb5 hk5 i6 b6 hqb hw6
      by_cases c1 : numB S < numB N
      · have q1 : cq < 0 := hc.2 c1
        by_cases c2 : numB S ^ numB E % numB N = numB (sealL b k5)
        · rw [decide_eq_true c2] at hO
          have HRv := show Hid (0 = R) from by
            unfold Hid
            rw [← hR.out, HV.out, if_pos ⟨c1, c2⟩]
          clear hc c1 c2
          go_wp2_with fail
          refine hC.mono ?_
          rintro e w7 ⟨rfl, rfl⟩
          clear hC
          go_wp2_with fail
          refine hO.mono ?_
          rintro e w8 ⟨rfl, b8⟩
          clear hO
          have HF := show Hid (Below w.heap.size w w8) from bl2 HB6.out b8
          clear b8
          go_wp2_with fail
          go_ret
          exact ⟨by rw [← HRv.out] <;> rfl, HF.out⟩
        · rw [decide_eq_false c2] at hO
          have HRv := show Hid (22 = R) from by
            unfold Hid
            rw [← hR.out, HV.out, if_neg (fun h => c2 h.2)]
          clear hc c1 c2
          go_wp2_with fail
          refine hC.mono ?_
          rintro e w7 ⟨rfl, rfl⟩
          clear hC
          go_wp2_with fail
          refine hO.mono ?_
          rintro e w8 ⟨rfl, b8⟩
          clear hO
          have HF := show Hid (Below w.heap.size w w8) from bl2 HB6.out b8
          clear b8
          go_wp2_with fail
          go_ret
          exact ⟨by rw [← HRv.out] <;> rfl, HF.out⟩
      · have q1 : ¬ cq < 0 := fun h => c1 (hc.1 h)
        have q2 : 0 ≤ cq := by omega
        have HRv := show Hid (22 = R) from by
          unfold Hid
          rw [← hR.out, HV.out, if_neg (fun h => c1 h.1)]
        clear hc c1 hO
        go_wp2_with fail
        refine hC.mono ?_
        rintro e w7 ⟨rfl, rfl⟩
        clear hC
        go_wp2_with fail
        go_ret
        exact ⟨by rw [← HRv.out] <;> rfl, HB6.out⟩
    · have hl1 : ((k5 : Int) != (ka : Int)) = true := bne_iff_ne.2 (by omega)
      have HRv := show Hid (21 = R) from by
        unfold Hid
        rw [← hR.out]
        unfold verL
        rw [if_pos HP.out, if_neg (by have := HL.out.2.2.2.2.2; have := HN.out; omega)]
      clear cl
      go_wp2_with fail
      generalize (((w3.setCell ⟨q, 0, none⟩ (.slice ya ka ca)).setCell ⟨q, 1, none⟩ (.slice yb kb cb)).setCell ⟨q, 2, none⟩ (.slice yc kc cc)) = W5 at *
      have HF := show Hid (_ ∧ _) from HS.out W5 HE.out.1 HE.out.2
      go_ret
      exact ⟨by rw [← HRv.out] <;> rfl, HF.out.1⟩
  · rw [decide_eq_false cp] at hRt
    have HRv := show Hid (2 = R) from by
      unfold Hid
      rw [← hR.out]
      unfold verL
      rw [if_neg cp]
    clear cp
    go_enter Tryz.func10, Tryz.ntmps10
    go_wp2_with fail
    refine hRt.mono ?_
    rintro e w2 ⟨rfl, b2⟩
    clear hRt
    have HF := show Hid (Below w.heap.size w w2) from bl2 HK.out.below b2
    clear b2
    go_wp2_with fail
    go_ret
    exact ⟨by rw [← HRv.out] <;> rfl, HF.out⟩
end Go.Proofs.YtpcmpeeflnlkpaaGreatDoor
