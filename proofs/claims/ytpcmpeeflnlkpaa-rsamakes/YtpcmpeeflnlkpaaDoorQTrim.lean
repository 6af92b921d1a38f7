/-
  Package rsa: trimmed, Public.
-/
import Derived.Test.YtpcmpeeflnlkpaaDoorQSealEtc
import Derived.Test.YtpcmpeeflnlkpaaDoorHFreeTEtc
namespace Go.Proofs.YtpcmpeeflnlkpaaDoor
open Go.RowKit Ch
set_option maxRecDepth 100000

/-- A key of these bytes, as a value. -/
def qTrK (u : World) (v : Value) (N E D : List UInt8) : Prop := ∃ (ya : Option Addr) (ka ca : Nat) (yb : Option Addr) (kb cb : Nat) (yc : Option Addr) (kc cc : Nat), v = .agg #[.slice ya ka ca, .slice yb kb cb, .slice yc kc cc] ∧ IsBytes u (.slice ya ka ca) ⟨N.toArray⟩ ∧ IsBytes u (.slice yb kb cb) ⟨E.toArray⟩ ∧ IsBytes u (.slice yc kc cc) ⟨D.toArray⟩
theorem qTrK.later {u u' : World} {v : Value} {N E D : List UInt8} (h : qTrK u v N E D) (hb : Below u.heap.size u u') : qTrK u' v N E D := by
  obtain ⟨ya, ka, ca, yb, kb, cb, yc, kc, cc, rfl, ia, ib, ic⟩ := h
  exact ⟨_, _, _, _, _, _, _, _, _, rfl, ia.later hb, ib.later hb, ic.later hb⟩
def semqTr (y1 y2 y3 : Option Addr) (k1 c1 k2 c2 k3 c3 q : Nat) (N E D : List UInt8) : Nat → Value → World → Prop := fun ix v u => match ix with
  | 0 => v = .pointer (some ⟨q, 0, none⟩)
  | 1 => v = .slice y1 k1 c1
  | 2 => IsBytes u v ⟨(bareL N).toArray⟩
  | 3 => v = .pointer (some ⟨q, 1, none⟩)
  | 4 => v = .slice y2 k2 c2
  | 5 => IsBytes u v ⟨(bareL E).toArray⟩
  | 6 => v = .pointer (some ⟨q, 2, none⟩)
  | 7 => v = .slice y3 k3 c3
  | 8 => IsBytes u v ⟨(bareL D).toArray⟩
  | 9 => qTrK u v (bareL N) (bareL E) (bareL D)
  | 10 => v = v
  | _ => True
set_option maxHeartbeats 4000000 in
theorem qTrimmed_any (v1 v2 v3 : Value) (N E D : List UInt8) (w : World) (h1 : IsBytes w v1 ⟨N.toArray⟩) (h2 : IsBytes w v2 ⟨E.toArray⟩) (h3 : IsBytes w v3 ⟨D.toArray⟩) (lN : N.length ≤ 900000) (lE : E.length ≤ 900000) (lD : D.length ≤ 900000) :
    Calls Tryd.prog 35 #[.agg #[v1, v2, v3]] w fun e w' => (∃ v, e = .returned v ∧ qTrK w' v (bareL N) (bareL E) (bareL D)) ∧ Below w.heap.size w w' := by
  obtain ⟨y1, k1, c1, rfl⟩ := isb_open h1
  obtain ⟨y2, k2, c2, rfl⟩ := isb_open h2
  obtain ⟨y3, k3, c3, rfl⟩ := isb_open h3
  have kb := keyBox w (.slice y1 k1 c1) (.slice y2 k2 c2) (.slice y3 k3 c3)
  obtain ⟨q, hq⟩ : ∃ q, w.heap.size = q := ⟨_, rfl⟩
  obtain ⟨W1, hW1⟩ : ∃ W, w.alloc (.cells #[.slice y1 k1 c1, .slice y2 k2 c2, .slice y3 k3 c3] 25) = W := ⟨_, rfl⟩
  rw [hW1, hq] at kb
  have kr := keyBox W1 (.slice none 0 0) (.slice none 0 0) (.slice none 0 0)
  obtain ⟨r, hr⟩ : ∃ r, W1.heap.size = r := ⟨_, rfl⟩
  obtain ⟨W2, hW2⟩ : ∃ W, W1.alloc (.cells #[.slice none 0 0, .slice none 0 0, .slice none 0 0] 25) = W := ⟨_, rfl⟩
  rw [hW2, hr] at kr
  have HR := show Hid (w.heap.size ≤ r) from by have := kb.below.size; unfold Hid; omega
  have HB := show Hid (∀ u, Below W2.drew.heap.size W2.drew u → IsBytes u (.slice y1 k1 c1) ⟨N.toArray⟩ ∧ IsBytes u (.slice y2 k2 c2) ⟨E.toArray⟩ ∧ IsBytes u (.slice y3 k3 c3) ⟨D.toArray⟩) from fun u hu => by
    have hb : Below w.heap.size w u := bl2 kb.below (bl2 kr.below (bl2 ((Below.refl _ W2).drew) hu))
    exact ⟨h1.later hb, h2.later hb, h3.later hb⟩
  have HU := show Hid (∀ u, Below W2.drew.heap.size W2.drew u → u.cell? ⟨q, 0, none⟩ = some (.slice y1 k1 c1) ∧ u.cell? ⟨q, 1, none⟩ = some (.slice y2 k2 c2) ∧ u.cell? ⟨q, 2, none⟩ = some (.slice y3 k3 c3) ∧ u.heap[r]? = some (.cells #[.slice none 0 0, .slice none 0 0, .slice none 0 0] 25 (0, 0)) ∧ Below w.heap.size w u) from fun u hu => by
    have hu2 : Below W2.heap.size W2 u := bl2 ((Below.refl _ W2).drew) hu
    obtain ⟨a, b, c⟩ := kb.cells (bl2 kr.below hu2)
    exact ⟨a, b, c, (hu2.block r (block_lt kr.at0)).trans kr.at0, bl2 kb.below (bl2 kr.below hu2)⟩
  have HL := show Hid (N.length ≤ 900000 ∧ E.length ≤ 900000 ∧ D.length ≤ 900000) from ⟨lN, lE, lD⟩
  clear kb kr h1 h2 h3 lN lE lD
  go_enter Tryd.func35, Tryd.ntmps35
  go_wp2_with fail
  refine freeT_walk (Sem := semqTr y1 y2 y3 k1 c1 k2 c2 k3 c3 q N E D) #[true, true, true, true, true, true, true, true, true, true, false] rfl (n := 13) rfl (by kernel_rfl) (by kernel_rfl) rfl (by kernel_rfl) ?_ ?_ ?_
  · intro ix v u u' h hb
    match ix, h with
    | 0, h => exact h
    | 1, h => exact h
    | 2, h => exact IsBytes.later h hb
    | 3, h => exact h
    | 4, h => exact h
    | 5, h => exact IsBytes.later h hb
    | 6, h => exact h
    | 7, h => exact h
    | 8, h => exact IsBytes.later h hb
    | 9, h => exact qTrK.later h hb
    | 10, h => exact h
    | _ + 11, _ => exact trivial
  · intro ix o a u ho hL hF hbu
    match ix, ho, hL, hF with
    | 0, ho, _, hF =>
      obtain rfl := Option.some.inj ho
      have h1 : a.tmps[1]? = some (.pointer (some ⟨q, 0, none⟩)) := (hF.out 1 rfl).trans rfl
      refine free_step rfl (by rfl) (fun K' hK => ?_)
      go_simp
      exact hK.out _ _ rfl (Below.refl _ _)
    | 1, ho, _, hF =>
      obtain rfl := Option.some.inj ho
      obtain ⟨v3, h3, s3⟩ := hF.dep 0 3 rfl rfl
      obtain rfl : v3 = .pointer (some ⟨q, 0, none⟩) := s3
      have g0 := (HU.out u hbu).1
      refine free_step rfl (by rfl) (fun K' hK => ?_)
      go_simp
      exact hK.out _ _ rfl (Below.refl _ _)
    | 2, ho, _, hF =>
      obtain rfl := Option.some.inj ho
      obtain ⟨v4, h4, s4⟩ := hF.dep 1 4 rfl rfl
      obtain rfl : v4 = .slice y1 k1 c1 := s4
      have hc := nTrimV N _ u (HB.out u hbu).1 (by have := HL.out.1; omega)
      refine free_step rfl (by rfl) (fun K' hK => ?_)
      go_wp2_with fail
      refine hc.mono ?_
      rintro e u' ⟨⟨x, rfl, hI⟩, hb⟩
      go_simp
      exact hK.out _ _ hI hb
    | 3, ho, _, hF =>
      obtain rfl := Option.some.inj ho
      have h1 : a.tmps[1]? = some (.pointer (some ⟨q, 0, none⟩)) := (hF.out 1 rfl).trans rfl
      refine free_step rfl (by rfl) (fun K' hK => ?_)
      go_simp
      exact hK.out _ _ rfl (Below.refl _ _)
    | 4, ho, _, hF =>
      obtain rfl := Option.some.inj ho
      obtain ⟨v6, h6, s6⟩ := hF.dep 3 6 rfl rfl
      obtain rfl : v6 = .pointer (some ⟨q, 1, none⟩) := s6
      have g0 := (HU.out u hbu).2.1
      refine free_step rfl (by rfl) (fun K' hK => ?_)
      go_simp
      exact hK.out _ _ rfl (Below.refl _ _)
    | 5, ho, _, hF =>
      obtain rfl := Option.some.inj ho
      obtain ⟨v7, h7, s7⟩ := hF.dep 4 7 rfl rfl
      obtain rfl : v7 = .slice y2 k2 c2 := s7
      have hc := nTrimV E _ u (HB.out u hbu).2.1 (by have := HL.out.2.1; omega)
      refine free_step rfl (by rfl) (fun K' hK => ?_)
      go_wp2_with fail
      refine hc.mono ?_
      rintro e u' ⟨⟨x, rfl, hI⟩, hb⟩
      go_simp
      exact hK.out _ _ hI hb
    | 6, ho, _, hF =>
      obtain rfl := Option.some.inj ho
      have h1 : a.tmps[1]? = some (.pointer (some ⟨q, 0, none⟩)) := (hF.out 1 rfl).trans rfl
      refine free_step rfl (by rfl) (fun K' hK => ?_)
      go_simp
      exact hK.out _ _ rfl (Below.refl _ _)
    | 7, ho, _, hF =>
      obtain rfl := Option.some.inj ho
      obtain ⟨v9, h9, s9⟩ := hF.dep 6 9 rfl rfl
      obtain rfl : v9 = .pointer (some ⟨q, 2, none⟩) := s9
      have g0 := (HU.out u hbu).2.2.1
      refine free_step rfl (by rfl) (fun K' hK => ?_)
      go_simp
      exact hK.out _ _ rfl (Below.refl _ _)
    | 8, ho, _, hF =>
      obtain rfl := Option.some.inj ho
      obtain ⟨v10, h10, s10⟩ := hF.dep 7 10 rfl rfl
      obtain rfl : v10 = .slice y3 k3 c3 := s10
      have hc := nTrimV D _ u (HB.out u hbu).2.2 (by have := HL.out.2.2; omega)
      refine free_step rfl (by rfl) (fun K' hK => ?_)
      go_wp2_with fail
      refine hc.mono ?_
      rintro e u' ⟨⟨x, rfl, hI⟩, hb⟩
      go_simp
      exact hK.out _ _ hI hb
    | 9, ho, _, hF =>
      obtain rfl := Option.some.inj ho
      obtain ⟨v5, h5, s5⟩ := hF.dep 2 5 rfl rfl
      replace s5 : IsBytes u v5 ⟨(bareL N).toArray⟩ := s5
      obtain ⟨v8, h8, s8⟩ := hF.dep 5 8 rfl rfl
      replace s8 : IsBytes u v8 ⟨(bareL E).toArray⟩ := s8
      obtain ⟨v11, h11, s11⟩ := hF.dep 8 11 rfl rfl
      replace s11 : IsBytes u v11 ⟨(bareL D).toArray⟩ := s11
      refine free_step rfl (by rfl) (fun K' hK => ?_)
      obtain ⟨w5, k5, d5, rfl⟩ := isb_open s5
      obtain ⟨w8, k8, d8, rfl⟩ := isb_open s8
      obtain ⟨w11, k11, d11, rfl⟩ := isb_open s11
      go_simp
      exact hK.out _ _ ⟨_, _, _, _, _, _, _, _, _, rfl, s5, s8, s11⟩ (Below.refl _ _)
    | 10, _, hL, _ => exact absurd hL (by decide)
    | n + 11, ho, _, _ => exact absurd (Array.getElem?_eq_some_iff.1 ho).1 (by show ¬ n + 11 < 11; omega)
  · intro vs u m hm hS hbu
    have s9 := hS 9 12 rfl
    simp only [putFrom, Act.put, List.setIfInBounds_toArray, List.set_cons_succ, List.set_cons_zero, Nat.reduceAdd]
    clear hS
    generalize vs 0 = z0
    generalize vs 1 = z1
    generalize vs 2 = z2
    generalize vs 3 = z3
    generalize vs 4 = z4
    generalize vs 5 = z5
    generalize vs 6 = z6
    generalize vs 7 = z7
    generalize vs 8 = z8
    generalize vs 9 = z9 at *
    obtain ⟨m, rfl⟩ : ∃ k, m = k + 1 := ⟨m - 1, by have h2 : 1 ≤ m := hm; omega⟩
    obtain ⟨ya, ka, ca, yb, kb, cb, yc, kc, cc, rfl, ia, ib, ic⟩ := s9
    have hB := (HU.out u hbu).2.2.2.1
    have hB2 := (HU.out u hbu).2.2.2.2
    have f0 := block_free 0 hB
    have f1 := block_free 1 hB
    have f2 := block_free 2 hB
    have g0 := block_cell (v := .slice none 0 0) 0 hB rfl
    have g1 := block_cell (v := .slice none 0 0) 1 hB rfl
    have g2 := block_cell (v := .slice none 0 0) 2 hB rfl
    have HE := show Hid (_ ∧ _) from key_stored (.slice ya ka ca) (.slice yb kb cb) (.slice yc kc cc) hB
    have HI := show Hid (IsBytes u (.slice ya ka ca) ⟨(bareL N).toArray⟩ ∧ IsBytes u (.slice yb kb cb) ⟨(bareL E).toArray⟩ ∧ IsBytes u (.slice yc kc cc) ⟨(bareL D).toArray⟩ ∧ BoxN u r ∧ Below w.heap.size w u) from ⟨ia, ib, ic, boxN_nil hB, hB2⟩
    clear HU hB hB2 hbu ia ib ic
    refine any_op 10 (by kernel_rfl) rfl (by rfl) (fun K' hK => ?_)
    go_simp
    refine hK.out _ _ (any_end (by kernel_rfl) ?_ _)
    clear hK
    generalize (((u.setCell ⟨r, 0, none⟩ (.slice ya ka ca)).setCell ⟨r, 1, none⟩ (.slice yb kb cb)).setCell ⟨r, 2, none⟩ (.slice yc kc cc)) = W5 at *
    obtain ⟨hb5, hk5⟩ := HE.out
    have q0 := block_cell (v := .slice ya ka ca) 0 hb5 rfl
    have q1 := block_cell (v := .slice yb kb cb) 1 hb5 rfl
    have q2 := block_cell (v := .slice yc kc cc) 2 hb5 rfl
    have hkb : Below w.heap.size w W5 := HI.out.2.2.2.2.trans (hk5.below HI.out.2.2.2.2.size (fun p hp => by simp at hp; have := HR.out; omega))
    have hbx : ∀ p ∈ [r], BoxN u p := fun p hp => by simp at hp; subst hp; exact HI.out.2.2.2.1
    (try simp only [Exit.then])
    go_wp2_with fail
    refine bodyPost_ret (v := .agg #[.slice ya ka ca, .slice yb kb cb, .slice yc kc cc]) (by simp [results, Tryd.results35, go_sem, q0, q1, q2]) rfl ⟨⟨_, rfl, _, _, _, _, _, _, _, _, _, rfl, HI.out.1.keptN hk5 hbx, HI.out.2.1.keptN hk5 hbx, HI.out.2.2.1.keptN hk5 hbx⟩, hkb⟩
/-- A key of these bytes, as a value. -/
def qPbK (u : World) (v : Value) (N E : List UInt8) : Prop := ∃ (ya : Option Addr) (ka ca : Nat) (yb : Option Addr) (kb cb : Nat), v = .agg #[.slice ya ka ca, .slice yb kb cb, .slice none 0 0] ∧ IsBytes u (.slice ya ka ca) ⟨N.toArray⟩ ∧ IsBytes u (.slice yb kb cb) ⟨E.toArray⟩
theorem qPbK.later {u u' : World} {v : Value} {N E : List UInt8} (h : qPbK u v N E) (hb : Below u.heap.size u u') : qPbK u' v N E := by
  obtain ⟨ya, ka, ca, yb, kb, cb, rfl, ia, ib⟩ := h
  exact ⟨_, _, _, _, _, _, rfl, ia.later hb, ib.later hb⟩
def semqPb (y1 y2 : Option Addr) (k1 c1 k2 c2 q : Nat) (N E : List UInt8) : Nat → Value → World → Prop := fun ix v u => match ix with
  | 0 => v = .pointer (some ⟨q, 0, none⟩)
  | 1 => v = .slice y1 k1 c1
  | 2 => IsBytes u v ⟨(N).toArray⟩
  | 3 => v = .pointer (some ⟨q, 1, none⟩)
  | 4 => v = .slice y2 k2 c2
  | 5 => IsBytes u v ⟨(E).toArray⟩
  | 6 => qPbK u v (N) (E)
  | 7 => v = v
  | _ => True
set_option maxHeartbeats 4000000 in
theorem qPublic_any (v1 v2 v3 : Value) (N E D : List UInt8) (w : World) (h1 : IsBytes w v1 ⟨N.toArray⟩) (h2 : IsBytes w v2 ⟨E.toArray⟩) (h3 : IsBytes w v3 ⟨D.toArray⟩) (lN : N.length ≤ 900000) (lE : E.length ≤ 900000) (lD : D.length ≤ 900000) :
    Calls Tryd.prog 18 #[.agg #[v1, v2, v3]] w fun e w' => (∃ v, e = .returned v ∧ qPbK w' v (N) (E)) ∧ Below w.heap.size w w' := by
  obtain ⟨y1, k1, c1, rfl⟩ := isb_open h1
  obtain ⟨y2, k2, c2, rfl⟩ := isb_open h2
  obtain ⟨y3, k3, c3, rfl⟩ := isb_open h3
  have kb := keyBox w (.slice y1 k1 c1) (.slice y2 k2 c2) (.slice y3 k3 c3)
  obtain ⟨q, hq⟩ : ∃ q, w.heap.size = q := ⟨_, rfl⟩
  obtain ⟨W1, hW1⟩ : ∃ W, w.alloc (.cells #[.slice y1 k1 c1, .slice y2 k2 c2, .slice y3 k3 c3] 25) = W := ⟨_, rfl⟩
  rw [hW1, hq] at kb
  have kr := keyBox W1 (.slice none 0 0) (.slice none 0 0) (.slice none 0 0)
  obtain ⟨r, hr⟩ : ∃ r, W1.heap.size = r := ⟨_, rfl⟩
  obtain ⟨W2, hW2⟩ : ∃ W, W1.alloc (.cells #[.slice none 0 0, .slice none 0 0, .slice none 0 0] 25) = W := ⟨_, rfl⟩
  rw [hW2, hr] at kr
  have HR := show Hid (w.heap.size ≤ r) from by have := kb.below.size; unfold Hid; omega
  have HB := show Hid (∀ u, Below W2.drew.heap.size W2.drew u → IsBytes u (.slice y1 k1 c1) ⟨N.toArray⟩ ∧ IsBytes u (.slice y2 k2 c2) ⟨E.toArray⟩ ∧ IsBytes u (.slice y3 k3 c3) ⟨D.toArray⟩) from fun u hu => by
    have hb : Below w.heap.size w u := bl2 kb.below (bl2 kr.below (bl2 ((Below.refl _ W2).drew) hu))
    exact ⟨h1.later hb, h2.later hb, h3.later hb⟩
  have HU := show Hid (∀ u, Below W2.drew.heap.size W2.drew u → u.cell? ⟨q, 0, none⟩ = some (.slice y1 k1 c1) ∧ u.cell? ⟨q, 1, none⟩ = some (.slice y2 k2 c2) ∧ u.cell? ⟨q, 2, none⟩ = some (.slice y3 k3 c3) ∧ u.heap[r]? = some (.cells #[.slice none 0 0, .slice none 0 0, .slice none 0 0] 25 (0, 0)) ∧ Below w.heap.size w u) from fun u hu => by
    have hu2 : Below W2.heap.size W2 u := bl2 ((Below.refl _ W2).drew) hu
    obtain ⟨a, b, c⟩ := kb.cells (bl2 kr.below hu2)
    exact ⟨a, b, c, (hu2.block r (block_lt kr.at0)).trans kr.at0, bl2 kb.below (bl2 kr.below hu2)⟩
  have HL := show Hid (N.length ≤ 900000 ∧ E.length ≤ 900000 ∧ D.length ≤ 900000) from ⟨lN, lE, lD⟩
  clear kb kr h1 h2 h3 lN lE lD
  go_enter Tryd.func18, Tryd.ntmps18
  go_wp2_with fail
  refine freeT_walk (Sem := semqPb y1 y2 k1 c1 k2 c2 q N E) #[true, true, true, true, true, true, true, false] rfl (n := 10) rfl (by kernel_rfl) (by kernel_rfl) rfl (by kernel_rfl) ?_ ?_ ?_
  · intro ix v u u' h hb
    match ix, h with
    | 0, h => exact h
    | 1, h => exact h
    | 2, h => exact IsBytes.later h hb
    | 3, h => exact h
    | 4, h => exact h
    | 5, h => exact IsBytes.later h hb
    | 6, h => exact qPbK.later h hb
    | 7, h => exact h
    | _ + 8, _ => exact trivial
  · intro ix o a u ho hL hF hbu
    match ix, ho, hL, hF with
    | 0, ho, _, hF =>
      obtain rfl := Option.some.inj ho
      have h1 : a.tmps[1]? = some (.pointer (some ⟨q, 0, none⟩)) := (hF.out 1 rfl).trans rfl
      refine free_step rfl (by rfl) (fun K' hK => ?_)
      go_simp
      exact hK.out _ _ rfl (Below.refl _ _)
    | 1, ho, _, hF =>
      obtain rfl := Option.some.inj ho
      obtain ⟨v3, h3, s3⟩ := hF.dep 0 3 rfl rfl
      obtain rfl : v3 = .pointer (some ⟨q, 0, none⟩) := s3
      have g0 := (HU.out u hbu).1
      refine free_step rfl (by rfl) (fun K' hK => ?_)
      go_simp
      exact hK.out _ _ rfl (Below.refl _ _)
    | 2, ho, _, hF =>
      obtain rfl := Option.some.inj ho
      obtain ⟨v4, h4, s4⟩ := hF.dep 1 4 rfl rfl
      obtain rfl : v4 = .slice y1 k1 c1 := s4
      have hc := sClone_any N _ u (HB.out u hbu).1 HL.out.1
      refine free_step rfl (by rfl) (fun K' hK => ?_)
      go_wp2_with fail
      refine hc.mono ?_
      rintro e u' ⟨⟨x, rfl, hI⟩, hb⟩
      go_simp
      exact hK.out _ _ hI hb
    | 3, ho, _, hF =>
      obtain rfl := Option.some.inj ho
      have h1 : a.tmps[1]? = some (.pointer (some ⟨q, 0, none⟩)) := (hF.out 1 rfl).trans rfl
      refine free_step rfl (by rfl) (fun K' hK => ?_)
      go_simp
      exact hK.out _ _ rfl (Below.refl _ _)
    | 4, ho, _, hF =>
      obtain rfl := Option.some.inj ho
      obtain ⟨v6, h6, s6⟩ := hF.dep 3 6 rfl rfl
      obtain rfl : v6 = .pointer (some ⟨q, 1, none⟩) := s6
      have g0 := (HU.out u hbu).2.1
      refine free_step rfl (by rfl) (fun K' hK => ?_)
      go_simp
      exact hK.out _ _ rfl (Below.refl _ _)
    | 5, ho, _, hF =>
      obtain rfl := Option.some.inj ho
      obtain ⟨v7, h7, s7⟩ := hF.dep 4 7 rfl rfl
      obtain rfl : v7 = .slice y2 k2 c2 := s7
      have hc := sClone_any E _ u (HB.out u hbu).2.1 HL.out.2.1
      refine free_step rfl (by rfl) (fun K' hK => ?_)
      go_wp2_with fail
      refine hc.mono ?_
      rintro e u' ⟨⟨x, rfl, hI⟩, hb⟩
      go_simp
      exact hK.out _ _ hI hb
    | 6, ho, _, hF =>
      obtain rfl := Option.some.inj ho
      obtain ⟨v5, h5, s5⟩ := hF.dep 2 5 rfl rfl
      replace s5 : IsBytes u v5 ⟨(N).toArray⟩ := s5
      obtain ⟨v8, h8, s8⟩ := hF.dep 5 8 rfl rfl
      replace s8 : IsBytes u v8 ⟨(E).toArray⟩ := s8
      refine free_step rfl (by rfl) (fun K' hK => ?_)
      obtain ⟨w5, k5, d5, rfl⟩ := isb_open s5
      obtain ⟨w8, k8, d8, rfl⟩ := isb_open s8
      go_simp
      exact hK.out _ _ ⟨_, _, _, _, _, _, rfl, s5, s8⟩ (Below.refl _ _)
    | 7, _, hL, _ => exact absurd hL (by decide)
    | n + 8, ho, _, _ => exact absurd (Array.getElem?_eq_some_iff.1 ho).1 (by show ¬ n + 8 < 8; omega)
  · intro vs u m hm hS hbu
    have s6 := hS 6 9 rfl
    simp only [putFrom, Act.put, List.setIfInBounds_toArray, List.set_cons_succ, List.set_cons_zero, Nat.reduceAdd]
    clear hS
    generalize vs 0 = z0
    generalize vs 1 = z1
    generalize vs 2 = z2
    generalize vs 3 = z3
    generalize vs 4 = z4
    generalize vs 5 = z5
    generalize vs 6 = z6 at *
    obtain ⟨m, rfl⟩ : ∃ k, m = k + 1 := ⟨m - 1, by have h2 : 1 ≤ m := hm; omega⟩
    obtain ⟨ya, ka, ca, yb, kb, cb, rfl, ia, ib⟩ := s6
    have hB := (HU.out u hbu).2.2.2.1
    have hB2 := (HU.out u hbu).2.2.2.2
    have f0 := block_free 0 hB
    have f1 := block_free 1 hB
    have f2 := block_free 2 hB
    have g0 := block_cell (v := .slice none 0 0) 0 hB rfl
    have g1 := block_cell (v := .slice none 0 0) 1 hB rfl
    have g2 := block_cell (v := .slice none 0 0) 2 hB rfl
    have HE := show Hid (_ ∧ _) from key_stored (.slice ya ka ca) (.slice yb kb cb) (.slice none 0 0) hB
    have HI := show Hid (IsBytes u (.slice ya ka ca) ⟨(N).toArray⟩ ∧ IsBytes u (.slice yb kb cb) ⟨(E).toArray⟩ ∧ BoxN u r ∧ Below w.heap.size w u) from ⟨ia, ib, boxN_nil hB, hB2⟩
    clear HU hB hB2 hbu ia ib
    refine any_op 7 (by kernel_rfl) rfl (by rfl) (fun K' hK => ?_)
    go_simp
    refine hK.out _ _ (any_end (by kernel_rfl) ?_ _)
    clear hK
    generalize (((u.setCell ⟨r, 0, none⟩ (.slice ya ka ca)).setCell ⟨r, 1, none⟩ (.slice yb kb cb)).setCell ⟨r, 2, none⟩ (.slice none 0 0)) = W5 at *
    obtain ⟨hb5, hk5⟩ := HE.out
    have q0 := block_cell (v := .slice ya ka ca) 0 hb5 rfl
    have q1 := block_cell (v := .slice yb kb cb) 1 hb5 rfl
    have q2 := block_cell (v := .slice none 0 0) 2 hb5 rfl
    have hkb : Below w.heap.size w W5 := HI.out.2.2.2.trans (hk5.below HI.out.2.2.2.size (fun p hp => by simp at hp; have := HR.out; omega))
    have hbx : ∀ p ∈ [r], BoxN u p := fun p hp => by simp at hp; subst hp; exact HI.out.2.2.1
    (try simp only [Exit.then])
    go_wp2_with fail
    refine bodyPost_ret (v := .agg #[.slice ya ka ca, .slice yb kb cb, .slice none 0 0]) (by simp [results, Tryd.results18, go_sem, q0, q1, q2]) rfl ⟨⟨_, rfl, _, _, _, _, _, _, rfl, HI.out.1.keptN hk5 hbx, HI.out.2.1.keptN hk5 hbx⟩, hkb⟩
end Go.Proofs.YtpcmpeeflnlkpaaDoor
