/-
  The document's Div.
-/
import Derived.Test.YtpcmpeeflnlkpaaDoorHFreeSEtc
namespace Go.Proofs.YtpcmpeeflnlkpaaDoor
open Go.RowKit Ch
set_option maxRecDepth 100000

def semTw (g k1 kk ck m N B0 : Nat) (yX : Option Addr) (lX cX : Nat) : Nat → Value → World → Prop := fun ix v u => match ix with
  | 0 => v = .slice (some ⟨g, 0, none⟩) kk ck
  | 1 => v = .slice (some ⟨g, 0, none⟩) kk ck
  | 2 => v = .int .i64 (kk : Int)
  | 3 => v = .int .i64 (k1 : Int)
  | 4 => v = .pointer (some ⟨g, k1, none⟩)
  | 5 => v = .slice yX lX cX
  | 6 => v = .slice (some ⟨g, 0, none⟩) kk ck
  | 7 => v = .int .i64 (kk : Int)
  | 8 => v = .int .i64 (k1 : Int)
  | 9 => v = .pointer (some ⟨g, k1, none⟩)
  | 10 => v = .slice yX lX cX
  | 11 => IsD (m + kk) u v (N * 2 ^ kk) ∧ FreshS B0 v
  | 12 => IsBx (m + kk) B0 u v (N * 2 ^ kk)
  | 13 => v = v
  | 14 => v = v
  | _ => True
/-- A quotient and a rest. -/
def DividD (n m : Nat) (w w' : World) (A B : Nat) (e : Ending) : Prop := ∃ v1 v2, e = .returned (.tuple #[v1, v2]) ∧ IsD n w' v1 (A / B) ∧ IsD m w' v2 (A % B) ∧ Below w.heap.size w w'
theorem dividD_mk {n m : Nat} {w w' : World} {A B : Nat} {v1 v2 : Value} (h1 : IsD n w' v1 (A / B)) (h2 : IsD m w' v2 (A % B)) (hb : Below w.heap.size w w') : DividD n m w w' A B (.returned (.tuple #[v1, v2])) := ⟨v1, v2, rfl, h1, h2, hb⟩
theorem drop_numD {L : List Nat} {k x : Nat} (h : L[k]? = some x) : numD (L.drop k) = x + 256 * numD (L.drop (k + 1)) := by
  have hl := (List.getElem?_eq_some_iff.1 h).1
  rw [List.drop_eq_getElem_cons hl, numD]
  rw [List.getElem?_eq_getElem hl] at h
  rw [Option.some.inj h]
theorem div_rowD {A' a Q s R N R0 : Nat} (h : A' = Q * N + R0) (hs : s * N + R = a + 256 * R0) : a + 256 * A' = (s + 256 * Q) * N + R := by
  rw [h, Nat.add_mul, Nat.mul_add, Nat.mul_assoc]
  omega
set_option maxHeartbeats 8000000 in
theorem digDiv (n m : Nat) (u v : Value) (A N : Nat) (w : World) (hu : IsD n w u A) (hv : IsD m w v N) (hn : n ≤ 10000) (hm : m ≤ 10000) (hN : N ≠ 0) :
    Calls Tryd.prog 11 #[u, v] w fun e w' => DividD n m w w' A N e := by
  obtain ⟨ya, ca, L, rfl, h2, h3, h4, rfl, h6⟩ := hu
  suffices hg : Calls Tryd.prog 11 #[.slice ya L.length ca, v] w fun e w' => DividD L.length m w w' (numD L) N e by
    refine hg.mono ?_
    rintro e w' ⟨v1, v2, rfl, i1, i2, hb⟩
    exact ⟨v1, v2, rfl, i1.more h6, i2, hb⟩
  have hln : L.length ≤ 10000 := by omega
  clear h4 h6 hn n
  obtain ⟨n, hn⟩ : ∃ n, L.length = n := ⟨_, rfl⟩
  have HL := show Hid (IsN .i64 w (.slice ya n ca) L ∧ AllD L ∧ L.length = n) from ⟨by rw [← hn]; exact h2, h3, hn⟩
  rw [hn] at hln ⊢
  clear h2 h3 hn
  obtain ⟨bv, hdb⟩ := hv.db hN
  obtain ⟨yv, lv, cv, rfl, _, _⟩ := id hv.shape
  have HN0 := show Hid (N ≠ 0) from hN
  have HNL := show Hid (N < 256 ^ m) from hv.lt
  have HT0 := show Hid (Tw w.heap.size (w.alloc (.cells #[.slice yv lv cv] 29)) w.heap.size 1 1 [.slice yv lv cv] m N ∧ Below w.heap.size w (w.alloc (.cells #[.slice yv lv cv] 29))) from ⟨tw_first w m N bv _ hdb, (Below.refl _ w).alloc (Nat.le_refl _) _⟩
  have wn1 : IntKind.i64.wrap ((n : Int) - 1) = (n : Int) - 1 := by rw [IntKind.wrap_i64]; omega
  clear hdb hv hN
  go_enter Tryd.func11, Tryd.ntmps11
  go_wp2_with fail
  go_loopw [6, 7] (fun tv t wr => ∃ (kk g ck : Nat) (Vs : List Value), tv = .slice (some ⟨g, 0, none⟩) kk ck ∧ t = .int .i64 (kk : Int) ∧ 1 ≤ kk ∧ kk ≤ 8 ∧ Hid (Tw w.heap.size wr g kk ck Vs m N) ∧ Hid (Below w.heap.size w wr)) (fun _ t _ => 8 - (intOf t).toNat)
  case atStart => exact ⟨1, w.heap.size, 1, _, rfl, rfl, by omega, by omega, HT0.out.1, HT0.out.2⟩
  case round =>
    obtain ⟨kk, g, ck, Vs, rfl, rfl, hk1, hk8, hT, hb⟩ := hrel
    by_cases hkl : kk < 8
    · have hklI : (kk : Int) < 8 := by omega
      obtain ⟨k1, hk⟩ : ∃ a, kk - 1 = a := ⟨_, rfl⟩
      have hkI : (kk : Int) - 1 = (k1 : Int) := by omega
      have wk1 : IntKind.i64.wrap (k1 : Int) = (k1 : Int) := by rw [IntKind.wrap_i64]; omega
      have wkk : IntKind.i64.wrap ((kk : Int) + 1) = (kk : Int) + 1 := by rw [IntKind.wrap_i64]; omega
      have hk1I : (k1 : Int) < (kk : Int) := by omega
      have hk10 : (0 : Int) ≤ (k1 : Int) := by omega
      have hk1l : k1 < 8 := by omega
      have HKK := show Hid (k1 + 1 = kk) from (by unfold Hid; omega)
      obtain ⟨X, hX⟩ : ∃ X, Vs[k1]? = some X := ⟨_, List.getElem?_eq_getElem (by rw [hT.out.len]; omega)⟩
      obtain ⟨yX, lX, cX, rfl, _, _⟩ : ∃ y l c, X = .slice y l c ∧ True ∧ True := by
        obtain ⟨b, _, h2⟩ := hT.out.2.2 k1 X hX
        obtain ⟨y, l, c, h3, _, _⟩ := h2.isD.shape
        exact ⟨y, l, c, h3, trivial, trivial⟩
      have HE := show Hid (∀ u, Below wr.drew.heap.size wr.drew u → Tw w.heap.size u g kk ck Vs m N ∧ IsD (m + k1) u (.slice yX lX cX) (N * 2 ^ k1) ∧ Below w.heap.size w u) from fun u hu => by
        have h1 := hT.out.later (below_drew (Below.refl wr.heap.size wr) hu)
        obtain ⟨b, _, h2⟩ := h1.2.2 k1 _ hX
        exact ⟨h1, h2.isD, below_drew hb.out hu⟩
      have HC := show Hid (∀ u, Below wr.drew.heap.size wr.drew u → u.cell? ⟨g, k1, none⟩ = some (.slice yX lX cX)) from fun u hu => (HE.out u hu).1.cell hX
      have HT := show Hid (Tw w.heap.size wr g kk ck Vs m N) from hT.out
      obtain ⟨B0, HB0⟩ : ∃ B0, Hid (wr.heap.size = B0) := ⟨_, rfl⟩
      clear hk hX hT hb
      go_wp2_with fail
      refine freeS_walk (Sem := semTw g k1 kk ck m N B0 yX lX cX) #[true, true, true, true, true, true, true, true, true, true, true, true, true, false, false] [some 19, some 20, some 21, some 22, some 23, some 24, some 25, some 26, some 27, some 28, some 29, some 30, some 31, none, none] rfl (n := 82) (by kernel_rfl) rfl (by kernel_rfl) (by kernel_rfl) rfl (by kernel_rfl) ?_ ?_ ?_
      · intro ix v u u' h hb
        match ix, h with
        | 0, h => exact h
        | 1, h => exact h
        | 2, h => exact h
        | 3, h => exact h
        | 4, h => exact h
        | 5, h => exact h
        | 6, h => exact h
        | 7, h => exact h
        | 8, h => exact h
        | 9, h => exact h
        | 10, h => exact h
        | 11, h => exact ⟨h.1.later hb, h.2⟩
        | 12, h => exact IsBx.later h hb
        | 13, h => exact h
        | 14, h => exact h
        | _ + 15, _ => exact trivial
      · intro ix o a u ho hL hF hbu
        match ix, ho, hL, hF with
        | 0, ho, _, hF =>
          obtain rfl := Option.some.inj ho
          have h6 : a.tmps[6]? = some (.slice (some ⟨g, 0, none⟩) kk ck) := (hF.out 6 rfl).trans rfl
          refine free_step rfl (by rfl) (fun K' hK => ?_)
          go_simp
          exact hK.out _ _ rfl (Below.refl _ _)
        | 1, ho, _, hF =>
          obtain rfl := Option.some.inj ho
          have h6 : a.tmps[6]? = some (.slice (some ⟨g, 0, none⟩) kk ck) := (hF.out 6 rfl).trans rfl
          refine free_step rfl (by rfl) (fun K' hK => ?_)
          go_simp
          exact hK.out _ _ rfl (Below.refl _ _)
        | 2, ho, _, hF =>
          obtain rfl := Option.some.inj ho
          have h7 : a.tmps[7]? = some (.int .i64 (kk : Int)) := (hF.out 7 rfl).trans rfl
          refine free_step rfl (by rfl) (fun K' hK => ?_)
          go_simp
          exact hK.out _ _ rfl (Below.refl _ _)
        | 3, ho, _, hF =>
          obtain rfl := Option.some.inj ho
          obtain ⟨v21, h21, s21⟩ := hF.dep 2 21 rfl rfl
          obtain rfl : v21 = .int .i64 (kk : Int) := s21
          refine free_step rfl (by rfl) (fun K' hK => ?_)
          go_simp
          exact hK.out _ _ rfl (Below.refl _ _)
        | 4, ho, _, hF =>
          obtain rfl := Option.some.inj ho
          obtain ⟨v20, h20, s20⟩ := hF.dep 1 20 rfl rfl
          obtain rfl : v20 = .slice (some ⟨g, 0, none⟩) kk ck := s20
          obtain ⟨v22, h22, s22⟩ := hF.dep 3 22 rfl rfl
          obtain rfl : v22 = .int .i64 (k1 : Int) := s22
          refine free_step rfl (by rfl) (fun K' hK => ?_)
          go_simp
          exact hK.out _ _ rfl (Below.refl _ _)
        | 5, ho, _, hF =>
          obtain rfl := Option.some.inj ho
          obtain ⟨v23, h23, s23⟩ := hF.dep 4 23 rfl rfl
          obtain rfl : v23 = .pointer (some ⟨g, k1, none⟩) := s23
          have gx := (HC.out u hbu)
          refine free_step rfl (by rfl) (fun K' hK => ?_)
          go_simp
          exact hK.out _ _ rfl (Below.refl _ _)
        | 6, ho, _, hF =>
          obtain rfl := Option.some.inj ho
          have h6 : a.tmps[6]? = some (.slice (some ⟨g, 0, none⟩) kk ck) := (hF.out 6 rfl).trans rfl
          refine free_step rfl (by rfl) (fun K' hK => ?_)
          go_simp
          exact hK.out _ _ rfl (Below.refl _ _)
        | 7, ho, _, hF =>
          obtain rfl := Option.some.inj ho
          have h7 : a.tmps[7]? = some (.int .i64 (kk : Int)) := (hF.out 7 rfl).trans rfl
          refine free_step rfl (by rfl) (fun K' hK => ?_)
          go_simp
          exact hK.out _ _ rfl (Below.refl _ _)
        | 8, ho, _, hF =>
          obtain rfl := Option.some.inj ho
          obtain ⟨v26, h26, s26⟩ := hF.dep 7 26 rfl rfl
          obtain rfl : v26 = .int .i64 (kk : Int) := s26
          refine free_step rfl (by rfl) (fun K' hK => ?_)
          go_simp
          exact hK.out _ _ rfl (Below.refl _ _)
        | 9, ho, _, hF =>
          obtain rfl := Option.some.inj ho
          obtain ⟨v25, h25, s25⟩ := hF.dep 6 25 rfl rfl
          obtain rfl : v25 = .slice (some ⟨g, 0, none⟩) kk ck := s25
          obtain ⟨v27, h27, s27⟩ := hF.dep 8 27 rfl rfl
          obtain rfl : v27 = .int .i64 (k1 : Int) := s27
          refine free_step rfl (by rfl) (fun K' hK => ?_)
          go_simp
          exact hK.out _ _ rfl (Below.refl _ _)
        | 10, ho, _, hF =>
          obtain rfl := Option.some.inj ho
          obtain ⟨v28, h28, s28⟩ := hF.dep 9 28 rfl rfl
          obtain rfl : v28 = .pointer (some ⟨g, k1, none⟩) := s28
          have gx := (HC.out u hbu)
          refine free_step rfl (by rfl) (fun K' hK => ?_)
          go_simp
          exact hK.out _ _ rfl (Below.refl _ _)
        | 11, ho, _, hF =>
          obtain rfl := Option.some.inj ho
          obtain ⟨v24, h24, s24⟩ := hF.dep 5 24 rfl rfl
          obtain rfl : v24 = .slice yX lX cX := s24
          obtain ⟨v29, h29, s29⟩ := hF.dep 10 29 rfl rfl
          obtain rfl : v29 = .slice yX lX cX := s29
          refine free_step rfl (by rfl) (fun K' hK => ?_)
          go_wp2_with fail
          refine (digAdd (m + k1) (m + k1) _ _ _ _ u (HE.out u hbu).2.1 (HE.out u hbu).2.1 (by omega) (by omega)).mono ?_
          rintro e u' ⟨⟨x, rfl, hx, hfx⟩, hb1⟩
          go_simp
          exact hK.out _ _ ⟨by
            have e2 : N * 2 ^ kk = N * 2 ^ k1 + N * 2 ^ k1 := by
              rw [← HKK.out, Nat.pow_succ, ← Nat.mul_assoc]
              omega
            rw [e2]
            exact hx.more (by have := HKK.out; omega), hfx.mono (by rw [← HB0.out]; exact (below_drew (Below.refl wr.heap.size wr) hbu).size)⟩ hb1
        | 12, ho, _, hF =>
          obtain rfl := Option.some.inj ho
          obtain ⟨v30, h30, s30⟩ := hF.dep 11 30 rfl rfl
          replace s30 : IsD (m + kk) u v30 (N * 2 ^ kk) ∧ FreshS B0 v30 := s30
          refine free_step rfl (by rfl) (fun K' hK => ?_)
          obtain ⟨yx, lx, cx, rfl, _, _⟩ := id s30.1.shape
          go_simp
          exact hK.out _ _ (isBx_new s30.1 s30.2) ((Below.refl _ _).alloc (Nat.le_refl _) _)
        | 13, _, hL, _ => exact absurd hL (by decide)
        | 14, _, hL, _ => exact absurd hL (by decide)
        | n + 15, ho, _, _ => exact absurd (Array.getElem?_eq_some_iff.1 ho).1 (by show ¬ n + 15 < 15; omega)
      · intro vs u m1 hm1 hS hbu
        have e0 : vs 0 = (.slice (some ⟨g, 0, none⟩) kk ck) := hS 0 19 rfl
        have s12 := hS 12 31 rfl
        simp only [putD, Act.put, List.setIfInBounds_toArray, List.set_cons_succ, List.set_cons_zero, Nat.reduceAdd]
        rw [e0]
        clear hS e0
        generalize vs 1 = z1
        generalize vs 2 = z2
        generalize vs 3 = z3
        generalize vs 4 = z4
        generalize vs 5 = z5
        generalize vs 6 = z6
        generalize vs 7 = z7
        generalize vs 8 = z8
        generalize vs 9 = z9
        generalize vs 10 = z10
        generalize vs 11 = z11
        generalize vs 12 = z12 at *
        obtain ⟨m2, rfl⟩ : ∃ k, m1 = k + 1 + 1 := ⟨m1 - 2, by have h2 : 2 ≤ m1 := hm1; omega⟩
        have hbx := below_drew (Below.refl wr.heap.size wr) hbu
        obtain ⟨_, _, hbn⟩ := HE.out u hbu
        clear hbu
        obtain ⟨p, x, rfl, hpl, hpc, hx, hfx⟩ : IsBx (m + kk) B0 u z12 (N * 2 ^ kk) := s12
        rw [← HB0.out] at hfx
        refine any_op 13 (by kernel_rfl) rfl (by rfl) (fun K3 hK3 => ?_)
        refine wp_append_tw _ _ rfl w.heap.size g kk ck Vs (by simp [Act.eval]) (HT.out.later hbx).1 p (by simp [Act.eval]) x hpc (slice_one hx) (by omega) hbn.size ?_
        intro g' ck' u2 ho2 hg2 hw2
        have HF2 := show Hid (Tw w.heap.size u2 g' (kk + 1) ck' (Vs ++ [x]) m N ∧ Below w.heap.size w u2) from ⟨tw_more HT.out HN0.out hbx hx hfx ho2 hg2 hw2, below_tw hbn hbn.size hg2 HT.out.ge⟩
        clear hx hfx ho2 hg2 hw2 hbn hbx hpc hpl
        refine hK3.out _ _ ?_
        clear hK3
        refine any_op 14 (by kernel_rfl) rfl (by rfl) (fun K4 hK4 => ?_)
        go_simp
        refine hK4.out _ _ (any_end (by kernel_rfl) ?_ _)
        clear hK4
        go_wp2_with fail
        go_roundw
        case rel => exact ⟨kk + 1, g', ck', Vs ++ [x], rfl, by go_num, by omega, by omega, HF2.out.1, HF2.out.2⟩
        case measure => simp [intOf]; omega
    · have hklI : ¬ (kk : Int) < 8 := by omega
      obtain rfl : kk = 8 := by omega
      obtain ⟨wt, hwt⟩ : ∃ a, a = wr := ⟨_, rfl⟩
      subst hwt
      go_wp2_with (at_make; go_must (refine wpList_make_n RI wt rfl _ _ rfl .i64 .i64 _ _ n rfl rfl rfl rfl (by omega) ?_; intro w1 ho1 hb1))
      obtain ⟨hR1, _⟩ := RowN.own ho1
      obtain ⟨gq, hgq⟩ : ∃ g, wt.heap.size = g := ⟨_, rfl⟩
      have HGQ := show Hid (wt.heap.size = gq) from hgq
      have HR1 := show Hid (RowN .i64 w1 gq (List.replicate n 0) ∧ Below wt.heap.size wt w1) from ⟨by rw [← hgq]; exact hR1, hb1⟩
      rw [hgq]
      clear ho1 hb1 hR1 hgq HT0 wn1
      have hnil : ∀ u : World, IsD (m + 1) u (.slice none 0 0) 0 := fun u => ⟨none, 0, [], rfl, ⟨none, 0, rfl, by simp, by unfold maxLen; omega, .inl ⟨rfl, rfl, rfl⟩⟩, fun z hz => (List.not_mem_nil hz).elim, rfl, rfl, by simp⟩
      have wn1 : IntKind.i64.wrap ((n : Int) - 1) = (n : Int) - 1 := by rw [IntKind.wrap_i64]; omega
      go_loopw [9, 10] (fun r t wr => ∃ (j R : Nat) (O : List Nat), t = .int .i64 ((j : Int) - 1) ∧ j ≤ n ∧ Hid (IsD (m + 1) wr r R ∧ FreshS (gq + 1) r ∧ R < N) ∧ Hid (RowN .i64 wr gq O ∧ O.length = n ∧ AllD O ∧ numD (L.drop j) = numD (O.drop j) * N + R ∧ ∀ k, k < j → O[k]? = some 0) ∧ Hid (Below wt.heap.size wt wr)) (fun _ t _ => (intOf t + 1).toNat)
      case atStart => exact ⟨n, 0, List.replicate n 0, rfl, Nat.le_refl _, ⟨hnil _, fun b o n c h => (by cases h), Nat.pos_of_ne_zero HN0.out⟩, ⟨HR1.out.1, by simp, allD_zero _, by rw [List.drop_of_length_le (by rw [HL.out.2.2]; exact Nat.le_refl _), List.drop_of_length_le (by simp)]; simp [numD], fun k hk => by simp [hk]⟩, HR1.out.2⟩
      case round =>
        obtain ⟨j, R, O, rfl, hj, hr, hq, hbt⟩ := hrel
        rcases j with _ | k
        · have hge : ¬ (0 : Int) ≤ ((0 : Nat) : Int) - 1 := by omega
          have hIN := hq.out.1.isN (o := 0) (n := n) (c := n) (by rw [hq.out.2.1]; omega) (Nat.le_refl _) (by omega)
          have e0 : (O.drop 0).take n = O := by rw [List.drop_zero, List.take_of_length_le (by rw [hq.out.2.1]; exact Nat.le_refl _)]
          rw [e0] at hIN
          have hzz := hq.out.2.1
          have hT2 := dTrim_any (some ⟨gq, 0, none⟩) n O wr (by rw [hzz]; exact hIN) (by omega)
          rw [hzz] at hT2
          have HF := show Hid (O.length ≤ n ∧ AllD O ∧ numD O = numD L / N ∧ IsD m wr u9 (numD L % N) ∧ Below w.heap.size w wr) from by
            obtain ⟨q1, q2, q3, q4, _⟩ := hq.out
            rw [List.drop_zero, List.drop_zero] at q4
            have h1 := (Nat.div_mod_unique (Nat.pos_of_ne_zero HN0.out) (a := numD L) (d := numD O) (c := R)).2 ⟨by rw [q4, Nat.mul_comm N, Nat.add_comm], hr.out.2.2⟩
            refine ⟨by omega, q3, h1.1.symm, ?_, hb.out.trans (hbt.out.mono hb.out.size)⟩
            rw [h1.2]
            exact hr.out.1.narrow (Nat.lt_trans hr.out.2.2 HNL.out)
          clear hq hIN e0 hzz hr hbt
          go_wp2_with fail
          refine hT2.mono ?_
          rintro e w2 ⟨rfl, hN, rfl⟩
          have HF2 := show Hid (IsD n w2 (.slice (some ⟨gq, 0, none⟩) (trimL O).length n) (numD L / N)) from isD_trim hN HF.out.2.1 HF.out.2.2.1 HF.out.1
          clear hN hT2
          go_wp2_with fail
          go_ret2
          exact dividD_mk HF2.out HF.out.2.2.2.1 HF.out.2.2.2.2
        · have e1 : ((k + 1 : Nat) : Int) - 1 = (k : Int) := by omega
          rw [e1]
          have hge : (0 : Int) ≤ (k : Int) := by omega
          have hkn : (k : Int) < (n : Int) := by omega
          have wk : IntKind.i64.wrap ((k : Int) - 1) = (k : Int) - 1 := by rw [IntKind.wrap_i64]; omega
          have hdL : L[k]? = some (atN L k) := atN_some (by have := HL.out.2.2; omega)
          obtain ⟨x, hx⟩ : ∃ x, atN L k = x := ⟨_, rfl⟩
          rw [hx] at hdL
          have hx8 : x < 256 := HL.out.2.1.at hdL
          have HTL := show Hid (numD (L.drop k) = x + 256 * numD (L.drop (k + 1))) from drop_numD hdL
          obtain ⟨x1, b, o, rfl, hbl, gc⟩ := IsN.cellAt (HL.out.1.later (hb.out.trans (hbt.out.mono hb.out.size))) hdL
          obtain ⟨yr, cr, Lr, rfl, hIr, hAr, _, hNr, hlr⟩ := hr.out.1
          obtain ⟨lr, hlre⟩ : ∃ l, Lr.length = l := ⟨_, rfl⟩
          have HIR := show Hid (IsN .i64 wr (.slice yr lr cr) Lr) from by rw [← hlre]; exact hIr
          have HXL := show Hid ([x] ++ Lr = x :: Lr) from rfl
          have HLR := show Hid (AllD Lr ∧ numD Lr = R ∧ Lr.length = lr ∧ R < N) from ⟨hAr, hNr, hlre, hr.out.2.2⟩
          have hsz : [x].length + Lr.length ≤ 1000000 := by simp; omega
          obtain ⟨wo, hwo⟩ : ∃ a, a = wr := ⟨_, rfl⟩
          subst hwo
          rw [hlre]
          have HGL := show Hid (gq < wo.heap.size) from hq.out.1.lt
          clear x1 hx hbl hIr hAr hNr hlr hr hlre e1
          go_wp2_with (at_builtin; go_must (refine wpList_append_ns RI rfl _ _ rfl wo.heap.size _ [x] rfl (own_oneN RI wo x) _ Lr rfl (HIR.out.alloc _) (x :: Lr) HXL hsz (by simp) ?_; intro v2 w2 ho2 hb2; obtain ⟨y5, c5, rfl⟩ := own_shape ho2))
          have hT2 := dTrim_any y5 c5 (x :: Lr) w2 (own_n ho2) (by have := HLR.out.2.2.1; simp at hsz ⊢; omega)
          have hbo2 : Below wo.heap.size wo w2 := ((Below.refl _ wo).alloc (Nat.le_refl _) _).trans hb2
          obtain ⟨T, hT3⟩ : ∃ T, x + 256 * R = T := ⟨_, rfl⟩
          have HTT := show Hid (x + 256 * R = T ∧ T < N * 2 ^ 8) from ⟨hT3, by have := HLR.out.2.2.2; omega⟩
          have HQ2 := show Hid (RowN .i64 w2 gq O ∧ Below wt.heap.size wt w2 ∧ FreshS (gq + 1) (.slice y5 (trimL (x :: Lr)).length c5)) from ⟨hq.out.1.later hbo2, hbt.out.trans (hbo2.mono hbt.out.size), (own_fresh ho2 _).mono HGL.out⟩
          clear ho2 hb2 hbo2 hT3
          refine hT2.mono ?_
          rintro e w3 ⟨rfl, hN3, rfl⟩
          have HR3 := show Hid (IsD (m + 1) w3 (.slice y5 (trimL (x :: Lr)).length c5) T) from by
            have h1 := isD_trim (n := (x :: Lr).length) (N := T) hN3 (fun z hz => by
              rcases List.mem_cons.1 hz with rfl | hz
              · exact hx8
              · exact HLR.out.1 z hz) (by rw [numD, HLR.out.2.1]; exact HTT.out.1) (Nat.le_refl _)
            refine h1.narrow ?_
            have h2 := HNL.out
            have h3 := HTT.out.2
            rw [Nat.pow_succ]
            omega
          clear hN3 hT2
          obtain ⟨lr5, hlr5⟩ : ∃ l, (trimL (x :: Lr)).length = l := ⟨_, rfl⟩
          rw [hlr5] at HR3 HQ2 ⊢
          clear hlr5
          have hO0 := hq.out.2.2.2.2 k (by omega)
          have HO0 := show Hid (O.set k 0 = O ∧ k < O.length) from by
            refine ⟨?_, (List.getElem?_eq_some_iff.1 hO0).1⟩
            apply List.ext_getElem?
            intro i
            by_cases hi : k = i
            · subst hi
              rw [List.getElem?_set_self (List.getElem?_eq_some_iff.1 hO0).1, hO0]
            · rw [List.getElem?_set_ne hi]
          clear hO0
          go_wp2_with fail
          go_loopw [9, 11, 12] (fun r p t wi => ∃ (k2 R2 s pp : Nat), p = .int .i64 (pp : Int) ∧ t = .int .i64 ((k2 : Int) - 1) ∧ k2 ≤ 8 ∧ pp ≤ 128 ∧ Hid (pp = 2 ^ k2 / 2) ∧ Hid (IsD (m + 1) wi r R2 ∧ FreshS (gq + 1) r ∧ R2 < N * 2 ^ k2 ∧ s * N + R2 = T) ∧ Hid (RowN .i64 wi gq (O.set k s)) ∧ Hid (Below wt.heap.size wt wi)) (fun _ _ t _ => (intOf t + 1).toNat)
          case atStart => exact ⟨8, T, 0, 128, rfl, rfl, by omega, by omega, rfl, ⟨HR3.out, HQ2.out.2.2, HTT.out.2, by omega⟩, by unfold Hid; rw [HO0.out.1]; exact HQ2.out.1, HQ2.out.2.1⟩
          case round =>
            obtain ⟨k2, R2, s, pp, rfl, rfl, hk2, hpp8, hpp, hr2, hq2, hbi⟩ := hrel
            have hs8 : s < 256 := by
              have h1 := hr2.out.2.2.2
              have h2 := HTT.out.2
              apply Classical.byContradiction
              intro hn
              have h3 : 256 * N ≤ s * N := Nat.mul_le_mul_right _ (by omega)
              omega
            rcases k2 with _ | k3
            · have hge2 : ¬ (0 : Int) ≤ ((0 : Nat) : Int) - 1 := by omega
              have HF := show Hid ((IsD (m + 1) wr u9 R2 ∧ FreshS (gq + 1) u9 ∧ R2 < N) ∧ (RowN .i64 wr gq (O.set k s) ∧ (O.set k s).length = n ∧ AllD (O.set k s) ∧ numD (L.drop k) = numD ((O.set k s).drop k) * N + R2 ∧ ∀ i, i < k → (O.set k s)[i]? = some 0) ∧ Below wt.heap.size wt wr) from by
                obtain ⟨q1, q2, q3, q4⟩ := hr2.out
                obtain ⟨_, p2, p3, p4, p5⟩ := hq.out
                rw [Nat.pow_zero, Nat.mul_one] at q3
                refine ⟨⟨q1, q2, q3⟩, ⟨hq2.out, by simp [p2], p3.set _ hs8, ?_, fun i hi => ?_⟩, hbi.out⟩
                · rw [HTL.out, drop_numD (L := O.set k s) (k := k) (x := s) (List.getElem?_set_self HO0.out.2), List.drop_set_of_lt (by omega)]
                  exact div_rowD p4 (by rw [q4]; exact HTT.out.1.symm)
                · rw [List.getElem?_set_ne (by omega)]
                  exact p5 i (by omega)
              clear hr2 hq2 hbi hpp
              go_wp2_with fail
              go_roundw
              case rel => exact ⟨k, R2, O.set k s, rfl, by omega, HF.out.1, HF.out.2.1, HF.out.2.2⟩
              case measure => simp [intOf]
            · have e1 : ((k3 + 1 : Nat) : Int) - 1 = (k3 : Int) := by omega
              rw [e1]
              have hge2 : (0 : Int) ≤ (k3 : Int) := by omega
              have hk38 : (k3 : Int) < 8 := by omega
              have wk3 : IntKind.i64.wrap ((k3 : Int) - 1) = (k3 : Int) - 1 := by rw [IntKind.wrap_i64]; omega
              obtain ⟨p2, hp2⟩ : ∃ a, pp / 2 = a := ⟨_, rfl⟩
              have hp2I : (pp : Int).tdiv 2 = (p2 : Int) := by rw [Int.tdiv_eq_ediv_of_nonneg (by omega)]; omega
              have wp2 : IntKind.i64.wrap (p2 : Int) = (p2 : Int) := by rw [IntKind.wrap_i64]; omega
              have HPP := show Hid (pp = 2 ^ k3 ∧ p2 = 2 ^ k3 / 2) from by
                have h1 : pp = 2 ^ k3 := by rw [hpp.out, Nat.pow_succ]; omega
                exact ⟨h1, by rw [← hp2, h1]⟩
              have hp28 : p2 ≤ 128 := by omega
              have hTi := hT.out.later hbi.out
              obtain ⟨X, hX⟩ : ∃ X, Vs[k3]? = some X := ⟨_, List.getElem?_eq_getElem (by rw [hT.out.len]; omega)⟩
              obtain ⟨bX, _, hXb⟩ := hTi.2.2 k3 X hX
              have hXD := hXb.isD
              have gX := hTi.cell hX
              have hCm := digCmp (m + 1) (m + k3) u9 X R2 (N * 2 ^ k3) wr hr2.out.1 hXD (by omega)
              obtain ⟨yX, lX, cX, rfl, _, _⟩ := id hXD.shape
              obtain ⟨y9, l9, c9, rfl, _, _⟩ := id hr2.out.1.shape
              have HXD := show Hid (∀ u, Below wr.heap.size wr u → IsD (m + k3) u (.slice yX lX cX) (N * 2 ^ k3) ∧ u.cell? ⟨g, k3, none⟩ = some (.slice yX lX cX)) from fun u hu => ⟨hXD.later hu, (hTi.later hu).cell hX⟩
              clear hp2 hpp hX hXb hXD hTi e1
              obtain ⟨cc, hcc⟩ : ∃ c, cmpN R2 (N * 2 ^ k3) = c := ⟨_, rfl⟩
              rw [hcc] at hCm
              by_cases hle : N * 2 ^ k3 ≤ R2
              · have hc0 : (0 : Int) ≤ cc := by
                  rw [← hcc]
                  unfold cmpN
                  rw [if_neg (by omega)]
                  split <;> decide
                clear hcc
                go_wp2_with fail
                refine hCm.mono ?_
                rintro e w4 ⟨rfl, hb4⟩
                clear hCm gX
                have gX := (HXD.out w4 hb4).2
                have hSb := digSub (m + 1) (m + k3) (.slice y9 l9 c9) (.slice yX lX cX) R2 (N * 2 ^ k3) w4 (hr2.out.1.later hb4) (HXD.out w4 hb4).1 (by omega) hle
                have HB4 := show Hid (Below wr.heap.size wr w4) from hb4
                clear hb4
                go_wp2_with fail
                refine hSb.mono ?_
                rintro e w5 ⟨⟨r5, rfl, hr5, hf5⟩, hb5⟩
                clear hSb gX
                have hb45 : Below wr.heap.size wr w5 := HB4.out.trans (hb5.mono HB4.out.size)
                have hR5 := hq2.out.later hb45
                have hsO : (O.set k s)[k]? = some s := List.getElem?_set_self HO0.out.2
                have g7 := hR5.cell hsO
                have r7 := hR5.free k
                obtain ⟨s2, hs2⟩ : ∃ a, s + pp = a := ⟨_, rfl⟩
                have hs2I : (s : Int) + (pp : Int) = (s2 : Int) := by omega
                have ws2 : IntKind.i64.wrap (s2 : Int) = (s2 : Int) := by rw [IntKind.wrap_i64]; omega
                have HF := show Hid ((IsD (m + 1) (w5.setCell ⟨gq, k, none⟩ (.int .i64 (s2 : Int))) r5 (R2 - N * 2 ^ k3) ∧ FreshS (gq + 1) r5 ∧ R2 - N * 2 ^ k3 < N * 2 ^ k3 ∧ s2 * N + (R2 - N * 2 ^ k3) = T) ∧ RowN .i64 (w5.setCell ⟨gq, k, none⟩ (.int .i64 (s2 : Int))) gq (O.set k s2) ∧ Below wt.heap.size wt (w5.setCell ⟨gq, k, none⟩ (.int .i64 (s2 : Int)))) from by
                  obtain ⟨q1, q2, q3, q4⟩ := hr2.out
                  have hf6 : FreshS (gq + 1) r5 := hf5.mono (Nat.le_trans hq2.out.lt HB4.out.size)
                  have h1 := hR5.set hsO s2
                  rw [List.set_set] at h1
                  refine ⟨⟨hr5.set hf6, hf6, ?_, ?_⟩, h1, below_set (hbi.out.trans (hb45.mono hbi.out.size)) (by rw [HGQ.out]; exact Nat.le_refl _)⟩
                  · rw [Nat.pow_succ, ← Nat.mul_assoc] at q3
                    omega
                  · rw [← hs2, HPP.out.1, Nat.add_mul, Nat.mul_comm (2 ^ k3) N]
                    omega
                clear hr5 hf5 hb5 hb45 hR5 hsO hs2 hr2 hq2 hbi
                go_wp2_with fail
                go_roundw
                case rel => exact ⟨k3, _, s2, p2, rfl, rfl, by omega, hp28, HPP.out.2, HF.out.1, HF.out.2.1, HF.out.2.2⟩
                case measure => simp [intOf]
              · have hc0 : ¬ (0 : Int) ≤ cc := by
                  rw [← hcc]
                  unfold cmpN
                  rw [if_pos (by omega)]
                  decide
                clear hcc
                go_wp2_with fail
                refine hCm.mono ?_
                rintro e w4 ⟨rfl, hb4⟩
                clear hCm gX
                have HF := show Hid ((IsD (m + 1) w4 (.slice y9 l9 c9) R2 ∧ FreshS (gq + 1) (.slice y9 l9 c9) ∧ R2 < N * 2 ^ k3 ∧ s * N + R2 = T) ∧ RowN .i64 w4 gq (O.set k s) ∧ Below wt.heap.size wt w4) from by
                  obtain ⟨q1, q2, q3, q4⟩ := hr2.out
                  exact ⟨⟨q1.later hb4, q2, by omega, q4⟩, hq2.out.later hb4, hbi.out.trans (hb4.mono hbi.out.size)⟩
                clear hr2 hq2 hbi hb4
                go_wp2_with fail
                go_roundw
                case rel => exact ⟨k3, R2, s, p2, rfl, rfl, by omega, hp28, HPP.out.2, HF.out.1, HF.out.2.1, HF.out.2.2⟩
                case measure => simp [intOf]
end Go.Proofs.YtpcmpeeflnlkpaaDoor
