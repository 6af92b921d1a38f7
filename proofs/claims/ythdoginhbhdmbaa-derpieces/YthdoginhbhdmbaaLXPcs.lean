/-
  DerPieces, walked.
-/
import Derived.Test.YthdoginhbhdmbaaLXOne
import Derived.Test.YthdoginhbhdmbaaLXAll
import Derived.Test.YthdoginhbhdmbaaLXPut
import Derived.Test.YthdoginhbhdmbaaXPutB
import Derived.Test.YthdoginhbhdmbaaHFreeS
namespace Go.Proofs.Ythdoginhbhdmbaa
open Go.RowKit Ch
set_option maxRecDepth 100000

theorem wp_append_list {w : World} {o : Oper} {a : Act} {K : Act → World → Prop} {Q : Exit → Act → World → Prop} (hgd : o.guard = none) (so x : Operand)
    (ho : o.op = .call { callee := .builtin .append, args := #[so, x], argTypes := #[24, 24] })
    (base : Nat) (v : Value) (acc : List UInt8) (hs : a.eval so = v) (hown : w.ownsRow base 5 1 v acc.length (Lib.byteCells acc))
    (u : Value) (t : ByteArray) (hx : a.eval x = u) (hu : IsBytes w u t) (hsz : acc.length + t.size ≤ 1000000) (hbase : base ≤ w.heap.size) (r : List UInt8) (hr : Hid (acc ++ t.data.toList = r))
    (h : ∀ a' cap' w', w'.ownsRow base 5 1 (.slice a' r.length cap') r.length (Lib.byteCells r) → Below base w w' → K (a.put o.dst (.slice a' r.length cap')) w') : o.wp Try.prog a w K Q := by
  have hw : Region.wanted o (yielded #[] a.tmps) = true := by simp [Region.wanted, hgd]
  have := step_append_list (ops := #[]) (Q := Q) (E := True) hgd so x ho base v acc hs hown u t hx hu hsz hbase r hr h
  rwa [if_pos hw] at this
/-- May all these be put? -/
def tagsB (ps : List (UInt8 × List UInt8)) : Bool := ps.all fun p => decide (p.1.toNat % 32 ≠ 31)
theorem tagsB_true {ps : List (UInt8 × List UInt8)} : tagsB ps = true ↔ ∀ p ∈ ps, tagOk p.1 := by
  unfold tagsB tagOk
  simp [List.all_eq_true]
theorem tagsB_take {ps : List (UInt8 × List UInt8)} {i : Nat} {p : UInt8 × List UInt8} (h : ps[i]? = some p) : tagsB (ps.take (i + 1)) = (tagsB (ps.take i) && decide (p.1.toNat % 32 ≠ 31)) := by
  have e : ps.take (i + 1) = ps.take i ++ [p] := by rw [List.take_add_one, h]; rfl
  rw [e]
  unfold tagsB
  simp
theorem putL1_le {p : UInt8 × List UInt8} (h : p.2.length ≤ 700) : (putL1 p).length ≤ 704 := by
  obtain ⟨t, bl⟩ := p
  simp only at h
  have h1 : (lenB bl.length).length ≤ 3 := by
    by_cases h1 : bl.length < 128
    · rw [lenB_small h1]; simp
    · by_cases h2 : bl.length < 256
      · rw [lenB_mid (by omega) h2]; simp
      · rw [lenB_big (by omega) (by omega)]; simp
  simp only [putL1, List.length_cons, List.length_append]
  omega
/-- These bytes, anywhere. -/
def SemP (P : List UInt8) (u : World) (v : Value) : Prop := ∃ y c, v = .slice y P.length c ∧ IsBytes u v ⟨P.toArray⟩
theorem semP_later {P : List UInt8} {u u' : World} {v : Value} (h : SemP P u v) (hb : Below u.heap.size u u') : SemP P u' v := by
  obtain ⟨y, c, h1, h2⟩ := h
  exact ⟨y, c, h1, h2.later hb⟩
theorem semP_own {P : List UInt8} {base : Nat} {u : World} {v : Value} (h : OwnL base u v P) : SemP P u v := by
  obtain ⟨y, c, rfl⟩ := own_shape h
  exact ⟨y, c, rfl, h.is⟩
def semLxP (b o i n k m cx cb vc : Nat) (yb vy : Option Addr) (t : UInt8) (P : List UInt8) : Nat → Value → World → Prop := fun ix v u => match ix with
  | 0 => v = .slice vy m vc
  | 1 => v = .slice (some ⟨b, o, none⟩) n cx
  | 2 => v = .int .i64 (i : Int)
  | 3 => v = .pointer (some ⟨b, o + i * 2, none⟩)
  | 4 => v = .pointer (some ⟨b, o + i * 2, none⟩)
  | 5 => v = .int .u8 (t.toNat : Int)
  | 6 => v = .slice (some ⟨b, o, none⟩) n cx
  | 7 => v = .int .i64 (i : Int)
  | 8 => v = .pointer (some ⟨b, o + i * 2, none⟩)
  | 9 => v = .pointer (some ⟨b, o + i * 2 + 1, none⟩)
  | 10 => v = .slice yb k cb
  | 11 => SemP P u v
  | 12 => v = v
  | 13 => v = v
  | _ => True
set_option maxHeartbeats 16000000 in
theorem lxPieces_any (ps : List (UInt8 × List UInt8)) (x : Option Addr) (cx : Nat) (w : World) (hP : IsPs w (.slice x ps.length cx) ps) :
    Calls Try.prog 3 #[.slice x ps.length cx] w fun e w' => e = .returned (.bool true) ∧ Below w.heap.size w w' := by
  obtain ⟨n, hn⟩ : ∃ n, ps.length = n := ⟨_, rfl⟩
  rw [hn] at hP ⊢
  have HP := show Hid (IsPs w (.slice x n cx) ps ∧ ps.length = n) from ⟨hP, hn⟩
  clear hP hn
  go_enter Try.func3, Try.ntmps3
  by_cases hg0 : 20 < n
  · have hi0 : (20 : Int) < (n : Int) := by omega
    clear HP
    go_wp2_with fail
    refine (lxAwake_any w).mono ?_
    rintro e w1 ⟨rfl, hb1⟩
    go_wp2_with fail
    refine (lxAwake_any w1).mono ?_
    rintro e w2 ⟨rfl, hb2⟩
    have HF := show Hid (Below w.heap.size w w2) from bl2 hb1 hb2
    clear hb1 hb2
    go_wp2_with fail
    go_ret
    exact ⟨rfl, HF.out⟩
  have hi0 : ¬ (20 : Int) < (n : Int) := by omega
  have hn20 : n ≤ 20 := by omega
  go_wp2_with fail
  refine (lxAwake_any w).mono ?_
  rintro e w1 ⟨rfl, hb1⟩
  have HB1 := show Hid (Below w.heap.size w w1) from hb1
  clear hb1
  go_wp2_with fail
  go_loopw [3, 4, 5] (fun tv tr t wr => ∃ i : Nat, i ≤ n ∧ tr = .bool (tagsB (ps.take i)) ∧ t = .int .i64 (i : Int) ∧ Hid (OwnL w.heap.size wr tv (putL (ps.take i))) ∧ Hid ((putL (ps.take i)).length ≤ 704 * i ∧ ∀ j p, j < i → ps[j]? = some p → p.2.length ≤ 700) ∧ Hid (Below w.heap.size w wr)) (fun _ _ t _ => n - (intOf t).toNat)
  case atStart => exact ⟨0, by omega, rfl, rfl, World.ownsRow_nil _ _ _ _, ⟨by simp [putL], fun j p h _ => absurd h (Nat.not_lt_zero j)⟩, HB1.out⟩
  case round =>
    obtain ⟨i, hi, rfl, rfl, hv, hle, hb⟩ := hrel
    by_cases hin : i < n
    · have hinI : (i : Int) < (n : Int) := by omega
      have wi : IntKind.i64.wrap ((i : Int) + 1) = (i : Int) + 1 := by rw [IntKind.wrap_i64]; omega
      obtain ⟨p, hp⟩ : ∃ p, ps[i]? = some p := ⟨_, List.getElem?_eq_getElem (by rw [HP.out.2]; exact hin)⟩
      obtain ⟨y0, c0, h0, _, h1⟩ := HP.out.1.later hb.out
      simp only [Value.slice.injEq] at h0
      obtain ⟨rfl, hn0, rfl⟩ := h0
      clear hn0
      obtain ⟨b, o, yb, cb, rfl, hbl, g0, g1, g2⟩ := h1 i p hp
      obtain ⟨vy, vc, hvs⟩ := own_shape hv.out
      subst hvs
      obtain ⟨m, hm⟩ : ∃ m, (putL (ps.take i)).length = m := ⟨_, rfl⟩
      by_cases h700 : 700 < p.2.length
      · obtain ⟨t, bl⟩ := p
        obtain ⟨k, hk⟩ : ∃ k, bl.length = k := ⟨_, rfl⟩
        dsimp only at g0 g1 g2 h700
        rw [hk] at g1 h700
        have h7I : (700 : Int) < (k : Int) := by omega
        have HF := show Hid (Below w.heap.size w wr) from hb.out
        clear hp h1 hk hbl g0 g2 hv hle hb hm
        go_wp2_with fail
        go_ret
        exact ⟨rfl, HF.out⟩
      have h7 : p.2.length ≤ 700 := by omega
      have hR1 := putL_take hp
      have hR2 := tagsB_take hp
      have hR3 : (putL (ps.take (i + 1))).length ≤ 704 * (i + 1) ∧ ∀ j q, j < i + 1 → ps[j]? = some q → q.2.length ≤ 700 := by
        refine ⟨?_, fun j q hj hq => ?_⟩
        · have h8 := putL1_le h7
          have h9 := hle.out.1
          rw [hR1, List.length_append]
          omega
        · rcases Nat.lt_succ_iff_lt_or_eq.1 hj with h9 | h9
          · exact hle.out.2 j q h9 hq
          · rw [h9, hp] at hq
            rw [← Option.some.inj hq]
            exact h7
      have hPl := putL1_le h7
      obtain ⟨t, bl⟩ := p
      obtain ⟨k, hk⟩ : ∃ k, bl.length = k := ⟨_, rfl⟩
      obtain ⟨P, hPP⟩ : ∃ P, putL1 (t, bl) = P := ⟨_, rfl⟩
      dsimp only at g0 g1 g2 h700 h7 hR2
      have HCall := show Hid (∀ u, IsBytes u (.slice yb k cb) ⟨bl.toArray⟩ → Calls Try.prog 7 #[.int .u8 (t.toNat : Int), .slice yb k cb] u fun e w' => (∃ v, e = .returned v ∧ OwnL u.heap.size w' v P) ∧ Below u.heap.size u w') from fun u hu => by
        rw [← hk] at hu ⊢
        rw [← hPP]
        exact rxPut_any t bl yb cb u hu h7
      rw [hPP] at hR1 hPl
      rw [hk] at g1 g2 h700
      have h7I : ¬ (700 : Int) < (k : Int) := by omega
      obtain ⟨zz, hzz⟩ : ∃ z, t.toNat % 32 = z := ⟨_, rfl⟩
      rw [hzz] at hR2
      have hz32 : zz < 32 := by omega
      have q1 : (t.toNat : Int).tmod 32 = (zz : Int) := by rw [Int.tmod_eq_emod_of_nonneg (by omega)]; omega
      have q2 : IntKind.u8.wrap (zz : Int) = (zz : Int) := wraps_u8 _ (by omega) (by omega)
      have hmm : m ≤ 704 * 20 := by have := hle.out.1; omega
      have HE := show Hid (∀ u, Below wr.drew.heap.size wr.drew u → u.cell? ⟨b, o + i * 2, none⟩ = some (.int .u8 (t.toNat : Int)) ∧ u.cell? ⟨b, o + i * 2 + 1, none⟩ = some (.slice yb k cb) ∧ IsBytes u (.slice yb k cb) ⟨bl.toArray⟩ ∧ Below w.heap.size w u ∧ Below wr.heap.size wr u) from fun u hu => by
        have hw : Below wr.heap.size wr u := below_drewA hu
        exact ⟨(hw.cell (p := ⟨b, o + i * 2, none⟩) hbl).trans g0, (hw.cell (p := ⟨b, o + i * 2 + 1, none⟩) hbl).trans g1, g2.later hw, bl2 hb.out hw, hw⟩
      rw [hm] at hv ⊢
      have HV := show Hid (OwnL w.heap.size wr (.slice vy m vc) (putL (ps.take i)) ∧ (putL (ps.take i)).length + P.length ≤ 1000000) from ⟨hv.out, by rw [hm]; omega⟩
      have HR := show Hid (putL (ps.take (i + 1)) = putL (ps.take i) ++ P ∧ tagsB (ps.take (i + 1)) = (tagsB (ps.take i) && decide (zz ≠ 31)) ∧ ((putL (ps.take (i + 1))).length ≤ 704 * (i + 1) ∧ ∀ j q, j < i + 1 → ps[j]? = some q → q.2.length ≤ 700)) from ⟨hR1, hR2, hR3⟩
      clear hp h1 hk hbl g2 hv hle hb hm hR1 hR2 hR3 hPl hPP hzz h7 h700
      cases hr0 : tagsB (ps.take i) with
      | false =>
        go_wp2_with fail
        refine freeS_walk (Sem := semLxP b o i n k m cx cb vc yb vy t P) #[true, true, true, true, true, true, true, true, true, true, true, true, false, false] [some 41, some 42, some 43, some 44, some 45, some 46, some 47, some 48, some 49, some 50, some 51, some 52, none, none] rfl (n := 91) (by kernel_rfl) rfl (by kernel_rfl) (by kernel_rfl) rfl (by kernel_rfl) ?_ ?_ ?_
        · intro ix v u u' h hb
          match ix, h with
          | 0, h => exact h
          | 1, h => exact h
          | 2, h => exact h
          | 3, h => exact h
          | 4, h => exact h
          | 5, h => exact h
          | 6, h => exact h
          | 7, h => exact h
          | 8, h => exact h
          | 9, h => exact h
          | 10, h => exact h
          | 11, h => exact semP_later h hb
          | 12, h => exact h
          | 13, h => exact h
          | _ + 14, _ => exact trivial
        · intro ix o a u ho hL hF hbu
          match ix, ho, hL, hF with
          | 0, ho, _, hF =>
            obtain rfl := Option.some.inj ho
            have h3 : a.tmps[3]? = some (.slice vy m vc) := (hF.out 3 rfl).trans rfl
            refine free_step rfl (by rfl) (fun K' hK => ?_)
            go_simp
            exact hK.out _ _ rfl (Below.refl _ _)
          | 1, ho, _, hF =>
            obtain rfl := Option.some.inj ho
            have h0 : a.tmps[0]? = some (.slice (some ⟨b, o, none⟩) n cx) := (hF.out 0 rfl).trans rfl
            refine free_step rfl (by rfl) (fun K' hK => ?_)
            go_simp
            exact hK.out _ _ rfl (Below.refl _ _)
          | 2, ho, _, hF =>
            obtain rfl := Option.some.inj ho
            have h5 : a.tmps[5]? = some (.int .i64 (i : Int)) := (hF.out 5 rfl).trans rfl
            refine free_step rfl (by rfl) (fun K' hK => ?_)
            go_simp
            exact hK.out _ _ rfl (Below.refl _ _)
          | 3, ho, _, hF =>
            obtain rfl := Option.some.inj ho
            obtain ⟨v42, h42, s42⟩ := hF.dep 1 42 rfl rfl
            obtain rfl : v42 = .slice (some ⟨b, o, none⟩) n cx := s42
            obtain ⟨v43, h43, s43⟩ := hF.dep 2 43 rfl rfl
            obtain rfl : v43 = .int .i64 (i : Int) := s43
            refine free_step rfl (by rfl) (fun K' hK => ?_)
            go_simp
            exact hK.out _ _ rfl (Below.refl _ _)
          | 4, ho, _, hF =>
            obtain rfl := Option.some.inj ho
            obtain ⟨v44, h44, s44⟩ := hF.dep 3 44 rfl rfl
            obtain rfl : v44 = .pointer (some ⟨b, o + i * 2, none⟩) := s44
            refine free_step rfl (by rfl) (fun K' hK => ?_)
            go_simp
            exact hK.out _ _ rfl (Below.refl _ _)
          | 5, ho, _, hF =>
            obtain rfl := Option.some.inj ho
            obtain ⟨v45, h45, s45⟩ := hF.dep 4 45 rfl rfl
            obtain rfl : v45 = .pointer (some ⟨b, o + i * 2, none⟩) := s45
            have c0 := (HE.out u hbu).1
            refine free_step rfl (by rfl) (fun K' hK => ?_)
            go_simp
            exact hK.out _ _ rfl (Below.refl _ _)
          | 6, ho, _, hF =>
            obtain rfl := Option.some.inj ho
            have h0 : a.tmps[0]? = some (.slice (some ⟨b, o, none⟩) n cx) := (hF.out 0 rfl).trans rfl
            refine free_step rfl (by rfl) (fun K' hK => ?_)
            go_simp
            exact hK.out _ _ rfl (Below.refl _ _)
          | 7, ho, _, hF =>
            obtain rfl := Option.some.inj ho
            have h5 : a.tmps[5]? = some (.int .i64 (i : Int)) := (hF.out 5 rfl).trans rfl
            refine free_step rfl (by rfl) (fun K' hK => ?_)
            go_simp
            exact hK.out _ _ rfl (Below.refl _ _)
          | 8, ho, _, hF =>
            obtain rfl := Option.some.inj ho
            obtain ⟨v47, h47, s47⟩ := hF.dep 6 47 rfl rfl
            obtain rfl : v47 = .slice (some ⟨b, o, none⟩) n cx := s47
            obtain ⟨v48, h48, s48⟩ := hF.dep 7 48 rfl rfl
            obtain rfl : v48 = .int .i64 (i : Int) := s48
            refine free_step rfl (by rfl) (fun K' hK => ?_)
            go_simp
            exact hK.out _ _ rfl (Below.refl _ _)
          | 9, ho, _, hF =>
            obtain rfl := Option.some.inj ho
            obtain ⟨v49, h49, s49⟩ := hF.dep 8 49 rfl rfl
            obtain rfl : v49 = .pointer (some ⟨b, o + i * 2, none⟩) := s49
            refine free_step rfl (by rfl) (fun K' hK => ?_)
            go_simp
            exact hK.out _ _ rfl (Below.refl _ _)
          | 10, ho, _, hF =>
            obtain rfl := Option.some.inj ho
            obtain ⟨v50, h50, s50⟩ := hF.dep 9 50 rfl rfl
            obtain rfl : v50 = .pointer (some ⟨b, o + i * 2 + 1, none⟩) := s50
            have c1 := (HE.out u hbu).2.1
            refine free_step rfl (by rfl) (fun K' hK => ?_)
            go_simp
            exact hK.out _ _ rfl (Below.refl _ _)
          | 11, ho, _, hF =>
            obtain rfl := Option.some.inj ho
            obtain ⟨v46, h46, s46⟩ := hF.dep 5 46 rfl rfl
            obtain rfl : v46 = .int .u8 (t.toNat : Int) := s46
            obtain ⟨v51, h51, s51⟩ := hF.dep 10 51 rfl rfl
            obtain rfl : v51 = .slice yb k cb := s51
            refine free_step rfl (by rfl) (fun K' hK => ?_)
            go_wp2_with fail
            refine (HCall.out u (HE.out u hbu).2.2.1).mono ?_
            rintro e u' ⟨⟨v, rfl, ho⟩, hb⟩
            go_simp
            exact hK.out _ _ (semP_own ho) hb
          | 12, _, hL, _ => exact absurd hL (by decide)
          | 13, _, hL, _ => exact absurd hL (by decide)
          | n + 14, ho, _, _ => exact absurd (Array.getElem?_eq_some_iff.1 ho).1 (by show ¬ n + 14 < 14; omega)
        · intro vs u m1 hm1 hS hbu
          have e0 : vs 0 = (.slice vy m vc) := hS 0 41 rfl
          have s11 := hS 11 52 rfl
          simp only [putD, Act.put, List.setIfInBounds_toArray, List.set_cons_succ, List.set_cons_zero, Nat.reduceAdd]
          rw [e0]
          clear hS e0
          generalize vs 1 = z1
          generalize vs 2 = z2
          generalize vs 3 = z3
          generalize vs 4 = z4
          generalize vs 5 = z5
          generalize vs 6 = z6
          generalize vs 7 = z7
          generalize vs 8 = z8
          generalize vs 9 = z9
          generalize vs 10 = z10
          generalize vs 11 = z11 at *
          obtain ⟨m2, rfl⟩ : ∃ k, m1 = k + 1 + 1 := ⟨m1 - 2, by have h2 : 2 ≤ m1 := hm1; omega⟩
          obtain ⟨y11, c11, rfl, h11⟩ : SemP P u z11 := s11
          have HB := show Hid (Below w.heap.size w u ∧ OwnL w.heap.size u (.slice vy m vc) (putL (ps.take i))) from ⟨(HE.out u hbu).2.2.2.1, HV.out.1.later (HE.out u hbu).2.2.2.2⟩
          clear hbu
          refine any_op 12 (by kernel_rfl) rfl (by rfl) (fun K3 hK3 => ?_)
          refine wp_append_list rfl _ _ rfl w.heap.size (.slice vy m vc) (putL (ps.take i)) (by simp [Act.eval]) HB.out.2 (.slice y11 P.length c11) ⟨P.toArray⟩ (by simp [Act.eval]) h11 (by have h8 : (⟨P.toArray⟩ : ByteArray).size = P.length := size_of_list P; have := HV.out.2; omega) HB.out.1.size (putL (ps.take (i + 1))) (by unfold Hid; rw [HR.out.1]) ?_
          intro a2 c2 u2 ho2 hb2
          have HF2 := show Hid (OwnL w.heap.size u2 (.slice a2 (putL (ps.take (i + 1))).length c2) (putL (ps.take (i + 1))) ∧ Below w.heap.size w u2) from ⟨ho2, HB.out.1.trans hb2⟩
          clear ho2 hb2 h11 HB
          refine hK3.out _ _ ?_
          clear hK3
          refine any_op 13 (by kernel_rfl) rfl (by rfl) (fun K4 hK4 => ?_)
          go_simp
          refine hK4.out _ _ (any_end (by kernel_rfl) ?_ _)
          clear hK4
          go_wp2_with fail
          go_roundw
          case rel => exact ⟨i + 1, by omega, by rw [HR.out.2.1]; simp [hr0], by go_num, HF2.out.1, HR.out.2.2, HF2.out.2⟩
          case measure => simp [intOf]; omega
      | true =>
        by_cases hz : zz = 31
        · have hz1 : (zz : Int) = 31 := by omega
          have hz2 : ((zz : Int) == 31) = true := by simp [hz1]
          go_wp2_with fail
          refine freeS_walk (Sem := semLxP b o i n k m cx cb vc yb vy t P) #[true, true, true, true, true, true, true, true, true, true, true, true, false, false] [some 41, some 42, some 43, some 44, some 45, some 46, some 47, some 48, some 49, some 50, some 51, some 52, none, none] rfl (n := 91) (by kernel_rfl) rfl (by kernel_rfl) (by kernel_rfl) rfl (by kernel_rfl) ?_ ?_ ?_
          · intro ix v u u' h hb
            match ix, h with
            | 0, h => exact h
            | 1, h => exact h
            | 2, h => exact h
            | 3, h => exact h
            | 4, h => exact h
            | 5, h => exact h
            | 6, h => exact h
            | 7, h => exact h
            | 8, h => exact h
            | 9, h => exact h
            | 10, h => exact h
            | 11, h => exact semP_later h hb
            | 12, h => exact h
            | 13, h => exact h
            | _ + 14, _ => exact trivial
          · intro ix o a u ho hL hF hbu
            match ix, ho, hL, hF with
            | 0, ho, _, hF =>
              obtain rfl := Option.some.inj ho
              have h3 : a.tmps[3]? = some (.slice vy m vc) := (hF.out 3 rfl).trans rfl
              refine free_step rfl (by rfl) (fun K' hK => ?_)
              go_simp
              exact hK.out _ _ rfl (Below.refl _ _)
            | 1, ho, _, hF =>
              obtain rfl := Option.some.inj ho
              have h0 : a.tmps[0]? = some (.slice (some ⟨b, o, none⟩) n cx) := (hF.out 0 rfl).trans rfl
              refine free_step rfl (by rfl) (fun K' hK => ?_)
              go_simp
              exact hK.out _ _ rfl (Below.refl _ _)
            | 2, ho, _, hF =>
              obtain rfl := Option.some.inj ho
              have h5 : a.tmps[5]? = some (.int .i64 (i : Int)) := (hF.out 5 rfl).trans rfl
              refine free_step rfl (by rfl) (fun K' hK => ?_)
              go_simp
              exact hK.out _ _ rfl (Below.refl _ _)
            | 3, ho, _, hF =>
              obtain rfl := Option.some.inj ho
              obtain ⟨v42, h42, s42⟩ := hF.dep 1 42 rfl rfl
              obtain rfl : v42 = .slice (some ⟨b, o, none⟩) n cx := s42
              obtain ⟨v43, h43, s43⟩ := hF.dep 2 43 rfl rfl
              obtain rfl : v43 = .int .i64 (i : Int) := s43
              refine free_step rfl (by rfl) (fun K' hK => ?_)
              go_simp
              exact hK.out _ _ rfl (Below.refl _ _)
            | 4, ho, _, hF =>
              obtain rfl := Option.some.inj ho
              obtain ⟨v44, h44, s44⟩ := hF.dep 3 44 rfl rfl
              obtain rfl : v44 = .pointer (some ⟨b, o + i * 2, none⟩) := s44
              refine free_step rfl (by rfl) (fun K' hK => ?_)
              go_simp
              exact hK.out _ _ rfl (Below.refl _ _)
            | 5, ho, _, hF =>
              obtain rfl := Option.some.inj ho
              obtain ⟨v45, h45, s45⟩ := hF.dep 4 45 rfl rfl
              obtain rfl : v45 = .pointer (some ⟨b, o + i * 2, none⟩) := s45
              have c0 := (HE.out u hbu).1
              refine free_step rfl (by rfl) (fun K' hK => ?_)
              go_simp
              exact hK.out _ _ rfl (Below.refl _ _)
            | 6, ho, _, hF =>
              obtain rfl := Option.some.inj ho
              have h0 : a.tmps[0]? = some (.slice (some ⟨b, o, none⟩) n cx) := (hF.out 0 rfl).trans rfl
              refine free_step rfl (by rfl) (fun K' hK => ?_)
              go_simp
              exact hK.out _ _ rfl (Below.refl _ _)
            | 7, ho, _, hF =>
              obtain rfl := Option.some.inj ho
              have h5 : a.tmps[5]? = some (.int .i64 (i : Int)) := (hF.out 5 rfl).trans rfl
              refine free_step rfl (by rfl) (fun K' hK => ?_)
              go_simp
              exact hK.out _ _ rfl (Below.refl _ _)
            | 8, ho, _, hF =>
              obtain rfl := Option.some.inj ho
              obtain ⟨v47, h47, s47⟩ := hF.dep 6 47 rfl rfl
              obtain rfl : v47 = .slice (some ⟨b, o, none⟩) n cx := s47
              obtain ⟨v48, h48, s48⟩ := hF.dep 7 48 rfl rfl
              obtain rfl : v48 = .int .i64 (i : Int) := s48
              refine free_step rfl (by rfl) (fun K' hK => ?_)
              go_simp
              exact hK.out _ _ rfl (Below.refl _ _)
            | 9, ho, _, hF =>
              obtain rfl := Option.some.inj ho
              obtain ⟨v49, h49, s49⟩ := hF.dep 8 49 rfl rfl
              obtain rfl : v49 = .pointer (some ⟨b, o + i * 2, none⟩) := s49
              refine free_step rfl (by rfl) (fun K' hK => ?_)
              go_simp
              exact hK.out _ _ rfl (Below.refl _ _)
            | 10, ho, _, hF =>
              obtain rfl := Option.some.inj ho
              obtain ⟨v50, h50, s50⟩ := hF.dep 9 50 rfl rfl
              obtain rfl : v50 = .pointer (some ⟨b, o + i * 2 + 1, none⟩) := s50
              have c1 := (HE.out u hbu).2.1
              refine free_step rfl (by rfl) (fun K' hK => ?_)
              go_simp
              exact hK.out _ _ rfl (Below.refl _ _)
            | 11, ho, _, hF =>
              obtain rfl := Option.some.inj ho
              obtain ⟨v46, h46, s46⟩ := hF.dep 5 46 rfl rfl
              obtain rfl : v46 = .int .u8 (t.toNat : Int) := s46
              obtain ⟨v51, h51, s51⟩ := hF.dep 10 51 rfl rfl
              obtain rfl : v51 = .slice yb k cb := s51
              refine free_step rfl (by rfl) (fun K' hK => ?_)
              go_wp2_with fail
              refine (HCall.out u (HE.out u hbu).2.2.1).mono ?_
              rintro e u' ⟨⟨v, rfl, ho⟩, hb⟩
              go_simp
              exact hK.out _ _ (semP_own ho) hb
            | 12, _, hL, _ => exact absurd hL (by decide)
            | 13, _, hL, _ => exact absurd hL (by decide)
            | n + 14, ho, _, _ => exact absurd (Array.getElem?_eq_some_iff.1 ho).1 (by show ¬ n + 14 < 14; omega)
          · intro vs u m1 hm1 hS hbu
            have e0 : vs 0 = (.slice vy m vc) := hS 0 41 rfl
            have s11 := hS 11 52 rfl
            simp only [putD, Act.put, List.setIfInBounds_toArray, List.set_cons_succ, List.set_cons_zero, Nat.reduceAdd]
            rw [e0]
            clear hS e0
            generalize vs 1 = z1
            generalize vs 2 = z2
            generalize vs 3 = z3
            generalize vs 4 = z4
            generalize vs 5 = z5
            generalize vs 6 = z6
            generalize vs 7 = z7
            generalize vs 8 = z8
            generalize vs 9 = z9
            generalize vs 10 = z10
            generalize vs 11 = z11 at *
            obtain ⟨m2, rfl⟩ : ∃ k, m1 = k + 1 + 1 := ⟨m1 - 2, by have h2 : 2 ≤ m1 := hm1; omega⟩
            obtain ⟨y11, c11, rfl, h11⟩ : SemP P u z11 := s11
            have HB := show Hid (Below w.heap.size w u ∧ OwnL w.heap.size u (.slice vy m vc) (putL (ps.take i))) from ⟨(HE.out u hbu).2.2.2.1, HV.out.1.later (HE.out u hbu).2.2.2.2⟩
            clear hbu
            refine any_op 12 (by kernel_rfl) rfl (by rfl) (fun K3 hK3 => ?_)
            refine wp_append_list rfl _ _ rfl w.heap.size (.slice vy m vc) (putL (ps.take i)) (by simp [Act.eval]) HB.out.2 (.slice y11 P.length c11) ⟨P.toArray⟩ (by simp [Act.eval]) h11 (by have h8 : (⟨P.toArray⟩ : ByteArray).size = P.length := size_of_list P; have := HV.out.2; omega) HB.out.1.size (putL (ps.take (i + 1))) (by unfold Hid; rw [HR.out.1]) ?_
            intro a2 c2 u2 ho2 hb2
            have HF2 := show Hid (OwnL w.heap.size u2 (.slice a2 (putL (ps.take (i + 1))).length c2) (putL (ps.take (i + 1))) ∧ Below w.heap.size w u2) from ⟨ho2, HB.out.1.trans hb2⟩
            clear ho2 hb2 h11 HB
            refine hK3.out _ _ ?_
            clear hK3
            refine any_op 13 (by kernel_rfl) rfl (by rfl) (fun K4 hK4 => ?_)
            go_simp
            refine hK4.out _ _ (any_end (by kernel_rfl) ?_ _)
            clear hK4
            go_wp2_with fail
            go_roundw
            case rel => exact ⟨i + 1, by omega, by rw [HR.out.2.1]; simp [hr0, hz], by go_num, HF2.out.1, HR.out.2.2, HF2.out.2⟩
            case measure => simp [intOf]; omega
        · have hz1 : ¬ (zz : Int) = 31 := by omega
          have hz2 : ((zz : Int) == 31) = false := beq_eq_false_iff_ne.2 hz1
          go_wp2_with fail
          refine freeS_walk (Sem := semLxP b o i n k m cx cb vc yb vy t P) #[true, true, true, true, true, true, true, true, true, true, true, true, false, false] [some 41, some 42, some 43, some 44, some 45, some 46, some 47, some 48, some 49, some 50, some 51, some 52, none, none] rfl (n := 91) (by kernel_rfl) rfl (by kernel_rfl) (by kernel_rfl) rfl (by kernel_rfl) ?_ ?_ ?_
          · intro ix v u u' h hb
            match ix, h with
            | 0, h => exact h
            | 1, h => exact h
            | 2, h => exact h
            | 3, h => exact h
            | 4, h => exact h
            | 5, h => exact h
            | 6, h => exact h
            | 7, h => exact h
            | 8, h => exact h
            | 9, h => exact h
            | 10, h => exact h
            | 11, h => exact semP_later h hb
            | 12, h => exact h
            | 13, h => exact h
            | _ + 14, _ => exact trivial
          · intro ix o a u ho hL hF hbu
            match ix, ho, hL, hF with
            | 0, ho, _, hF =>
              obtain rfl := Option.some.inj ho
              have h3 : a.tmps[3]? = some (.slice vy m vc) := (hF.out 3 rfl).trans rfl
              refine free_step rfl (by rfl) (fun K' hK => ?_)
              go_simp
              exact hK.out _ _ rfl (Below.refl _ _)
            | 1, ho, _, hF =>
              obtain rfl := Option.some.inj ho
              have h0 : a.tmps[0]? = some (.slice (some ⟨b, o, none⟩) n cx) := (hF.out 0 rfl).trans rfl
              refine free_step rfl (by rfl) (fun K' hK => ?_)
              go_simp
              exact hK.out _ _ rfl (Below.refl _ _)
            | 2, ho, _, hF =>
              obtain rfl := Option.some.inj ho
              have h5 : a.tmps[5]? = some (.int .i64 (i : Int)) := (hF.out 5 rfl).trans rfl
              refine free_step rfl (by rfl) (fun K' hK => ?_)
              go_simp
              exact hK.out _ _ rfl (Below.refl _ _)
            | 3, ho, _, hF =>
              obtain rfl := Option.some.inj ho
              obtain ⟨v42, h42, s42⟩ := hF.dep 1 42 rfl rfl
              obtain rfl : v42 = .slice (some ⟨b, o, none⟩) n cx := s42
              obtain ⟨v43, h43, s43⟩ := hF.dep 2 43 rfl rfl
              obtain rfl : v43 = .int .i64 (i : Int) := s43
              refine free_step rfl (by rfl) (fun K' hK => ?_)
              go_simp
              exact hK.out _ _ rfl (Below.refl _ _)
            | 4, ho, _, hF =>
              obtain rfl := Option.some.inj ho
              obtain ⟨v44, h44, s44⟩ := hF.dep 3 44 rfl rfl
              obtain rfl : v44 = .pointer (some ⟨b, o + i * 2, none⟩) := s44
              refine free_step rfl (by rfl) (fun K' hK => ?_)
              go_simp
              exact hK.out _ _ rfl (Below.refl _ _)
            | 5, ho, _, hF =>
              obtain rfl := Option.some.inj ho
              obtain ⟨v45, h45, s45⟩ := hF.dep 4 45 rfl rfl
              obtain rfl : v45 = .pointer (some ⟨b, o + i * 2, none⟩) := s45
              have c0 := (HE.out u hbu).1
              refine free_step rfl (by rfl) (fun K' hK => ?_)
              go_simp
              exact hK.out _ _ rfl (Below.refl _ _)
            | 6, ho, _, hF =>
              obtain rfl := Option.some.inj ho
              have h0 : a.tmps[0]? = some (.slice (some ⟨b, o, none⟩) n cx) := (hF.out 0 rfl).trans rfl
              refine free_step rfl (by rfl) (fun K' hK => ?_)
              go_simp
              exact hK.out _ _ rfl (Below.refl _ _)
            | 7, ho, _, hF =>
              obtain rfl := Option.some.inj ho
              have h5 : a.tmps[5]? = some (.int .i64 (i : Int)) := (hF.out 5 rfl).trans rfl
              refine free_step rfl (by rfl) (fun K' hK => ?_)
              go_simp
              exact hK.out _ _ rfl (Below.refl _ _)
            | 8, ho, _, hF =>
              obtain rfl := Option.some.inj ho
              obtain ⟨v47, h47, s47⟩ := hF.dep 6 47 rfl rfl
              obtain rfl : v47 = .slice (some ⟨b, o, none⟩) n cx := s47
              obtain ⟨v48, h48, s48⟩ := hF.dep 7 48 rfl rfl
              obtain rfl : v48 = .int .i64 (i : Int) := s48
              refine free_step rfl (by rfl) (fun K' hK => ?_)
              go_simp
              exact hK.out _ _ rfl (Below.refl _ _)
            | 9, ho, _, hF =>
              obtain rfl := Option.some.inj ho
              obtain ⟨v49, h49, s49⟩ := hF.dep 8 49 rfl rfl
              obtain rfl : v49 = .pointer (some ⟨b, o + i * 2, none⟩) := s49
              refine free_step rfl (by rfl) (fun K' hK => ?_)
              go_simp
              exact hK.out _ _ rfl (Below.refl _ _)
            | 10, ho, _, hF =>
              obtain rfl := Option.some.inj ho
              obtain ⟨v50, h50, s50⟩ := hF.dep 9 50 rfl rfl
              obtain rfl : v50 = .pointer (some ⟨b, o + i * 2 + 1, none⟩) := s50
              have c1 := (HE.out u hbu).2.1
              refine free_step rfl (by rfl) (fun K' hK => ?_)
              go_simp
              exact hK.out _ _ rfl (Below.refl _ _)
            | 11, ho, _, hF =>
              obtain rfl := Option.some.inj ho
              obtain ⟨v46, h46, s46⟩ := hF.dep 5 46 rfl rfl
              obtain rfl : v46 = .int .u8 (t.toNat : Int) := s46
              obtain ⟨v51, h51, s51⟩ := hF.dep 10 51 rfl rfl
              obtain rfl : v51 = .slice yb k cb := s51
              refine free_step rfl (by rfl) (fun K' hK => ?_)
              go_wp2_with fail
              refine (HCall.out u (HE.out u hbu).2.2.1).mono ?_
              rintro e u' ⟨⟨v, rfl, ho⟩, hb⟩
              go_simp
              exact hK.out _ _ (semP_own ho) hb
            | 12, _, hL, _ => exact absurd hL (by decide)
            | 13, _, hL, _ => exact absurd hL (by decide)
            | n + 14, ho, _, _ => exact absurd (Array.getElem?_eq_some_iff.1 ho).1 (by show ¬ n + 14 < 14; omega)
          · intro vs u m1 hm1 hS hbu
            have e0 : vs 0 = (.slice vy m vc) := hS 0 41 rfl
            have s11 := hS 11 52 rfl
            simp only [putD, Act.put, List.setIfInBounds_toArray, List.set_cons_succ, List.set_cons_zero, Nat.reduceAdd]
            rw [e0]
            clear hS e0
            generalize vs 1 = z1
            generalize vs 2 = z2
            generalize vs 3 = z3
            generalize vs 4 = z4
            generalize vs 5 = z5
            generalize vs 6 = z6
            generalize vs 7 = z7
            generalize vs 8 = z8
            generalize vs 9 = z9
            generalize vs 10 = z10
            generalize vs 11 = z11 at *
            obtain ⟨m2, rfl⟩ : ∃ k, m1 = k + 1 + 1 := ⟨m1 - 2, by have h2 : 2 ≤ m1 := hm1; omega⟩
            obtain ⟨y11, c11, rfl, h11⟩ : SemP P u z11 := s11
            have HB := show Hid (Below w.heap.size w u ∧ OwnL w.heap.size u (.slice vy m vc) (putL (ps.take i))) from ⟨(HE.out u hbu).2.2.2.1, HV.out.1.later (HE.out u hbu).2.2.2.2⟩
            clear hbu
            refine any_op 12 (by kernel_rfl) rfl (by rfl) (fun K3 hK3 => ?_)
            refine wp_append_list rfl _ _ rfl w.heap.size (.slice vy m vc) (putL (ps.take i)) (by simp [Act.eval]) HB.out.2 (.slice y11 P.length c11) ⟨P.toArray⟩ (by simp [Act.eval]) h11 (by have h8 : (⟨P.toArray⟩ : ByteArray).size = P.length := size_of_list P; have := HV.out.2; omega) HB.out.1.size (putL (ps.take (i + 1))) (by unfold Hid; rw [HR.out.1]) ?_
            intro a2 c2 u2 ho2 hb2
            have HF2 := show Hid (OwnL w.heap.size u2 (.slice a2 (putL (ps.take (i + 1))).length c2) (putL (ps.take (i + 1))) ∧ Below w.heap.size w u2) from ⟨ho2, HB.out.1.trans hb2⟩
            clear ho2 hb2 h11 HB
            refine hK3.out _ _ ?_
            clear hK3
            refine any_op 13 (by kernel_rfl) rfl (by rfl) (fun K4 hK4 => ?_)
            go_simp
            refine hK4.out _ _ (any_end (by kernel_rfl) ?_ _)
            clear hK4
            go_wp2_with fail
            go_roundw
            case rel => exact ⟨i + 1, by omega, by rw [HR.out.2.1]; simp [hr0, hz, hz1], by go_num, HF2.out.1, HR.out.2.2, HF2.out.2⟩
            case measure => simp [intOf]; omega
    · have hinI : ¬ (i : Int) < (n : Int) := by omega
      have h9 : ps.take i = ps := List.take_of_length_le (by have := HP.out.2; omega)
      rw [h9] at hv hle ⊢
      have h7 : ∀ p ∈ ps, p.2.length ≤ 700 := fun p hp => by
        obtain ⟨j, hj, rfl⟩ := List.getElem_of_mem hp
        exact hle.out.2 j _ (by have := HP.out.2; omega) (List.getElem?_eq_getElem hj)
      obtain ⟨vy, vc, hvs⟩ := own_shape hv.out
      subst hvs
      have hPw := HP.out.1.later hb.out
      have hlen : (putL ps).length ≤ 20000 := by have := hle.out.1; omega
      cases hr0 : tagsB ps with
      | false =>
        have hbad : ¬ ∀ p ∈ ps, tagOk p.1 := fun h => by rw [tagsB_true.2 h] at hr0; cases hr0
        have hC := xPut_bad x cx ps wr (by rw [HP.out.2]; exact hPw) hbad (fun p hp => by have := h7 p hp; omega) (by have := HP.out.2; omega)
        rw [HP.out.2] at hC
        have HF := show Hid (Below w.heap.size w wr) from hb.out
        clear hPw hv hle hb h7 h9 hbad
        go_wp2_with fail
        refine hC.mono ?_
        rintro e w2 ⟨rfl, hb2⟩
        have HF2 := show Hid (Below w.heap.size w w2) from bl2 HF.out hb2
        clear hC hb2
        go_wp2_with fail
        go_ret
        exact ⟨rfl, HF2.out⟩
      | true =>
        have hok : ∀ p ∈ ps, pieceOk p := fun p hp => ⟨tagsB_true.1 hr0 p hp, by have := h7 p hp; omega⟩
        have hC := xPut_any x cx ps wr (by rw [HP.out.2]; exact hPw) hok (by have := HP.out.2; omega) (by omega)
        rw [HP.out.2] at hC
        obtain ⟨S, hS⟩ : ∃ S : ByteArray, S = ⟨(putL ps).toArray⟩ := ⟨_, rfl⟩
        have hSz : S.size = (putL ps).length := by rw [hS]; exact size_of_list _
        have hSl : S.data.toList = putL ps := by rw [hS]
        have hSp : splitL S.size S.data.toList = .ok ps := by rw [hSz, hSl]; exact splitL_put ps _ hok (putL_len ps)
        obtain ⟨m, hm⟩ : ∃ m, (putL ps).length = m := ⟨_, rfl⟩
        have HQ := show Hid (Below w.heap.size w wr ∧ OwnL w.heap.size wr (.slice vy m vc) (putL ps) ∧ S = ⟨(putL ps).toArray⟩ ∧ S.size = m ∧ splitL S.size S.data.toList = .ok ps ∧ m ≤ 20000 ∧ (putL ps).length = m) from ⟨hb.out, by rw [← hm]; exact hv.out, hS, by rw [hSz, hm], hSp, by omega, hm⟩
        rw [hm]
        clear hPw hv hle hb h7 h9 hok hS hSz hSl hSp hm hlen
        go_wp2_with fail
        refine hC.mono ?_
        rintro e w2 ⟨⟨v2, rfl, ho2⟩, hb2⟩
        clear hC
        obtain ⟨y2, c2, rfl⟩ := own_shape ho2
        have hS2 : IsBytes w2 (.slice y2 S.size c2) S := by
          have := ho2.is
          rw [← HQ.out.2.2.1, HQ.out.2.2.2.2.2.2, ← HQ.out.2.2.2.1] at this
          exact this
        have hSp := xSplit_any y2 c2 S w2 hS2 (by have := HQ.out; omega)
        rw [HQ.out.2.2.2.2.1, HQ.out.2.2.2.1] at hSp
        rw [HQ.out.2.2.2.1] at hS2
        rw [HQ.out.2.2.2.2.2.2]
        have HQ2 := show Hid (Below w.heap.size w w2 ∧ IsBytes w2 (.slice vy m vc) S ∧ IsBytes w2 (.slice y2 m c2) S) from ⟨bl2 HQ.out.1 hb2, by
          have := (HQ.out.2.1.later hb2).is
          rw [← HQ.out.2.2.1] at this
          exact this, hS2⟩
        clear ho2 hb2 hS2
        go_wp2_with fail
        refine hSp.mono ?_
        rintro e w3 ⟨⟨v3, rfl, h3⟩, hb3⟩
        clear hSp
        obtain ⟨y3, c3, rfl⟩ := h3.shape
        rw [HP.out.2]
        have hA := lxAll_any ps y3 x c3 cx w3 h3 (by rw [HP.out.2]; exact HP.out.1.later (bl2 HQ2.out.1 hb3)) (by have := HP.out.2; omega)
        rw [HP.out.2] at hA
        have hcv1 := IsBytes.convert (HQ2.out.2.1.later hb3)
        have hcv2 := IsBytes.convert (HQ2.out.2.2.later hb3)
        have tS : (S.toList == S.toList) = true := by simp
        have HF := show Hid (Below w.heap.size w w3) from bl2 HQ2.out.1 hb3
        clear h3 hb3 HQ2 HQ
        go_wp2_with fail
        refine hA.mono ?_
        rintro e w4 ⟨rfl, hb4⟩
        have HF2 := show Hid (Below w.heap.size w w4) from bl2 HF.out hb4
        clear hA hb4
        go_wp2_with fail
        go_ret
        exact ⟨rfl, HF2.out⟩
end Go.Proofs.Ythdoginhbhdmbaa
