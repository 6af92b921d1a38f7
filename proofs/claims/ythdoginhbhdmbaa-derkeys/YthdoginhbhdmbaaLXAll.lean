/-
  Layer 8's laws: same, all.
-/
import Derived.Test.YthdoginhbhdmbaaXAwake
import Derived.Test.YthdoginhbhdmbaaHFree
import Derived.Test.YthdoginhbhdmbaaXPcs
namespace Go.Proofs.Ythdoginhbhdmbaa
open Go.RowKit Ch
set_option maxRecDepth 100000

theorem below_drewA {w u : World} (hu : Below w.drew.heap.size w.drew u) : Below w.heap.size w u := by
  have h1 : Below w.heap.size w w.drew := (Below.refl _ w).drew
  exact h1.trans (hu.mono h1.size)
set_option maxHeartbeats 4000000 in
theorem lxSame_any (t : UInt8) (bl : List UInt8) (k : Nat) (y y2 : Option Addr) (c c2 : Nat) (w : World) (h1 : IsBytes w (.slice y k c) ⟨bl.toArray⟩) (h2 : IsBytes w (.slice y2 k c2) ⟨bl.toArray⟩) :
    Calls Try.prog 25 #[.agg #[.int .u8 (t.toNat : Int), .slice y k c], .agg #[.int .u8 (t.toNat : Int), .slice y2 k c2]] w fun e w' => e = .returned (.bool true) ∧ Below w.heap.size w w' := by
  obtain ⟨W1, hW1⟩ : ∃ W, w.alloc (.cells #[.int .u8 (t.toNat : Int), .slice y k c] 26) = W := ⟨_, rfl⟩
  obtain ⟨W2, hW2⟩ : ∃ W, W1.alloc (.cells #[.int .u8 (t.toNat : Int), .slice y2 k c2] 26) = W := ⟨_, rfl⟩
  have hN1 := heap_push_at w (.cells #[.int .u8 (t.toNat : Int), .slice y k c] 26)
  have hN2 := heap_push_at W1 (.cells #[.int .u8 (t.toNat : Int), .slice y2 k c2] 26)
  rw [hW1] at hN1
  have hN3 := block_alloc (.cells #[.int .u8 (t.toNat : Int), .slice y2 k c2] 26) hN1
  rw [hW2] at hN2 hN3
  have b1 : Below w.heap.size w W1 := by rw [← hW1]; exact alB _ _
  have b2 : Below W1.heap.size W1 W2 := by rw [← hW2]; exact alB _ _
  have HF := show Hid (Below w.heap.size w W2) from bl2 b1 b2
  have c0 := block_cell (v := .int .u8 (t.toNat : Int)) 0 hN3 rfl
  have c1 := block_cell (v := .slice y k c) 1 hN3 rfl
  have d0 := block_cell (v := .int .u8 (t.toNat : Int)) 0 hN2 rfl
  have d1 := block_cell (v := .slice y2 k c2) 1 hN2 rfl
  have v1 := IsBytes.convert (h1.later (bl2 b1 b2))
  have v2 := IsBytes.convert (h2.later (bl2 b1 b2))
  have tS : ((⟨bl.toArray⟩ : ByteArray).toList == (⟨bl.toArray⟩ : ByteArray).toList) = true := by simp
  clear hN1 hN2 hN3 b1 b2 h1 h2
  go_enter Try.func25, Try.ntmps25
  go_wp2_with fail
  go_ret
  exact ⟨rfl, HF.out⟩
def semLxA (b o b2 o2 i n k cx cy : Nat) (ya yb : Option Addr) (ca cb : Nat) (t : UInt8) : Nat → Value → World → Prop := fun ix v _ => match ix with
  | 0 => v = .slice (some ⟨b, o, none⟩) n cx
  | 1 => v = .int .i64 (i : Int)
  | 2 => v = .pointer (some ⟨b, o + i * 2, none⟩)
  | 3 => v = .agg #[.int .u8 (t.toNat : Int), .slice ya k ca]
  | 4 => v = .slice (some ⟨b2, o2, none⟩) n cy
  | 5 => v = .int .i64 (i : Int)
  | 6 => v = .pointer (some ⟨b2, o2 + i * 2, none⟩)
  | 7 => v = .agg #[.int .u8 (t.toNat : Int), .slice yb k cb]
  | 8 => v = .bool true
  | 9 => v = .bool false
  | _ => True
set_option maxHeartbeats 8000000 in
theorem lxAll_any (ps : List (UInt8 × List UInt8)) (x y : Option Addr) (cx cy : Nat) (w : World) (h1 : IsPs w (.slice x ps.length cx) ps) (h2 : IsPs w (.slice y ps.length cy) ps) (hl : ps.length ≤ 100000) :
    Calls Try.prog 10 #[.slice x ps.length cx, .slice y ps.length cy] w fun e w' => e = .returned (.bool true) ∧ Below w.heap.size w w' := by
  obtain ⟨n, hn⟩ : ∃ n, ps.length = n := ⟨_, rfl⟩
  rw [hn] at h1 h2 hl ⊢
  have HP := show Hid (IsPs w (.slice x n cx) ps ∧ IsPs w (.slice y n cy) ps ∧ ps.length = n) from ⟨h1, h2, hn⟩
  clear h1 h2 hn
  go_enter Try.func10, Try.ntmps10
  go_wp2_with fail
  go_loopw [5] (fun t wr => ∃ i : Nat, i ≤ n ∧ t = .int .i64 (i : Int) ∧ Hid (Below w.heap.size w wr)) (fun t _ => n - (intOf t).toNat)
  case atStart => exact ⟨0, by omega, rfl, Below.refl _ _⟩
  case round =>
    obtain ⟨i, hi, rfl, hb⟩ := hrel
    by_cases hin : i < n
    · have hinI : (i : Int) < (n : Int) := by omega
      have wi : IntKind.i64.wrap ((i : Int) + 1) = (i : Int) + 1 := by rw [IntKind.wrap_i64]; omega
      obtain ⟨p, hp⟩ : ∃ p, ps[i]? = some p := ⟨_, List.getElem?_eq_getElem (by rw [HP.out.2.2]; exact hin)⟩
      obtain ⟨y0, c0, h0, _, h1⟩ := HP.out.1.later hb.out
      simp only [Value.slice.injEq] at h0
      obtain ⟨rfl, hn0, rfl⟩ := h0
      clear hn0
      obtain ⟨b, o, ya, ca, rfl, hbl, g0, g1, g2⟩ := h1 i p hp
      obtain ⟨y0, c0, h0, _, h1'⟩ := HP.out.2.1.later hb.out
      simp only [Value.slice.injEq] at h0
      obtain ⟨rfl, hn0, rfl⟩ := h0
      clear hn0
      obtain ⟨b2, o2, yb, cb, rfl, hbl2, k0, k1, k2⟩ := h1' i p hp
      obtain ⟨t, bl⟩ := p
      obtain ⟨k, hk⟩ : ∃ k, bl.length = k := ⟨_, rfl⟩
      dsimp only at g0 g1 g2 k0 k1 k2
      rw [hk] at g1 g2 k1 k2
      have HG := show Hid (∀ u, Below wr.drew.heap.size wr.drew u → u.cell? ⟨b, o + i * 2, none⟩ = some (.int .u8 (t.toNat : Int)) ∧ u.cell? ⟨b, o + i * 2 + 1, none⟩ = some (.slice ya k ca) ∧ IsBytes u (.slice ya k ca) ⟨bl.toArray⟩ ∧ u.cell? ⟨b2, o2 + i * 2, none⟩ = some (.int .u8 (t.toNat : Int)) ∧ u.cell? ⟨b2, o2 + i * 2 + 1, none⟩ = some (.slice yb k cb) ∧ IsBytes u (.slice yb k cb) ⟨bl.toArray⟩ ∧ Below w.heap.size w u) from fun u hu => by
        have hw : Below wr.heap.size wr u := below_drewA hu
        exact ⟨(hw.cell (p := ⟨b, o + i * 2, none⟩) hbl).trans g0, (hw.cell (p := ⟨b, o + i * 2 + 1, none⟩) hbl).trans g1, g2.later hw, (hw.cell (p := ⟨b2, o2 + i * 2, none⟩) hbl2).trans k0, (hw.cell (p := ⟨b2, o2 + i * 2 + 1, none⟩) hbl2).trans k1, k2.later hw, bl2 hb.out hw⟩
      clear hp h1 h1' hk hbl hbl2 g0 g1 g2 k0 k1 k2 hb
      go_wp2_with fail
      refine free_walk (Sem := semLxA b o b2 o2 i n k cx cy ya yb ca cb t) rfl (n := 27) (by kernel_rfl) rfl (by kernel_rfl) ?_ ?_ ?_
      · intro ix v u u' h hb
        match ix, h with
        | 0, h => exact h
        | 1, h => exact h
        | 2, h => exact h
        | 3, h => exact h
        | 4, h => exact h
        | 5, h => exact h
        | 6, h => exact h
        | 7, h => exact h
        | 8, h => exact h
        | 9, h => exact h
        | _ + 10, _ => exact trivial
      · intro ix o a u ho hF hbu
        match ix, ho, hF with
        | 0, ho, hF =>
          obtain rfl := Option.some.inj ho
          have h0 : a.tmps[0]? = some (.slice (some ⟨b, o, none⟩) n cx) := (hF.out 0 rfl).trans rfl
          refine free_step rfl (by rfl) (fun K' hK => ?_)
          go_simp
          exact hK.out _ _ rfl (Below.refl _ _)
        | 1, ho, hF =>
          obtain rfl := Option.some.inj ho
          have h5 : a.tmps[5]? = some (.int .i64 (i : Int)) := (hF.out 5 rfl).trans rfl
          refine free_step rfl (by rfl) (fun K' hK => ?_)
          go_simp
          exact hK.out _ _ rfl (Below.refl _ _)
        | 2, ho, hF =>
          obtain rfl := Option.some.inj ho
          obtain ⟨v17, h17, s17⟩ := hF.dep 0 17 rfl rfl
          obtain rfl : v17 = .slice (some ⟨b, o, none⟩) n cx := s17
          obtain ⟨v18, h18, s18⟩ := hF.dep 1 18 rfl rfl
          obtain rfl : v18 = .int .i64 (i : Int) := s18
          refine free_step rfl (by rfl) (fun K' hK => ?_)
          go_simp
          exact hK.out _ _ rfl (Below.refl _ _)
        | 3, ho, hF =>
          obtain rfl := Option.some.inj ho
          obtain ⟨v19, h19, s19⟩ := hF.dep 2 19 rfl rfl
          obtain rfl : v19 = .pointer (some ⟨b, o + i * 2, none⟩) := s19
          have c0 := (HG.out u hbu).1
          have c1 := (HG.out u hbu).2.1
          refine free_step rfl (by rfl) (fun K' hK => ?_)
          go_simp
          exact hK.out _ _ rfl (Below.refl _ _)
        | 4, ho, hF =>
          obtain rfl := Option.some.inj ho
          have h1 : a.tmps[1]? = some (.slice (some ⟨b2, o2, none⟩) n cy) := (hF.out 1 rfl).trans rfl
          refine free_step rfl (by rfl) (fun K' hK => ?_)
          go_simp
          exact hK.out _ _ rfl (Below.refl _ _)
        | 5, ho, hF =>
          obtain rfl := Option.some.inj ho
          have h5 : a.tmps[5]? = some (.int .i64 (i : Int)) := (hF.out 5 rfl).trans rfl
          refine free_step rfl (by rfl) (fun K' hK => ?_)
          go_simp
          exact hK.out _ _ rfl (Below.refl _ _)
        | 6, ho, hF =>
          obtain rfl := Option.some.inj ho
          obtain ⟨v21, h21, s21⟩ := hF.dep 4 21 rfl rfl
          obtain rfl : v21 = .slice (some ⟨b2, o2, none⟩) n cy := s21
          obtain ⟨v22, h22, s22⟩ := hF.dep 5 22 rfl rfl
          obtain rfl : v22 = .int .i64 (i : Int) := s22
          refine free_step rfl (by rfl) (fun K' hK => ?_)
          go_simp
          exact hK.out _ _ rfl (Below.refl _ _)
        | 7, ho, hF =>
          obtain rfl := Option.some.inj ho
          obtain ⟨v23, h23, s23⟩ := hF.dep 6 23 rfl rfl
          obtain rfl : v23 = .pointer (some ⟨b2, o2 + i * 2, none⟩) := s23
          have c0 := (HG.out u hbu).2.2.2.1
          have c1 := (HG.out u hbu).2.2.2.2.1
          refine free_step rfl (by rfl) (fun K' hK => ?_)
          go_simp
          exact hK.out _ _ rfl (Below.refl _ _)
        | 8, ho, hF =>
          obtain rfl := Option.some.inj ho
          obtain ⟨v20, h20, s20⟩ := hF.dep 3 20 rfl rfl
          obtain rfl : v20 = .agg #[.int .u8 (t.toNat : Int), .slice ya k ca] := s20
          obtain ⟨v24, h24, s24⟩ := hF.dep 7 24 rfl rfl
          obtain rfl : v24 = .agg #[.int .u8 (t.toNat : Int), .slice yb k cb] := s24
          refine free_step rfl (by rfl) (fun K' hK => ?_)
          go_wp2_with fail
          refine (lxSame_any t bl k ya yb ca cb u (HG.out u hbu).2.2.1 (HG.out u hbu).2.2.2.2.2.1).mono ?_
          rintro e u' ⟨rfl, hb⟩
          go_simp
          exact hK.out _ _ rfl hb
        | 9, ho, hF =>
          obtain rfl := Option.some.inj ho
          obtain ⟨v25, h25, s25⟩ := hF.dep 8 25 rfl rfl
          obtain rfl : v25 = .bool true := s25
          refine free_step rfl (by rfl) (fun K' hK => ?_)
          go_simp
          exact hK.out _ _ rfl (Below.refl _ _)
        | n + 10, ho, _ => exact absurd (Array.getElem?_eq_some_iff.1 ho).1 (by show ¬ n + 10 < 10; omega)
      · intro vs u hS hbu
        have e9 : vs 9 = .bool false := hS 9 26 rfl
        simp only [putFrom, Act.put, List.setIfInBounds_toArray, List.set_cons_succ, List.set_cons_zero, Nat.reduceAdd]
        rw [e9]
        clear hS e9
        generalize vs 0 = z0
        generalize vs 1 = z1
        generalize vs 2 = z2
        generalize vs 3 = z3
        generalize vs 4 = z4
        generalize vs 5 = z5
        generalize vs 6 = z6
        generalize vs 7 = z7
        generalize vs 8 = z8
        have HF2 := show Hid (Below w.heap.size w u) from (HG.out u hbu).2.2.2.2.2.2
        clear hbu HG
        go_wp2_with fail
        go_roundw
        case rel => exact ⟨i + 1, by omega, by go_num, HF2.out⟩
        case measure => simp [intOf]; omega
    · have HF := show Hid (Below w.heap.size w wr) from hb.out
      have hinI : ¬ (i : Int) < (n : Int) := by omega
      clear hb
      go_wp2_with fail
      go_ret
      exact ⟨rfl, HF.out⟩
end Go.Proofs.Ythdoginhbhdmbaa
