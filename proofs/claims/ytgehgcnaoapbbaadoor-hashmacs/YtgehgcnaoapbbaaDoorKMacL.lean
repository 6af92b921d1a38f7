/-
  HashMacs, walked.
-/
import Derived.Test.YtgehgcnaoapbbaaDoorKSums
import Derived.Test.YtgehgcnaoapbbaaDoorVMac
import Derived.Test.YtgehgcnaoapbbaaDoorKMacs
namespace Go.Proofs.YtgehgcnaoapbbaaDoor
open Go.RowKit Ch
set_option maxRecDepth 100000

def semMacs (xa xs x x4 : Option Addr) (n ca cs cx c4 : Nat) (SB SH k : ByteArray) : Nat → Value → World → Prop := fun ix v u => match ix with
  | 0 => v = .slice x4 k.size c4
  | 1 => v = .slice xa n ca
  | 2 => IsBytes u v SH
  | 3 => v = .string SH
  | 4 => ∃ au cu av cv, v = .agg #[.slice au 8 cu, .slice av 64 cv] ∧ IsN .u32 u (.slice au 8 cu) beginS.l ∧ IsN .u32 u (.slice av 64 cv) roundK
  | 5 => v = .slice x k.size cx
  | 6 => v = .slice xs SB.size cs
  | 7 => IsBytes u v SH
  | 8 => v = .string SH
  | 9 => v = .bool true
  | 10 => v = .bool true
  | 11 => v = .slice x4 k.size c4
  | 12 => v = .string k
  | 13 => v = .slice x k.size cx
  | 14 => v = .string k
  | 15 => v = .bool true
  | 16 => v = .bool true
  | 17 => v = .bool true
  | _ => True
set_option maxHeartbeats 4000000 in
theorem lkMacs_any (x : Option Addr) (cx : Nat) (k : ByteArray) (v : Value) (ls : List ByteArray) (w : World) (hKB : IsBytes w (.slice x k.size cx) k) (hI : IsSl w v ls) (hKT : KTab w) :
    Calls Tryd.prog 4 #[.slice x k.size cx, v] w fun e w' => e = .returned (.bool true) ∧ Below w.heap.size w w' := by
  obtain ⟨xa, ca, rfl, _⟩ := id hI
  obtain ⟨n, hn⟩ : ∃ n, ls.length = n := ⟨_, rfl⟩
  rw [hn] at hI ⊢
  obtain ⟨J, hJ⟩ : ∃ J, joinOk ls = J := ⟨_, rfl⟩
  have hjn := lkJoined_any _ ls w hI
  rw [hJ] at hjn
  go_enter Tryd.func4, Tryd.ntmps4
  go_wp2_with fail
  refine hjn.mono ?_
  rintro e w1 ⟨⟨va, rfl, hva⟩, hb1⟩
  have HVA := show Hid (J = true → IsBytes w1 va ⟨(flatB ls).toArray⟩) from hva
  clear hjn hva
  go_wp2_with fail
  refine (lkAwake_any w1 (hKT.later hb1)).mono ?_
  rintro e w2 ⟨rfl, hb2⟩
  have hb12 := below22 hb1 hb2
  cases J
  · go_wp2_with fail
    refine (lkAwake_any w2 (hKT.later hb12)).mono ?_
    rintro e w3 ⟨rfl, hb3⟩
    go_wp2_with fail
    go_ret
    exact ⟨rfl, below22 hb12 hb3⟩
  · by_cases h300 : k.size ≤ 300
    · have h3002 : ¬ (300 : Int) < (k.size : Int) := by omega
      have hJA := HVA.out rfl
      have hsm : ls.length ≤ 20 ∧ ∀ t ∈ ls, t.size ≤ 300 := by
        unfold joinOk at hJ
        rw [Bool.and_eq_true, List.all_eq_true] at hJ
        exact ⟨by simpa using hJ.1, fun t ht => by simpa using hJ.2 t ht⟩
      have hfl : (flatB ls).length ≤ 6000 := by have := flat_small ls hsm.2; omega
      obtain ⟨SB, hSB⟩ : ∃ SB : ByteArray, SB = ⟨(flatB ls).toArray⟩ := ⟨_, rfl⟩
      have hSBl : SB.data.toList = flatB ls := by rw [hSB]
      have hSBz : SB.size ≤ 6000 := by rw [← len_eq, hSBl]; exact hfl
      rw [← hSB] at hJA
      obtain ⟨xs, cs, rfl, hx1⟩ := id hJA
      clear hx1
      have HSB := show Hid (SB.data.toList = flatB ls) from hSBl
      clear hSB hSBl
      have hK2 := hKB.later hb12
      have hoe := own_empty w2 w2.heap.size (Nat.le_refl _)
      have hKa := hK2.alloc (.cells #[] 5)
      have hsz : ByteArray.empty.size + k.size ≤ 1000000 := by simp; omega
      go_wp2_with (at_builtin; go_must (refine wpList_append_bytes rfl _ _ rfl w2.heap.size _ ByteArray.empty rfl hoe _ k rfl hKa hsz (by simp) ?_; intro v4 w4 ho4 hb4))
      rw [cat_empty] at ho4
      have hI4 := own_bytes ho4
      obtain ⟨x4, c4, rfl⟩ := own_shape ho4
      have hb24 : Below w2.heap.size w2 w4 := ((Below.refl _ w2).alloc (Nat.le_refl _) _).trans hb4
      have hb14 := below22 hb12 hb24
      obtain ⟨SH, hSH⟩ : ∃ SH : ByteArray, SH = ⟨(hmacL k.data.toList (flatB ls)).toArray⟩ := ⟨_, rfl⟩
      have hMac : ∀ u, IsBytes u (.slice x4 k.size c4) k → IsSl u (.slice xa n ca) ls → KTab u → Calls Tryd.prog 13 #[.slice x4 k.size c4, .slice xa n ca] u fun e w' => (∃ B, e = .returned (.slice (some ⟨B, 0, none⟩) 32 32) ∧ u.heap.size ≤ B ∧ IsBytes w' (.slice (some ⟨B, 0, none⟩) 32 32) SH) ∧ Below u.heap.size u w' := fun u h0 h1 h2 => by
        have := kMac_any x4 c4 k _ ls u (by omega) h0 h1 h2 (by omega) (by omega)
        rw [← hSH] at this; exact this
      have hRef : ∀ u au cu av cv, IsN .u32 u (.slice au 8 cu) beginS.l → IsN .u32 u (.slice av 64 cv) roundK → IsBytes u (.slice x k.size cx) k → IsBytes u (.slice xs SB.size cs) SB → Calls Tryd.prog 14 #[.agg #[.slice au 8 cu, .slice av 64 cv], .slice x k.size cx, .slice xs SB.size cs] u fun e w' => (∃ a c, e = .returned (.slice a 32 c) ∧ IsBytes w' (.slice a 32 c) SH) ∧ Below u.heap.size u w' := fun u au cu av cv h1 h2 h3 h4 => by
        have := vMac_any au av x xs cu cv cx cs k SB u h1 h2 h3 h4 (by omega) (by omega)
        rw [HSB.out] at this
        refine this.mono ?_
        rintro e w' ⟨⟨a, c, he, ho⟩, hb⟩
        refine ⟨⟨a, c, he, ?_⟩, hb⟩
        rw [hSH]
        have hl : (hmacL k.data.toList (flatB ls)).length = 32 := shaL_length _
        exact own_text' (by rw [hl]; exact ho)
      have HU := show Hid (∀ u, Below w4.drew.heap.size w4.drew u → KTab u ∧ IsSl u (.slice xa n ca) ls ∧ IsBytes u (.slice xs SB.size cs) SB ∧ IsBytes u (.slice x k.size cx) k ∧ IsBytes u (.slice x4 k.size c4) k) from fun u hb => ⟨((hKT.later hb14).later ((Below.refl _ _).drew)).later hb, ((hI.later hb14).later ((Below.refl _ _).drew)).later hb, (((hJA.later hb2).later hb24).later ((Below.refl _ _).drew)).later hb, ((hKB.later hb14).later ((Below.refl _ _).drew)).later hb, (hI4.later ((Below.refl _ _).drew)).later hb⟩
      have tS : (SH.toList == SH.toList) = true := by simp
      have tK : (k.toList == k.toList) = true := by simp
      have hbw : Below w.heap.size w w4.drew := hb14.drew
      clear hI hKT hJA HVA hSH hsm hfl hJ hb1 hb2 hKB hK2 hKa hoe hI4 ho4 hb4 hb24 hb14 hb12
      go_wp2_with fail
      refine free_walk (Sem := semMacs xa xs x x4 n ca cs cx c4 SB SH k) rfl (n := 45) (by kernel_rfl) rfl (by kernel_rfl) ?_ ?_ ?_
      · intro ix v u u' h hb
        match ix, h with
        | 0, h => exact h
        | 1, h => exact h
        | 2, h => exact IsBytes.later h hb
        | 3, h => exact h
        | 4, h => exact by obtain ⟨au, cu, av, cv, h1, h2, h3⟩ := h; exact ⟨au, cu, av, cv, h1, h2.later hb, h3.later hb⟩
        | 5, h => exact h
        | 6, h => exact h
        | 7, h => exact IsBytes.later h hb
        | 8, h => exact h
        | 9, h => exact h
        | 10, h => exact h
        | 11, h => exact h
        | 12, h => exact h
        | 13, h => exact h
        | 14, h => exact h
        | 15, h => exact h
        | 16, h => exact h
        | 17, h => exact h
        | _ + 18, _ => exact trivial
      · intro ix o a u ho hF hbu
        match ix, ho, hF with
        | 0, ho, hF =>
          obtain rfl := Option.some.inj ho
          have h7 : a.tmps[7]? = some (.slice x4 k.size c4) := (hF.out 7 rfl).trans rfl
          refine free_step rfl (by rfl) (fun K' hK => ?_)
          go_simp
          exact hK.out _ _ rfl (Below.refl _ _)
        | 1, ho, hF =>
          obtain rfl := Option.some.inj ho
          have h1 : a.tmps[1]? = some (.slice xa n ca) := (hF.out 1 rfl).trans rfl
          refine free_step rfl (by rfl) (fun K' hK => ?_)
          go_simp
          exact hK.out _ _ rfl (Below.refl _ _)
        | 2, ho, hF =>
          obtain rfl := Option.some.inj ho
          obtain ⟨v28, h28, s28⟩ := hF.dep 0 28 rfl rfl
          obtain rfl : v28 = .slice x4 k.size c4 := s28
          obtain ⟨v29, h29, s29⟩ := hF.dep 1 29 rfl rfl
          obtain rfl : v29 = .slice xa n ca := s29
          refine free_step rfl (by rfl) (fun K' hK => ?_)
          go_wp2_with fail
          refine (hMac u (HU.out u hbu).2.2.2.2 (HU.out u hbu).2.1 (HU.out u hbu).1).mono ?_
          rintro e u' ⟨⟨B, rfl, _, hI⟩, hb⟩
          go_simp
          exact hK.out _ _ hI hb
        | 3, ho, hF =>
          obtain rfl := Option.some.inj ho
          obtain ⟨v30, h30, s30⟩ := hF.dep 2 30 rfl rfl
          replace s30 : IsBytes u v30 SH := s30
          have hcv := IsBytes.convert s30
          refine free_step rfl (by rfl) (fun K' hK => ?_)
          go_simp
          exact hK.out _ _ rfl (Below.refl _ _)
        | 4, ho, hF =>
          obtain rfl := Option.some.inj ho
          refine free_step rfl (by rfl) (fun K' hK => ?_)
          go_wp2_with fail
          refine (vNew_any u).mono ?_
          rintro e u' ⟨⟨p, q, rfl, hp, hq⟩, hb⟩
          obtain ⟨au, cu, rfl, _⟩ := id hp
          obtain ⟨av, cv, rfl, _⟩ := id hq
          go_simp
          exact hK.out _ _ ⟨au, cu, av, cv, rfl, hp, hq⟩ hb
        | 5, ho, hF =>
          obtain rfl := Option.some.inj ho
          have h0 : a.tmps[0]? = some (.slice x k.size cx) := (hF.out 0 rfl).trans rfl
          refine free_step rfl (by rfl) (fun K' hK => ?_)
          go_simp
          exact hK.out _ _ rfl (Below.refl _ _)
        | 6, ho, hF =>
          obtain rfl := Option.some.inj ho
          have h5 : a.tmps[5]? = some (.slice xs SB.size cs) := (hF.out 5 rfl).trans rfl
          refine free_step rfl (by rfl) (fun K' hK => ?_)
          go_simp
          exact hK.out _ _ rfl (Below.refl _ _)
        | 7, ho, hF =>
          obtain rfl := Option.some.inj ho
          obtain ⟨v32, h32, s32⟩ := hF.dep 4 32 rfl rfl
          replace s32 : ∃ au cu av cv, v32 = .agg #[.slice au 8 cu, .slice av 64 cv] ∧ IsN .u32 u (.slice au 8 cu) beginS.l ∧ IsN .u32 u (.slice av 64 cv) roundK := s32
          obtain ⟨v33, h33, s33⟩ := hF.dep 5 33 rfl rfl
          obtain rfl : v33 = .slice x k.size cx := s33
          obtain ⟨v34, h34, s34⟩ := hF.dep 6 34 rfl rfl
          obtain rfl : v34 = .slice xs SB.size cs := s34
          refine free_step rfl (by rfl) (fun K' hK => ?_)
          obtain ⟨au, cu, av, cv, rfl, hp, hq⟩ := s32
          go_wp2_with fail
          refine (hRef u au cu av cv hp hq (HU.out u hbu).2.2.2.1 (HU.out u hbu).2.2.1).mono ?_
          rintro e u' ⟨⟨a, c, rfl, hI⟩, hb⟩
          go_simp
          exact hK.out _ _ hI hb
        | 8, ho, hF =>
          obtain rfl := Option.some.inj ho
          obtain ⟨v35, h35, s35⟩ := hF.dep 7 35 rfl rfl
          replace s35 : IsBytes u v35 SH := s35
          have hcv := IsBytes.convert s35
          refine free_step rfl (by rfl) (fun K' hK => ?_)
          go_simp
          exact hK.out _ _ rfl (Below.refl _ _)
        | 9, ho, hF =>
          obtain rfl := Option.some.inj ho
          obtain ⟨v31, h31, s31⟩ := hF.dep 3 31 rfl rfl
          obtain rfl : v31 = .string SH := s31
          obtain ⟨v36, h36, s36⟩ := hF.dep 8 36 rfl rfl
          obtain rfl : v36 = .string SH := s36
          refine free_step rfl (by rfl) (fun K' hK => ?_)
          go_simp
          exact hK.out _ _ rfl (Below.refl _ _)
        | 10, ho, hF =>
          obtain rfl := Option.some.inj ho
          obtain ⟨v37, h37, s37⟩ := hF.dep 9 37 rfl rfl
          obtain rfl : v37 = .bool true := s37
          refine free_step rfl (by rfl) (fun K' hK => ?_)
          go_simp
          exact hK.out _ _ rfl (Below.refl _ _)
        | 11, ho, hF =>
          obtain rfl := Option.some.inj ho
          have h7 : a.tmps[7]? = some (.slice x4 k.size c4) := (hF.out 7 rfl).trans rfl
          obtain ⟨v38, h38, s38⟩ := hF.dep 10 38 rfl rfl
          obtain rfl : v38 = .bool true := s38
          refine free_step rfl (by show (yielded _ a.tmps 10 == some true) = true; unfold yielded; simp [h38]) (fun K' hK => ?_)
          go_simp
          exact hK.out _ _ rfl (Below.refl _ _)
        | 12, ho, hF =>
          obtain rfl := Option.some.inj ho
          obtain ⟨v39, h39, s39⟩ := hF.dep 11 39 rfl rfl
          obtain rfl : v39 = .slice x4 k.size c4 := s39
          obtain ⟨v38, h38, s38⟩ := hF.dep 10 38 rfl rfl
          obtain rfl : v38 = .bool true := s38
          have hcv := IsBytes.convert (HU.out u hbu).2.2.2.2
          refine free_step rfl (by show (yielded _ a.tmps 10 == some true) = true; unfold yielded; simp [h38]) (fun K' hK => ?_)
          go_simp
          exact hK.out _ _ rfl (Below.refl _ _)
        | 13, ho, hF =>
          obtain rfl := Option.some.inj ho
          have h0 : a.tmps[0]? = some (.slice x k.size cx) := (hF.out 0 rfl).trans rfl
          obtain ⟨v38, h38, s38⟩ := hF.dep 10 38 rfl rfl
          obtain rfl : v38 = .bool true := s38
          refine free_step rfl (by show (yielded _ a.tmps 10 == some true) = true; unfold yielded; simp [h38]) (fun K' hK => ?_)
          go_simp
          exact hK.out _ _ rfl (Below.refl _ _)
        | 14, ho, hF =>
          obtain rfl := Option.some.inj ho
          obtain ⟨v41, h41, s41⟩ := hF.dep 13 41 rfl rfl
          obtain rfl : v41 = .slice x k.size cx := s41
          obtain ⟨v38, h38, s38⟩ := hF.dep 10 38 rfl rfl
          obtain rfl : v38 = .bool true := s38
          have hcv := IsBytes.convert (HU.out u hbu).2.2.2.1
          refine free_step rfl (by show (yielded _ a.tmps 10 == some true) = true; unfold yielded; simp [h38]) (fun K' hK => ?_)
          go_simp
          exact hK.out _ _ rfl (Below.refl _ _)
        | 15, ho, hF =>
          obtain rfl := Option.some.inj ho
          obtain ⟨v40, h40, s40⟩ := hF.dep 12 40 rfl rfl
          obtain rfl : v40 = .string k := s40
          obtain ⟨v42, h42, s42⟩ := hF.dep 14 42 rfl rfl
          obtain rfl : v42 = .string k := s42
          obtain ⟨v38, h38, s38⟩ := hF.dep 10 38 rfl rfl
          obtain rfl : v38 = .bool true := s38
          refine free_step rfl (by show (yielded _ a.tmps 10 == some true) = true; unfold yielded; simp [h38]) (fun K' hK => ?_)
          go_simp
          exact hK.out _ _ rfl (Below.refl _ _)
        | 16, ho, hF =>
          obtain rfl := Option.some.inj ho
          obtain ⟨v38, h38, s38⟩ := hF.dep 10 38 rfl rfl
          obtain rfl : v38 = .bool true := s38
          obtain ⟨v43, h43, s43⟩ := hF.dep 15 43 rfl rfl
          obtain rfl : v43 = .bool true := s43
          refine free_step rfl (by rfl) (fun K' hK => ?_)
          go_simp
          exact hK.out _ _ rfl (Below.refl _ _)
        | 17, ho, hF =>
          obtain rfl := Option.some.inj ho
          obtain ⟨v44, h44, s44⟩ := hF.dep 16 44 rfl rfl
          obtain rfl : v44 = .bool true := s44
          refine free_step rfl (by rfl) (fun K' hK => ?_)
          go_simp
          exact hK.out _ _ rfl (Below.refl _ _)
        | n + 18, ho, _ => exact absurd (Array.getElem?_eq_some_iff.1 ho).1 (by show ¬ n + 18 < 18; omega)
      · intro vs u hS hbu
        have e17 : vs 17 = .bool true := hS 17 4 rfl
        simp only [putFrom, Act.put, List.setIfInBounds_toArray, List.set_cons_succ, List.set_cons_zero, Nat.reduceAdd]
        rw [e17]
        clear hS e17
        generalize vs 0 = z0
        generalize vs 1 = z1
        generalize vs 2 = z2
        generalize vs 3 = z3
        generalize vs 4 = z4
        generalize vs 5 = z5
        generalize vs 6 = z6
        generalize vs 7 = z7
        generalize vs 8 = z8
        generalize vs 9 = z9
        generalize vs 10 = z10
        generalize vs 11 = z11
        generalize vs 12 = z12
        generalize vs 13 = z13
        generalize vs 14 = z14
        generalize vs 15 = z15
        generalize vs 16 = z16
        go_wp2_with fail
        go_ret
        exact ⟨rfl, hbw.trans (hbu.mono hbw.size)⟩
    · have h3002 : (300 : Int) < (k.size : Int) := by omega
      go_wp2_with fail
      refine (lkAwake_any w2 (hKT.later hb12)).mono ?_
      rintro e w3 ⟨rfl, hb3⟩
      go_wp2_with fail
      go_ret
      exact ⟨rfl, below22 hb12 hb3⟩
end Go.Proofs.YtgehgcnaoapbbaaDoor
