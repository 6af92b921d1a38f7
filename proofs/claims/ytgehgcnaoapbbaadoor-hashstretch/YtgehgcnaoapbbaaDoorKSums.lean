/-
  HashSums, walked.
-/
import Derived.Test.YtgehgcnaoapbbaaDoorKJoin
import Derived.Test.YtgehgcnaoapbbaaDoorVSum
namespace Go.Proofs.YtgehgcnaoapbbaaDoor
open Go.RowKit Ch
set_option maxRecDepth 100000

theorem below22 {a b c : World} (h1 : Below a.heap.size a b) (h2 : Below b.heap.size b c) : Below a.heap.size a c := h1.trans (h2.mono h1.size)
def semSums (xa xs : Option Addr) (n ca cs : Nat) (SB SH : ByteArray) : Nat → Value → World → Prop := fun ix v u => match ix with
  | 0 => v = .slice xa n ca
  | 1 => IsBytes u v SH
  | 2 => v = .string SH
  | 3 => ∃ au cu av cv, v = .agg #[.slice au 8 cu, .slice av 64 cv] ∧ IsN .u32 u (.slice au 8 cu) beginS.l ∧ IsN .u32 u (.slice av 64 cv) roundK
  | 4 => v = .slice xs SB.size cs
  | 5 => IsBytes u v SH
  | 6 => v = .string SH
  | 7 => v = .bool true
  | 8 => v = .bool true
  | _ => True
set_option maxHeartbeats 4000000 in
theorem lkSums_any (v : Value) (ls : List ByteArray) (w : World) (hI : IsSl w v ls) (hKT : KTab w) :
    Calls Tryd.prog 3 #[v] w fun e w' => e = .returned (.bool true) ∧ Below w.heap.size w w' := by
  obtain ⟨xa, ca, rfl, _⟩ := id hI
  obtain ⟨n, hn⟩ : ∃ n, ls.length = n := ⟨_, rfl⟩
  rw [hn] at hI ⊢
  obtain ⟨J, hJ⟩ : ∃ J, joinOk ls = J := ⟨_, rfl⟩
  have hjn := lkJoined_any _ ls w hI
  rw [hJ] at hjn
  go_enter Tryd.func3, Tryd.ntmps3
  go_wp2_with fail
  refine hjn.mono ?_
  rintro e w1 ⟨⟨va, rfl, hva⟩, hb1⟩
  have HVA := show Hid (J = true → IsBytes w1 va ⟨(flatB ls).toArray⟩) from hva
  clear hjn hva
  go_wp2_with fail
  refine (lkAwake_any w1 (hKT.later hb1)).mono ?_
  rintro e w2 ⟨rfl, hb2⟩
  have hb12 := below22 hb1 hb2
  cases J
  · go_wp2_with fail
    refine (lkAwake_any w2 (hKT.later hb12)).mono ?_
    rintro e w3 ⟨rfl, hb3⟩
    go_wp2_with fail
    go_ret
    exact ⟨rfl, below22 hb12 hb3⟩
  · have hJA := HVA.out rfl
    have hsm : ls.length ≤ 20 ∧ ∀ t ∈ ls, t.size ≤ 300 := by
      unfold joinOk at hJ
      rw [Bool.and_eq_true, List.all_eq_true] at hJ
      exact ⟨by simpa using hJ.1, fun t ht => by simpa using hJ.2 t ht⟩
    have hfl : (flatB ls).length ≤ 6000 := by have := flat_small ls hsm.2; omega
    obtain ⟨SB, hSB⟩ : ∃ SB : ByteArray, SB = ⟨(flatB ls).toArray⟩ := ⟨_, rfl⟩
    have hSBl : SB.data.toList = flatB ls := by rw [hSB]
    have hSBz : SB.size ≤ 6000 := by rw [← len_eq, hSBl]; exact hfl
    rw [← hSB] at hJA
    obtain ⟨xs, cs, rfl, hx1⟩ := id hJA
    clear hx1
    obtain ⟨SH, hSH⟩ : ∃ SH : ByteArray, SH = ⟨(shaL (flatB ls)).toArray⟩ := ⟨_, rfl⟩
    have hSum : ∀ u, IsSl u (.slice xa n ca) ls → KTab u → Calls Tryd.prog 10 #[.slice xa n ca] u fun e w' => (∃ B, e = .returned (.slice (some ⟨B, 0, none⟩) 32 32) ∧ u.heap.size ≤ B ∧ IsBytes w' (.slice (some ⟨B, 0, none⟩) 32 32) SH) ∧ Below u.heap.size u w' := fun u h1 h2 => by
      have := kSum_any _ ls u h1 h2 (by omega) (by omega)
      rw [← hSH] at this; exact this
    have hRef : ∀ u au cu av cv, IsN .u32 u (.slice au 8 cu) beginS.l → IsN .u32 u (.slice av 64 cv) roundK → IsBytes u (.slice xs SB.size cs) SB → Calls Tryd.prog 12 #[.agg #[.slice au 8 cu, .slice av 64 cv], .slice xs SB.size cs] u fun e w' => (∃ a c, e = .returned (.slice a 32 c) ∧ IsBytes w' (.slice a 32 c) SH) ∧ Below u.heap.size u w' := fun u au cu av cv h1 h2 h3 => by
      have := vSum_any au av xs cu cv cs SB u h1 h2 h3 (by omega)
      rw [hSBl] at this
      refine this.mono ?_
      rintro e w' ⟨⟨a, c, he, ho⟩, hb⟩
      refine ⟨⟨a, c, he, ?_⟩, hb⟩
      rw [hSH]
      exact own_text' (by rw [shaL_length]; exact ho)
    have HU := show Hid (∀ u, Below w2.drew.heap.size w2.drew u → KTab u ∧ IsSl u (.slice xa n ca) ls ∧ IsBytes u (.slice xs SB.size cs) SB) from fun u hb => ⟨((hKT.later hb12).later ((Below.refl _ _).drew)).later hb, ((hI.later hb12).later ((Below.refl _ _).drew)).later hb, ((hJA.later hb2).later ((Below.refl _ _).drew)).later hb⟩
    have tS : (SH.toList == SH.toList) = true := by simp
    have hbw : Below w.heap.size w w2.drew := hb12.drew
    clear hI hKT hJA HVA hSH hSB hSBl hsm hfl hJ hb1 hb2
    go_wp2_with fail
    refine free_walk (Sem := semSums xa xs n ca cs SB SH) rfl (n := 25) (by kernel_rfl) rfl (by kernel_rfl) ?_ ?_ ?_
    · intro ix v u u' h hb
      match ix, h with
      | 0, h => exact h
      | 1, h => exact IsBytes.later h hb
      | 2, h => exact h
      | 3, h => exact by obtain ⟨au, cu, av, cv, h1, h2, h3⟩ := h; exact ⟨au, cu, av, cv, h1, h2.later hb, h3.later hb⟩
      | 4, h => exact h
      | 5, h => exact IsBytes.later h hb
      | 6, h => exact h
      | 7, h => exact h
      | 8, h => exact h
      | _ + 9, _ => exact trivial
    · intro ix o a u ho hF hbu
      match ix, ho, hF with
      | 0, ho, hF =>
        obtain rfl := Option.some.inj ho
        have h0 : a.tmps[0]? = some (.slice xa n ca) := (hF.out 0 rfl).trans rfl
        refine free_step rfl (by rfl) (fun K' hK => ?_)
        go_simp
        exact hK.out _ _ rfl (Below.refl _ _)
      | 1, ho, hF =>
        obtain rfl := Option.some.inj ho
        obtain ⟨v17, h17, s17⟩ := hF.dep 0 17 rfl rfl
        obtain rfl : v17 = .slice xa n ca := s17
        refine free_step rfl (by rfl) (fun K' hK => ?_)
        go_wp2_with fail
        refine (hSum u (HU.out u hbu).2.1 (HU.out u hbu).1).mono ?_
        rintro e u' ⟨⟨B, rfl, _, hI⟩, hb⟩
        go_simp
        exact hK.out _ _ hI hb
      | 2, ho, hF =>
        obtain rfl := Option.some.inj ho
        obtain ⟨v18, h18, s18⟩ := hF.dep 1 18 rfl rfl
        replace s18 : IsBytes u v18 SH := s18
        have hcv := IsBytes.convert s18
        refine free_step rfl (by rfl) (fun K' hK => ?_)
        go_simp
        exact hK.out _ _ rfl (Below.refl _ _)
      | 3, ho, hF =>
        obtain rfl := Option.some.inj ho
        refine free_step rfl (by rfl) (fun K' hK => ?_)
        go_wp2_with fail
        refine (vNew_any u).mono ?_
        rintro e u' ⟨⟨p, q, rfl, hp, hq⟩, hb⟩
        obtain ⟨au, cu, rfl, _⟩ := id hp
        obtain ⟨av, cv, rfl, _⟩ := id hq
        go_simp
        exact hK.out _ _ ⟨au, cu, av, cv, rfl, hp, hq⟩ hb
      | 4, ho, hF =>
        obtain rfl := Option.some.inj ho
        have h3 : a.tmps[3]? = some (.slice xs SB.size cs) := (hF.out 3 rfl).trans rfl
        refine free_step rfl (by rfl) (fun K' hK => ?_)
        go_simp
        exact hK.out _ _ rfl (Below.refl _ _)
      | 5, ho, hF =>
        obtain rfl := Option.some.inj ho
        obtain ⟨v20, h20, s20⟩ := hF.dep 3 20 rfl rfl
        replace s20 : ∃ au cu av cv, v20 = .agg #[.slice au 8 cu, .slice av 64 cv] ∧ IsN .u32 u (.slice au 8 cu) beginS.l ∧ IsN .u32 u (.slice av 64 cv) roundK := s20
        obtain ⟨v21, h21, s21⟩ := hF.dep 4 21 rfl rfl
        obtain rfl : v21 = .slice xs SB.size cs := s21
        refine free_step rfl (by rfl) (fun K' hK => ?_)
        obtain ⟨au, cu, av, cv, rfl, hp, hq⟩ := s20
        go_wp2_with fail
        refine (hRef u au cu av cv hp hq (HU.out u hbu).2.2).mono ?_
        rintro e u' ⟨⟨a, c, rfl, hI⟩, hb⟩
        go_simp
        exact hK.out _ _ hI hb
      | 6, ho, hF =>
        obtain rfl := Option.some.inj ho
        obtain ⟨v22, h22, s22⟩ := hF.dep 5 22 rfl rfl
        replace s22 : IsBytes u v22 SH := s22
        have hcv := IsBytes.convert s22
        refine free_step rfl (by rfl) (fun K' hK => ?_)
        go_simp
        exact hK.out _ _ rfl (Below.refl _ _)
      | 7, ho, hF =>
        obtain rfl := Option.some.inj ho
        obtain ⟨v19, h19, s19⟩ := hF.dep 2 19 rfl rfl
        obtain rfl : v19 = .string SH := s19
        obtain ⟨v23, h23, s23⟩ := hF.dep 6 23 rfl rfl
        obtain rfl : v23 = .string SH := s23
        refine free_step rfl (by rfl) (fun K' hK => ?_)
        go_simp
        exact hK.out _ _ rfl (Below.refl _ _)
      | 8, ho, hF =>
        obtain rfl := Option.some.inj ho
        obtain ⟨v24, h24, s24⟩ := hF.dep 7 24 rfl rfl
        obtain rfl : v24 = .bool true := s24
        refine free_step rfl (by rfl) (fun K' hK => ?_)
        go_simp
        exact hK.out _ _ rfl (Below.refl _ _)
      | n + 9, ho, _ => exact absurd (Array.getElem?_eq_some_iff.1 ho).1 (by show ¬ n + 9 < 9; omega)
    · intro vs u hS hbu
      have e8 : vs 8 = .bool true := hS 8 2 rfl
      simp only [putFrom, Act.put, List.setIfInBounds_toArray, List.set_cons_succ, List.set_cons_zero, Nat.reduceAdd]
      rw [e8]
      clear hS e8
      generalize vs 0 = z0
      generalize vs 1 = z1
      generalize vs 2 = z2
      generalize vs 3 = z3
      generalize vs 4 = z4
      generalize vs 5 = z5
      generalize vs 6 = z6
      generalize vs 7 = z7
      go_wp2_with fail
      go_ret
      exact ⟨rfl, hbw.trans (hbu.mono hbw.size)⟩
end Go.Proofs.YtgehgcnaoapbbaaDoor
