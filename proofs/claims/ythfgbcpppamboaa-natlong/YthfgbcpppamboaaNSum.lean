/-
  Package nat: a sum of words.
-/
import Derived.Test.YthfgbcpppamboaaNProd
import Derived.Laws.CopyRow
import Derived.Shelf.Spec.SlicesInsert
namespace Go.Proofs.Ythfgbcpppamboaa
open Go.RowKit Ch
set_option maxRecDepth 100000

theorem run_copy_w (w : World) (ty : TypeId) (g n cd : Nat) (y : Option Addr) (c : Nat) (A L : List Nat) (hR : RowN .u64 w g L) (hLn : L.length = n) (hI : IsN .u64 w (.slice y A.length c) A) (hlen : A.length ≤ n) :
    ∃ w', (Builtin.copy_ #[48, 48] ty #[.slice (some ⟨g, 0, none⟩) n cd, .slice y A.length c]).run Try.prog w = .ok (goInt A.length) w' ∧ RowN .u64 w' g (A ++ L.drop A.length) ∧ w.grownBy w' (some g) := by
  by_cases h0 : A = []
  · subst h0
    refine ⟨w, run_copy_none (P := Try.prog) w _ _ ty 59 _ _ n cd 0 c RW.hu (by kernel_rfl) (by simp), ?_, grown_refl _ _⟩
    simpa using hR
  · obtain ⟨x0, hx0⟩ : ∃ x0, A[0]? = some x0 := ⟨_, List.getElem?_eq_getElem (List.length_pos_iff.2 h0)⟩
    obtain ⟨_, b, o, rfl, _, _⟩ := IsN.cellAt hI hx0
    obtain ⟨xs, t, hh⟩ := hR
    have hr := run_copy_row (P := Try.prog) w 48 48 ty 59 g 0 n cd ⟨b, o, none⟩ A.length c _ t (kc .u64 A) RW.hu (by kernel_rfl) hh (by rw [kc_length]; exact (Nat.min_eq_left hlen).symm) hI.news (by rw [kc_length, List.size_toArray, List.length_append, kc_length]; omega) (kc_one _ _)
    rw [kc_length] at hr
    refine ⟨_, hr, ⟨xs, t, ?_⟩, ⟨rfl, rfl, rfl, by simp [World.setRow], fun k _ hn => ?_⟩⟩
    · rw [setRow_heap w g _ _ t (0, 0) hh]
      congr 2
      rw [List.toList_toArray, List.take_zero, List.nil_append, Nat.zero_add, List.drop_append_of_le_length (by rw [kc_length]; omega), kc_append]
      have : (kc .u64 L).drop A.length = kc .u64 (L.drop A.length) := by simp [kc, List.map_drop]
      rw [this, List.append_assoc]
    · show (w.heap.modify g _)[k]? = _
      rw [Array.getElem?_modify, if_neg (fun e => hn (by rw [e]))]
set_option maxHeartbeats 4000000 in
theorem nSum_any (ya yb : Option Addr) (ca cb : Nat) (A V : List Nat) (w : World) (hIA : IsN .u64 w (.slice ya A.length ca) A) (hIV : IsN .u64 w (.slice yb V.length cb) V) (hA : AllW A) (hAV : AllW V) (hla : A.length ≤ 50000) (hlv : V.length ≤ 50000) :
    Calls Try.prog 32 #[.slice ya A.length ca, .slice yb V.length cb] w fun e w' => (∃ v, e = .returned v ∧ IsW (max A.length V.length + 1) w' v (numW A + numW V)) ∧ Below w.heap.size w w' := by
  obtain ⟨na, hna⟩ : ∃ na, A.length = na := ⟨_, rfl⟩
  obtain ⟨m, hm⟩ : ∃ m, V.length = m := ⟨_, rfl⟩
  have HIA := show Hid (IsN .u64 w (.slice ya na ca) A ∧ A.length = na) from ⟨by rw [← hna]; exact hIA, hna⟩
  have HIV := show Hid (IsN .u64 w (.slice yb m cb) V ∧ V.length = m) from ⟨by rw [← hm]; exact hIV, hm⟩
  rw [hna, hm]
  rw [hna] at hla
  rw [hm] at hlv
  clear hIA hIV hna hm
  obtain ⟨mx, hmx⟩ : ∃ mx, max na m = mx := ⟨_, rfl⟩
  have hmxI : max (na : Int) (m : Int) = (mx : Int) := by omega
  obtain ⟨cc, hcc⟩ : ∃ cc, mx + 1 = cc := ⟨_, rfl⟩
  have hccI : (mx : Int) + 1 = (cc : Int) := by omega
  have HCC := show Hid (mx + 1 = cc ∧ na ≤ mx ∧ m ≤ mx) from ⟨hcc, by omega, by omega⟩
  have hccl : cc ≤ 100001 := by omega
  rw [hmx, hcc]
  clear hcc hmx
  go_enter Try.func32, Try.ntmps32
  go_wp2_with (at_make; go_must (refine wpList_make_n RW w rfl _ _ rfl .i64 .i64 _ _ cc rfl rfl rfl rfl (by omega) ?_; intro w1 ho1 hb1))
  obtain ⟨hR1, _⟩ := RowN.own ho1
  obtain ⟨g, hg⟩ : ∃ g, w.heap.size = g := ⟨_, rfl⟩
  rw [hg] at hR1
  obtain ⟨w2, hcp, hR2, hg2⟩ := run_copy_w w1 3 g cc cc ya ca A _ hR1 (by simp) (by rw [HIA.out.2]; exact HIA.out.1.later hb1) (by have := HCC.out; rw [HIA.out.2]; omega)
  rw [HIA.out.2] at hcp hR2
  rw [hg]
  have hb2 : Below w.heap.size w w2 := hb1.grown hg2 hb1.size (fun b hb => by obtain rfl : g = b := Option.some.inj hb; omega)
  obtain ⟨L1, hL1⟩ : ∃ L1, A ++ (List.replicate cc 0).drop na = L1 := ⟨_, rfl⟩
  rw [hL1] at hR2
  have HL1 := show Hid (L1.length = cc ∧ AllW L1 ∧ numW L1 = numW A) from by
    rw [← hL1, List.drop_replicate]
    refine ⟨by rw [List.length_append, HIA.out.2, List.length_replicate]; have := HCC.out; omega, fun z hz => ?_, by rw [numW_append, numW_zero, Nat.mul_zero, Nat.add_zero]⟩
    rcases List.mem_append.1 hz with h | h
    · exact hA z h
    · exact allW_zero _ z h
  have hAdd := nAddTo_any g 0 cc cc cb yb V L1 w2 hR2 HL1.out.2.1 (by rw [HL1.out.1, Nat.zero_add]; exact Nat.le_refl _) (by rw [HIV.out.2]; have := HCC.out; omega) (by omega) hAV (fun u hgu => by
    rw [HIV.out.2]
    exact HIV.out.1.later (hb2.grown hgu hb2.size (fun b hb => by obtain rfl : g = b := Option.some.inj hb; omega)))
  rw [HIV.out.2] at hAdd
  have HB2 := show Hid (Below w.heap.size w w2 ∧ w.heap.size = g) from ⟨hb2, hg⟩
  clear ho1 hb1 hR1 hg hg2 hb2 hL1 hR2
  rw [hcp]
  go_wp2_with fail
  clear hcp
  refine hAdd.mono ?_
  rintro e w3 ⟨rfl, L', hW, k, hk, hE⟩
  clear hAdd
  have hb3 : Below w.heap.size w w3 := HB2.out.1.grown hW.2.2.2.2 HB2.out.1.size (fun b hb => by obtain rfl : g = b := Option.some.inj hb; rw [HB2.out.2]; exact Nat.le_refl _)
  have HS := show Hid (numW L' = numW A + numW V ∧ AllW L' ∧ L'.length = cc) from by
    have hl' : L'.length = cc := by rw [hW.2.2.1, HL1.out.1]
    rw [pv_full hl', pv_full HL1.out.1, HL1.out.2.2] at hE
    have h1 := numW_lt hA
    have h2 := numW_lt hAV
    rw [HIA.out.2] at h1
    rw [HIV.out.2] at h2
    have h3 : 18446744073709551616 ^ na ≤ 18446744073709551616 ^ mx := Nat.pow_le_pow_right (by decide) HCC.out.2.1
    have h4 : 18446744073709551616 ^ m ≤ 18446744073709551616 ^ mx := Nat.pow_le_pow_right (by decide) HCC.out.2.2
    have h5 : 18446744073709551616 ^ cc = 18446744073709551616 ^ mx * 18446744073709551616 := by rw [← HCC.out.1, Nat.pow_succ]
    refine ⟨?_, hW.2.1, hl'⟩
    have hk0 : k = 0 := by
      apply Classical.byContradiction
      intro hn
      have : k = 1 := by omega
      subst this
      rw [Nat.one_mul, h5] at hE
      generalize 18446744073709551616 ^ mx = z at *
      omega
    subst hk0
    omega
  have hT := nTrimmed_any (some ⟨g, 0, none⟩) cc L' w3 (by
    have := hW.1.isN (o := 0) (n := L'.length) (c := cc) (by omega) (by rw [HS.out.2.2]; exact Nat.le_refl _) (by omega)
    rw [List.drop_zero, List.take_length] at this
    exact this) (by rw [HS.out.2.2]; omega)
  rw [HS.out.2.2] at hT
  clear hE hW
  go_wp2_with fail
  refine hT.mono ?_
  rintro e w5 ⟨rfl, hI5, rfl⟩
  clear hT
  have HI5 := show Hid (IsW cc w5 (.slice (some ⟨g, 0, none⟩) (trimL L').length cc) (numW A + numW V)) from isW_trim hI5 HS.out.2.1 HS.out.1 (by rw [HS.out.2.2]; exact Nat.le_refl _)
  clear hI5
  go_wp2_with fail
  go_ret
  exact ⟨⟨_, rfl, HI5.out⟩, hb3⟩
end Go.Proofs.Ythfgbcpppamboaa
