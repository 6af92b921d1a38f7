/-
  Package nat: a sum of words.
  Package nat: a difference of words.
  Slices of slices of bytes. Of no layer alone (layer 5 has them in KSum, KHex, KStr, KPieces).
  Package nat: is a number too long?
-/
import Derived.Test.YtpcmpeeflnlkpaaDoorNProd
import Derived.Laws.CopyRow
import Derived.Shelf.Spec.SlicesInsert
import Derived.Test.YtpcmpeeflnlkpaaDoorGen2Etc
namespace Go.Proofs.YtpcmpeeflnlkpaaDoor
open Go.RowKit Ch
set_option maxRecDepth 100000

theorem run_copy_w (w : World) (ty : TypeId) (g n cd : Nat) (y : Option Addr) (c : Nat) (A L : List Nat) (hR : RowN .u64 w g L) (hLn : L.length = n) (hI : IsN .u64 w (.slice y A.length c) A) (hlen : A.length ≤ n) :
    ∃ w', (Builtin.copy_ #[61, 61] ty #[.slice (some ⟨g, 0, none⟩) n cd, .slice y A.length c]).run Tryd.prog w = .ok (goInt A.length) w' ∧ RowN .u64 w' g (A ++ L.drop A.length) ∧ w.grownBy w' (some g) := by
  by_cases h0 : A = []
  · subst h0
    refine ⟨w, run_copy_none (P := Tryd.prog) w _ _ ty 69 _ _ n cd 0 c RW.hu (by kernel_rfl) (by simp), ?_, grown_refl _ _⟩
    simpa using hR
  · obtain ⟨x0, hx0⟩ : ∃ x0, A[0]? = some x0 := ⟨_, List.getElem?_eq_getElem (List.length_pos_iff.2 h0)⟩
    obtain ⟨_, b, o, rfl, _, _⟩ := IsN.cellAt hI hx0
    obtain ⟨xs, t, hh⟩ := hR
    have hr := run_copy_row (P := Tryd.prog) w 61 61 ty 69 g 0 n cd ⟨b, o, none⟩ A.length c _ t (kc .u64 A) RW.hu (by kernel_rfl) hh (by rw [kc_length]; exact (Nat.min_eq_left hlen).symm) hI.news (by rw [kc_length, List.size_toArray, List.length_append, kc_length]; omega) (kc_one _ _)
    rw [kc_length] at hr
    refine ⟨_, hr, ⟨xs, t, ?_⟩, ⟨rfl, rfl, rfl, by simp [World.setRow], fun k _ hn => ?_⟩⟩
    · rw [setRow_heap w g _ _ t (0, 0) hh]
      congr 2
      rw [List.toList_toArray, List.take_zero, List.nil_append, Nat.zero_add, List.drop_append_of_le_length (by rw [kc_length]; omega), kc_append]
      have : (kc .u64 L).drop A.length = kc .u64 (L.drop A.length) := by simp [kc, List.map_drop]
      rw [this, List.append_assoc]
    · show (w.heap.modify g _)[k]? = _
      rw [Array.getElem?_modify, if_neg (fun e => hn (by rw [e]))]
set_option maxHeartbeats 4000000 in
theorem nSum_any (ya yb : Option Addr) (ca cb : Nat) (A V : List Nat) (w : World) (hIA : IsN .u64 w (.slice ya A.length ca) A) (hIV : IsN .u64 w (.slice yb V.length cb) V) (hA : AllW A) (hAV : AllW V) (hla : A.length ≤ 50000) (hlv : V.length ≤ 50000) :
    Calls Tryd.prog 51 #[.slice ya A.length ca, .slice yb V.length cb] w fun e w' => (∃ v, e = .returned v ∧ IsW (max A.length V.length + 1) w' v (numW A + numW V)) ∧ Below w.heap.size w w' := by
  obtain ⟨na, hna⟩ : ∃ na, A.length = na := ⟨_, rfl⟩
  obtain ⟨m, hm⟩ : ∃ m, V.length = m := ⟨_, rfl⟩
  have HIA := show Hid (IsN .u64 w (.slice ya na ca) A ∧ A.length = na) from ⟨by rw [← hna]; exact hIA, hna⟩
  have HIV := show Hid (IsN .u64 w (.slice yb m cb) V ∧ V.length = m) from ⟨by rw [← hm]; exact hIV, hm⟩
  rw [hna, hm]
  rw [hna] at hla
  rw [hm] at hlv
  clear hIA hIV hna hm
  obtain ⟨mx, hmx⟩ : ∃ mx, max na m = mx := ⟨_, rfl⟩
  have hmxI : max (na : Int) (m : Int) = (mx : Int) := by omega
  obtain ⟨cc, hcc⟩ : ∃ cc, mx + 1 = cc := ⟨_, rfl⟩
  have hccI : (mx : Int) + 1 = (cc : Int) := by omega
  have HCC := show Hid (mx + 1 = cc ∧ na ≤ mx ∧ m ≤ mx) from ⟨hcc, by omega, by omega⟩
  have hccl : cc ≤ 100001 := by omega
  rw [hmx, hcc]
  clear hcc hmx
  go_enter Tryd.func51, Tryd.ntmps51
  go_wp2_with (at_make; go_must (refine wpList_make_n RW w rfl _ _ rfl .i64 .i64 _ _ cc rfl rfl rfl rfl (by omega) ?_; intro w1 ho1 hb1))
  obtain ⟨hR1, _⟩ := RowN.own ho1
  obtain ⟨g, hg⟩ : ∃ g, w.heap.size = g := ⟨_, rfl⟩
  rw [hg] at hR1
  obtain ⟨w2, hcp, hR2, hg2⟩ := run_copy_w w1 3 g cc cc ya ca A _ hR1 (by simp) (by rw [HIA.out.2]; exact HIA.out.1.later hb1) (by have := HCC.out; rw [HIA.out.2]; omega)
  rw [HIA.out.2] at hcp hR2
  rw [hg]
  have hb2 : Below w.heap.size w w2 := hb1.grown hg2 hb1.size (fun b hb => by obtain rfl : g = b := Option.some.inj hb; omega)
  obtain ⟨L1, hL1⟩ : ∃ L1, A ++ (List.replicate cc 0).drop na = L1 := ⟨_, rfl⟩
  rw [hL1] at hR2
  have HL1 := show Hid (L1.length = cc ∧ AllW L1 ∧ numW L1 = numW A) from by
    rw [← hL1, List.drop_replicate]
    refine ⟨by rw [List.length_append, HIA.out.2, List.length_replicate]; have := HCC.out; omega, fun z hz => ?_, by rw [numW_append, numW_zero, Nat.mul_zero, Nat.add_zero]⟩
    rcases List.mem_append.1 hz with h | h
    · exact hA z h
    · exact allW_zero _ z h
  have hAdd := nAddTo_any g 0 cc cc cb yb V L1 w2 hR2 HL1.out.2.1 (by rw [HL1.out.1, Nat.zero_add]; exact Nat.le_refl _) (by rw [HIV.out.2]; have := HCC.out; omega) (by omega) hAV (fun u hgu => by
    rw [HIV.out.2]
    exact HIV.out.1.later (hb2.grown hgu hb2.size (fun b hb => by obtain rfl : g = b := Option.some.inj hb; omega)))
  rw [HIV.out.2] at hAdd
  have HB2 := show Hid (Below w.heap.size w w2 ∧ w.heap.size = g) from ⟨hb2, hg⟩
  clear ho1 hb1 hR1 hg hg2 hb2 hL1 hR2
  rw [hcp]
  go_wp2_with fail
  clear hcp
  refine hAdd.mono ?_
  rintro e w3 ⟨rfl, L', hW, k, hk, hE⟩
  clear hAdd
  have hb3 : Below w.heap.size w w3 := HB2.out.1.grown hW.2.2.2.2 HB2.out.1.size (fun b hb => by obtain rfl : g = b := Option.some.inj hb; rw [HB2.out.2]; exact Nat.le_refl _)
  have HS := show Hid (numW L' = numW A + numW V ∧ AllW L' ∧ L'.length = cc) from by
    have hl' : L'.length = cc := by rw [hW.2.2.1, HL1.out.1]
    rw [pv_full hl', pv_full HL1.out.1, HL1.out.2.2] at hE
    have h1 := numW_lt hA
    have h2 := numW_lt hAV
    rw [HIA.out.2] at h1
    rw [HIV.out.2] at h2
    have h3 : 18446744073709551616 ^ na ≤ 18446744073709551616 ^ mx := Nat.pow_le_pow_right (by decide) HCC.out.2.1
    have h4 : 18446744073709551616 ^ m ≤ 18446744073709551616 ^ mx := Nat.pow_le_pow_right (by decide) HCC.out.2.2
    have h5 : 18446744073709551616 ^ cc = 18446744073709551616 ^ mx * 18446744073709551616 := by rw [← HCC.out.1, Nat.pow_succ]
    refine ⟨?_, hW.2.1, hl'⟩
    have hk0 : k = 0 := by
      apply Classical.byContradiction
      intro hn
      have : k = 1 := by omega
      subst this
      rw [Nat.one_mul, h5] at hE
      generalize 18446744073709551616 ^ mx = z at *
      omega
    subst hk0
    omega
  have hT := nTrimmed_any (some ⟨g, 0, none⟩) cc L' w3 (by
    have := hW.1.isN (o := 0) (n := L'.length) (c := cc) (by omega) (by rw [HS.out.2.2]; exact Nat.le_refl _) (by omega)
    rw [List.drop_zero, List.take_length] at this
    exact this) (by rw [HS.out.2.2]; omega)
  rw [HS.out.2.2] at hT
  clear hE hW
  go_wp2_with fail
  refine hT.mono ?_
  rintro e w5 ⟨rfl, hI5, rfl⟩
  clear hT
  have HI5 := show Hid (IsW cc w5 (.slice (some ⟨g, 0, none⟩) (trimL L').length cc) (numW A + numW V)) from isW_trim hI5 HS.out.2.1 HS.out.1 (by rw [HS.out.2.2]; exact Nat.le_refl _)
  clear hI5
  go_wp2_with fail
  go_ret
  exact ⟨⟨_, rfl, HI5.out⟩, hb3⟩
end Go.Proofs.YtpcmpeeflnlkpaaDoor

namespace Go.Proofs.YtpcmpeeflnlkpaaDoor
open Go.RowKit Ch
set_option maxRecDepth 100000

set_option maxHeartbeats 1000000 in
theorem nTakeFrom_none (y yb : Option Addr) (c cb t : Nat) (w : World) (hc : y = none → c = 0) :
    Calls Tryd.prog 67 #[.slice y 0 c, .slice yb 0 cb, .int .u64 (t : Int)] w fun e w' => e = .returned (.bool false) ∧ w' = w := by
  rcases y with _ | a
  · obtain rfl := hc rfl
    go_enter Tryd.func67, Tryd.ntmps67
    go_wp2_with fail
    go_loopw [21, 7] (fun p q wr => p = .int .i64 0 ∧ q = .int .u64 0 ∧ wr = w) (fun _ _ _ => 0)
    case atStart => exact ⟨rfl, rfl, rfl⟩
    case round =>
      obtain ⟨rfl, rfl, rfl⟩ := hrel
      go_wp2_with fail
      go_loopw [14, 7] (fun p q wr' => p = .int .i64 0 ∧ q = .int .u64 0 ∧ wr' = wr) (fun _ _ _ => 0)
      case atStart => exact ⟨rfl, rfl, rfl⟩
      case round =>
        obtain ⟨rfl, rfl, rfl⟩ := hrel
        go_wp2_with fail
        go_ret
        exact ⟨rfl, rfl⟩
  · have h0 : (0 : Int) ≤ (c : Int) := by omega
    go_enter Tryd.func67, Tryd.ntmps67
    go_wp2_with fail
    go_loopw [21, 7] (fun p q wr => p = .int .i64 0 ∧ q = .int .u64 0 ∧ wr = w) (fun _ _ _ => 0)
    case atStart => exact ⟨rfl, rfl, rfl⟩
    case round =>
      obtain ⟨rfl, rfl, rfl⟩ := hrel
      go_wp2_with fail
      go_loopw [14, 7] (fun p q wr' => p = .int .i64 0 ∧ q = .int .u64 0 ∧ wr' = wr) (fun _ _ _ => 0)
      case atStart => exact ⟨rfl, rfl, rfl⟩
      case round =>
        obtain ⟨rfl, rfl, rfl⟩ := hrel
        go_wp2_with fail
        go_ret
        exact ⟨rfl, rfl⟩
/-- What a clone is. -/
def Cloned (w w' : World) (A : List Nat) (e : Ending) : Prop := (A = [] ∧ ∃ y c, e = .returned (.slice y 0 c) ∧ (y = none → c = 0) ∧ c ≤ maxLen) ∨ ∃ g c, e = .returned (.slice (some ⟨g, 0, none⟩) A.length c) ∧ RowN .u64 w' g A ∧ w.heap.size ≤ g ∧ A.length ≤ c ∧ c ≤ maxLen
theorem cloned_own {w w' : World} {A : List Nat} {v : Value} {base : Nat} {e : TypeId} (h : w'.ownsRow base e 1 v A.length (kc .u64 A)) (hb : w.heap.size ≤ base) : Cloned w w' A (.returned v) := by
  rcases h.2 with ⟨hv, h0⟩ | ⟨g, cap, cur, hv, hg, hh, hc, hcx, _, hcur⟩
  · exact .inl ⟨List.eq_nil_of_length_eq_zero h0, none, 0, by rw [hv], fun _ => rfl, by unfold maxLen; omega⟩
  · refine .inr ⟨g, cap, by rw [hv], ?_, by omega, hc, hcx⟩
    rw [hv] at h
    exact (RowN.own h).1
set_option maxHeartbeats 1000000 in
theorem nClone_any (y : Option Addr) (c : Nat) (A : List Nat) (w : World) (hI : IsN .u64 w (.slice y A.length c) A) (hl : A.length ≤ 100000) :
    Calls Tryd.prog 70 #[.slice y A.length c] w fun e w' => Cloned w w' A e ∧ Below w.heap.size w w' := by
  obtain ⟨n, hn⟩ : ∃ n, A.length = n := ⟨_, rfl⟩
  have HN := show Hid (A.length = n) from hn
  have q48 : ∀ (w : World) (a : Option Addr) (n c n' c' : Nat), (binOp .eql 61 (.slice a n c) (.slice none n' c')).run Tryd.prog w = .ok (.bool a.isNone) w := fun w a n c n' c' => Lib.run_eql_slice_nil w _ 69 a n c n' c' (by kernel_rfl)
  rcases y with _ | a
  · have h0 : n = 0 ∧ c = 0 := by
      obtain ⟨_, _, hv, _, _, ⟨_, h1, h2⟩ | ⟨_, h3, _⟩⟩ := hI
      · simp only [Value.slice.injEq] at hv
        exact ⟨by omega, by omega⟩
      · simp only [Value.slice.injEq] at hv
        rw [← hv.1] at h3
        cases h3
    obtain ⟨rfl, rfl⟩ := h0
    rw [hn]
    have hA0 : A = [] := List.eq_nil_of_length_eq_zero hn
    clear hn
    go_enter Tryd.func70, Tryd.ntmps70
    go_wp2_with fail
    go_ret
    exact ⟨.inl ⟨hA0, none, 0, rfl, fun _ => rfl, by unfold maxLen; omega⟩, Below.refl _ _⟩
  · rw [hn] at hI hl ⊢
    clear hn
    have hoe := own_emptyN w w.heap.size 69 (Nat.le_refl _)
    have hIa := hI.alloc (.cells #[] 69)
    have hsz : ([] : List Nat).length + A.length ≤ 1000000 := by rw [HN.out]; simp; omega
    have HE := show Hid ([] ++ A = A) from by unfold Hid; simp
    have HB := show Hid (Below w.heap.size w (w.alloc (.cells #[] 69))) from (Below.refl _ w).alloc (Nat.le_refl _) _
    go_enter Tryd.func70, Tryd.ntmps70
    go_wp2_with (at_builtin; go_must (refine wpList_append_ns RW rfl _ _ rfl w.heap.size _ [] rfl hoe _ A rfl hIa A HE hsz (by simp) ?_; intro v4 w4 ho4 hb4))
    go_ret
    exact ⟨cloned_own ho4 (Nat.le_refl _), HB.out.trans hb4⟩
set_option maxHeartbeats 2000000 in
theorem nDifference_any (ya yb : Option Addr) (ca cb : Nat) (A V : List Nat) (w : World) (hIA : IsN .u64 w (.slice ya A.length ca) A) (hIV : IsN .u64 w (.slice yb V.length cb) V) (hA : AllW A) (hAV : AllW V) (hla : A.length ≤ 50000) (hTV : Tidy V) (hle : numW V ≤ numW A) :
    Calls Tryd.prog 52 #[.slice ya A.length ca, .slice yb V.length cb] w fun e w' => (∃ v, e = .returned v ∧ IsW A.length w' v (numW A - numW V)) ∧ Below w.heap.size w w' := by
  have hlv : V.length ≤ A.length := tidy_len hTV hA hle
  have hCl := nClone_any ya ca A w hIA (by omega)
  obtain ⟨na, hna⟩ : ∃ na, A.length = na := ⟨_, rfl⟩
  obtain ⟨m, hm⟩ : ∃ m, V.length = m := ⟨_, rfl⟩
  have HIV := show Hid (IsN .u64 w (.slice yb m cb) V ∧ V.length = m) from ⟨by rw [← hm]; exact hIV, hm⟩
  have HNA := show Hid (A.length = na) from hna
  rw [hna] at hCl hla hlv
  rw [hm] at hlv
  rw [hna, hm]
  clear hIA hIV hna hm
  go_enter Tryd.func52, Tryd.ntmps52
  go_wp2_with fail
  refine hCl.mono ?_
  rintro e w1 ⟨hcl, hb1⟩
  clear hCl
  rcases hcl with ⟨hA0, y, c, rfl, hyc, hcm⟩ | ⟨g, c, rfl, hR, hg, hc, hcm⟩
  · have hna0 : na = 0 := by rw [← HNA.out, hA0]; rfl
    have hm0 : m = 0 := by omega
    subst hna0 hm0
    have hT := nTakeFrom_none y yb c cb 1 w1 hyc
    have hT' : Calls Tryd.prog 67 #[.slice y 0 c, .slice yb 0 cb, .int .u64 1] w1 fun e w' => e = .returned (.bool false) ∧ w' = w1 := hT
    rw [HNA.out] at *
    go_wp2_with fail
    refine hT'.mono ?_
    rintro e w2 ⟨rfl, rfl⟩
    clear hT hT'
    have hTr := nTrimmed_any y c [] w2 (by
      refine ⟨y, c, rfl, by simp, hcm, ?_⟩
      rcases y with _ | x
      · exact .inl ⟨rfl, rfl, hyc rfl⟩
      · exact .inr ⟨x, rfl, .inl rfl⟩) (by simp)
    have hTr' : Calls Tryd.prog 62 #[.slice y 0 c] w2 fun e w' => e = .returned (.slice y (trimL []).length c) ∧ IsN .u64 w2 (.slice y (trimL []).length c) (trimL []) ∧ w' = w2 := hTr
    have HV0 := show Hid (numW A - numW V = 0) from by unfold Hid; rw [hA0]; simp [numW]
    go_wp2_with fail
    refine hTr'.mono ?_
    rintro e w3 ⟨rfl, hI5, rfl⟩
    have HI5 := show Hid (IsW 0 w3 (.slice y (trimL []).length c) (numW A - numW V)) from by
      unfold Hid
      rw [HV0.out]
      exact isW_trim hI5 (fun _ h => by cases h) rfl (Nat.le_refl _)
    clear hTr hTr' hI5
    go_wp2_with fail
    go_ret
    exact ⟨⟨_, rfl, HI5.out⟩, hb1⟩
  · rw [HNA.out] at hc
    have hT := nTakeFrom_any g 0 na c cb 1 yb V A w1 hR hA (by rw [HNA.out]; omega) (by rw [HIV.out.2]; exact hlv) hc (by omega) hAV (by omega) (fun u hgu => by
      rw [HIV.out.2]
      exact HIV.out.1.later (hb1.grown hgu hb1.size (fun b hb => by obtain rfl : g = b := Option.some.inj hb; exact hg)))
    rw [HIV.out.2] at hT
    have hT' : Calls Tryd.prog 67 #[.slice (some ⟨g, 0, none⟩) na c, .slice yb m cb, .int .u64 1] w1 fun e w' => Took w1 w' g A 0 na V 1 e := hT
    clear hT
    rw [HNA.out]
    go_wp2_with fail
    refine hT'.mono ?_
    rintro e w2 ⟨R, L', k, rfl, _, hW, hE⟩
    clear hT'
    have HS := show Hid (numW L' = numW A - numW V ∧ AllW L' ∧ L'.length = na) from by
      have hl' : L'.length = na := by rw [hW.2.2.1, HNA.out]
      rw [pv_full hl', pv_full HNA.out, Nat.one_mul] at hE
      have h1 := numW_lt hW.2.1
      rw [hl'] at h1
      have hk0 : k = 0 := by
        apply Classical.byContradiction
        intro hn
        have : 1 * 18446744073709551616 ^ na ≤ k * 18446744073709551616 ^ na := Nat.mul_le_mul_right _ (by omega)
        omega
      subst hk0
      exact ⟨by omega, hW.2.1, hl'⟩
    have hb2 : Below w.heap.size w w2 := hb1.grown hW.2.2.2.2 hb1.size (fun b hb => by obtain rfl : g = b := Option.some.inj hb; exact hg)
    have hI2 : IsN .u64 w2 (.slice (some ⟨g, 0, none⟩) L'.length c) L' := by
      refine ⟨some ⟨g, 0, none⟩, c, rfl, by rw [HS.out.2.2]; exact hc, hcm, .inr ⟨_, rfl, .inr ⟨g, 0, rfl, hW.1.lt, fun i q hq => ?_⟩⟩⟩
      rw [Nat.zero_add]
      exact hW.1.cell hq
    have hT := nTrimmed_any (some ⟨g, 0, none⟩) c L' w2 hI2 (by rw [HS.out.2.2]; omega)
    rw [HS.out.2.2] at hT
    clear hE hW hI2
    go_wp2_with fail
    refine hT.mono ?_
    rintro e w5 ⟨rfl, hI5, rfl⟩
    clear hT
    have HI5 := show Hid (IsW na w5 (.slice (some ⟨g, 0, none⟩) (trimL L').length c) (numW A - numW V)) from isW_trim hI5 HS.out.2.1 HS.out.1 (by rw [HS.out.2.2]; exact Nat.le_refl _)
    clear hI5
    go_wp2_with fail
    go_ret
    exact ⟨⟨_, rfl, HI5.out⟩, hb2⟩
end Go.Proofs.YtpcmpeeflnlkpaaDoor

namespace Go.Proofs.YtpcmpeeflnlkpaaDoor
open Go.RowKit Ch
set_option maxRecDepth 100000

/-- A slice of slices of bytes. -/
def IsSl (W : World) (v : Value) (ls : List ByteArray) : Prop := ∃ a cap, v = .slice a ls.length cap ∧ (ls.length = 0 ∨ ∃ b o, a = some ⟨b, o, none⟩ ∧ b < W.heap.size ∧ ∀ i t, ls[i]? = some t → ∃ u, W.cell? ⟨b, o + i, none⟩ = some u ∧ IsBytes W u t)
theorem IsSl.later {W W' : World} {v : Value} {ls : List ByteArray} (h : IsSl W v ls) (hb : Below W.heap.size W W') : IsSl W' v ls := by
  obtain ⟨a, cap, hv, h | ⟨b, o, h1, h2, h3⟩⟩ := h
  · exact ⟨a, cap, hv, .inl h⟩
  · refine ⟨a, cap, hv, .inr ⟨b, o, h1, Nat.lt_of_lt_of_le h2 hb.size, fun i t ht => ?_⟩⟩
    obtain ⟨u, hu, hI⟩ := h3 i t ht
    exact ⟨u, (hb.cell (p := ⟨b, o + i, none⟩) h2).trans hu, hI.later hb⟩
theorem IsSl.one {W : World} {u : Value} {t : ByteArray} (hI : IsBytes W u t) : IsSl (W.alloc (.cells #[u] 22)) (.slice (some ⟨W.heap.size, 0, none⟩) 1 1) [t] := by
  refine ⟨_, 1, rfl, .inr ⟨W.heap.size, 0, rfl, by simp, fun i t' ht => ?_⟩⟩
  rcases i with _ | i
  · simp only [List.getElem?_cons_zero, Option.some.injEq] at ht
    subst ht
    exact ⟨u, block_cell 0 (heap_push_at W _) rfl, hI.alloc _⟩
  · cases ht
theorem IsSl.two {W : World} {u u' : Value} {t t' : ByteArray} (hI : IsBytes W u t) (hI' : IsBytes W u' t') : IsSl (W.alloc (.cells #[u, u'] 22)) (.slice (some ⟨W.heap.size, 0, none⟩) 2 2) [t, t'] := by
  refine ⟨_, 2, rfl, .inr ⟨W.heap.size, 0, rfl, by simp, fun i t0 ht => ?_⟩⟩
  rcases i with _ | _ | i
  · simp only [List.getElem?_cons_zero, Option.some.injEq] at ht
    subst ht
    exact ⟨u, block_cell 0 (heap_push_at W _) rfl, hI.alloc _⟩
  · simp only [List.getElem?_cons_succ, List.getElem?_cons_zero, Option.some.injEq] at ht
    subst ht
    exact ⟨u', block_cell 1 (heap_push_at W _) rfl, hI'.alloc _⟩
  · cases ht
theorem IsSl.three {W : World} {u u' u'' : Value} {t t' t'' : ByteArray} (hI : IsBytes W u t) (hI' : IsBytes W u' t') (hI'' : IsBytes W u'' t'') : IsSl (W.alloc (.cells #[u, u', u''] 22)) (.slice (some ⟨W.heap.size, 0, none⟩) 3 3) [t, t', t''] := by
  have hN := heap_push_at W (.cells #[u, u', u''] 22)
  refine ⟨_, 3, rfl, .inr ⟨W.heap.size, 0, rfl, block_lt hN, fun i z hz => ?_⟩⟩
  rcases i with _ | _ | _ | i
  · simp only [List.getElem?_cons_zero, Option.some.injEq] at hz
    subst hz
    exact ⟨_, block_cell 0 hN rfl, hI.alloc _⟩
  · simp only [List.getElem?_cons_succ, List.getElem?_cons_zero, Option.some.injEq] at hz
    subst hz
    exact ⟨_, block_cell 1 hN rfl, hI'.alloc _⟩
  · simp only [List.getElem?_cons_succ, List.getElem?_cons_zero, Option.some.injEq] at hz
    subst hz
    exact ⟨_, block_cell 2 hN rfl, hI''.alloc _⟩
  · cases hz
end Go.Proofs.YtpcmpeeflnlkpaaDoor

namespace Go.Proofs.YtpcmpeeflnlkpaaDoor
open Go.RowKit Ch
set_option maxRecDepth 100000

def longAny (ls : List ByteArray) : Bool := ls.any fun t => decide (1024 < t.size)
set_option maxHeartbeats 2000000 in
theorem nAnyLong_any (v : Value) (ls : List ByteArray) (w : World) (hI : IsSl w v ls) (hn : ls.length ≤ 1000) :
    Calls Tryd.prog 41 #[v] w fun e w' => e = .returned (.bool (longAny ls)) ∧ w' = w := by
  obtain ⟨a, cap, rfl, hrest⟩ := hI
  obtain ⟨n, hne⟩ : ∃ n, ls.length = n := ⟨_, rfl⟩
  have HN := show Hid (ls.length = n) from hne
  rw [hne] at hrest hn ⊢
  have HI := show Hid (n = 0 ∨ ∃ b o, a = some ⟨b, o, none⟩ ∧ b < w.heap.size ∧ ∀ i t, ls[i]? = some t → ∃ u, w.cell? ⟨b, o + i, none⟩ = some u ∧ IsBytes w u t) from hrest
  clear hne hrest
  go_enter Tryd.func41, Tryd.ntmps41
  go_wp2_with fail
  go_loopw [7] (fun t wr => ∃ i : Nat, i ≤ n ∧ t = .int .i64 (i : Int) ∧ Hid (longAny (ls.take i) = false) ∧ wr = w) (fun t _ => n - (intOf t).toNat)
  case atStart => exact ⟨0, by omega, rfl, by unfold Hid; rfl, rfl⟩
  case round =>
    obtain ⟨i, hi, rfl, hall, rfl⟩ := hrel
    by_cases hlt : i < n
    · have hlt2 : (i : Int) < (n : Int) := by omega
      obtain ⟨t, ht⟩ : ∃ t, ls[i]? = some t := ⟨_, List.getElem?_eq_getElem (by rw [HN.out]; exact hlt)⟩
      obtain ⟨b, o, rfl, hbl, hcell⟩ := HI.out.resolve_left (by omega)
      obtain ⟨u, gU, hT⟩ := hcell i t ht
      obtain ⟨xt, ct, rfl, hx1⟩ := id hT
      clear hx1 hcell
      have HT := show Hid (ls[i]? = some t) from ht
      clear ht hT
      by_cases h1k : 1024 < t.size
      · have h1k2 : (1024 : Int) < (t.size : Int) := by omega
        have HR := show Hid (longAny ls = true) from by
          unfold Hid longAny
          rw [List.any_eq_true]
          exact ⟨t, List.mem_of_getElem? HT.out, by simpa using h1k⟩
        go_wp2_with fail
        go_ret
        exact ⟨by rw [HR.out]; rfl, rfl⟩
      · have h1k2 : ¬ (1024 : Int) < (t.size : Int) := by omega
        have HR := show Hid (longAny (ls.take (i + 1)) = false) from by
          have h := hall.out
          unfold Hid
          unfold longAny at h ⊢
          rw [List.take_add_one, HT.out, List.any_append, h]
          simpa using h1k
        go_wp2_with fail
        go_roundw
        case rel => exact ⟨i + 1, by omega, by go_num, HR.out, trivial⟩
        case measure => simp [intOf]; omega
    · have hlt2 : ¬ (i : Int) < (n : Int) := by omega
      obtain rfl : i = n := by omega
      have HR := show Hid (longAny ls = false) from by
        have h := hall.out
        rw [List.take_of_length_le (by rw [HN.out]; exact Nat.le_refl _)] at h
        exact h
      go_wp2_with fail
      go_ret
      exact ⟨by rw [HR.out]; rfl, rfl⟩
end Go.Proofs.YtpcmpeeflnlkpaaDoor
