/-
  Package nat: a difference of words.
-/
import Derived.Test.YthfgbcpppamboaaNSum
namespace Go.Proofs.Ythfgbcpppamboaa
open Go.RowKit Ch
set_option maxRecDepth 100000

set_option maxHeartbeats 1000000 in
theorem nTakeFrom_none (y yb : Option Addr) (c cb t : Nat) (w : World) (hc : y = none → c = 0) :
    Calls Try.prog 53 #[.slice y 0 c, .slice yb 0 cb, .int .u64 (t : Int)] w fun e w' => e = .returned (.bool false) ∧ w' = w := by
  rcases y with _ | a
  · obtain rfl := hc rfl
    go_enter Try.func53, Try.ntmps53
    go_wp2_with fail
    go_loopw [21, 7] (fun p q wr => p = .int .i64 0 ∧ q = .int .u64 0 ∧ wr = w) (fun _ _ _ => 0)
    case atStart => exact ⟨rfl, rfl, rfl⟩
    case round =>
      obtain ⟨rfl, rfl, rfl⟩ := hrel
      go_wp2_with fail
      go_loopw [14, 7] (fun p q wr' => p = .int .i64 0 ∧ q = .int .u64 0 ∧ wr' = wr) (fun _ _ _ => 0)
      case atStart => exact ⟨rfl, rfl, rfl⟩
      case round =>
        obtain ⟨rfl, rfl, rfl⟩ := hrel
        go_wp2_with fail
        go_ret
        exact ⟨rfl, rfl⟩
  · have h0 : (0 : Int) ≤ (c : Int) := by omega
    go_enter Try.func53, Try.ntmps53
    go_wp2_with fail
    go_loopw [21, 7] (fun p q wr => p = .int .i64 0 ∧ q = .int .u64 0 ∧ wr = w) (fun _ _ _ => 0)
    case atStart => exact ⟨rfl, rfl, rfl⟩
    case round =>
      obtain ⟨rfl, rfl, rfl⟩ := hrel
      go_wp2_with fail
      go_loopw [14, 7] (fun p q wr' => p = .int .i64 0 ∧ q = .int .u64 0 ∧ wr' = wr) (fun _ _ _ => 0)
      case atStart => exact ⟨rfl, rfl, rfl⟩
      case round =>
        obtain ⟨rfl, rfl, rfl⟩ := hrel
        go_wp2_with fail
        go_ret
        exact ⟨rfl, rfl⟩
/-- What a clone is. -/
def Cloned (w w' : World) (A : List Nat) (e : Ending) : Prop := (A = [] ∧ ∃ y c, e = .returned (.slice y 0 c) ∧ (y = none → c = 0) ∧ c ≤ maxLen) ∨ ∃ g c, e = .returned (.slice (some ⟨g, 0, none⟩) A.length c) ∧ RowN .u64 w' g A ∧ w.heap.size ≤ g ∧ A.length ≤ c ∧ c ≤ maxLen
theorem cloned_own {w w' : World} {A : List Nat} {v : Value} {base : Nat} {e : TypeId} (h : w'.ownsRow base e 1 v A.length (kc .u64 A)) (hb : w.heap.size ≤ base) : Cloned w w' A (.returned v) := by
  rcases h.2 with ⟨hv, h0⟩ | ⟨g, cap, cur, hv, hg, hh, hc, hcx, _, hcur⟩
  · exact .inl ⟨List.eq_nil_of_length_eq_zero h0, none, 0, by rw [hv], fun _ => rfl, by unfold maxLen; omega⟩
  · refine .inr ⟨g, cap, by rw [hv], ?_, by omega, hc, hcx⟩
    rw [hv] at h
    exact (RowN.own h).1
set_option maxHeartbeats 1000000 in
theorem nClone_any (y : Option Addr) (c : Nat) (A : List Nat) (w : World) (hI : IsN .u64 w (.slice y A.length c) A) (hl : A.length ≤ 100000) :
    Calls Try.prog 52 #[.slice y A.length c] w fun e w' => Cloned w w' A e ∧ Below w.heap.size w w' := by
  obtain ⟨n, hn⟩ : ∃ n, A.length = n := ⟨_, rfl⟩
  have HN := show Hid (A.length = n) from hn
  have q48 : ∀ (w : World) (a : Option Addr) (n c n' c' : Nat), (binOp .eql 48 (.slice a n c) (.slice none n' c')).run Try.prog w = .ok (.bool a.isNone) w := fun w a n c n' c' => Lib.run_eql_slice_nil w _ 59 a n c n' c' (by kernel_rfl)
  rcases y with _ | a
  · have h0 : n = 0 ∧ c = 0 := by
      obtain ⟨_, _, hv, _, _, ⟨_, h1, h2⟩ | ⟨_, h3, _⟩⟩ := hI
      · simp only [Value.slice.injEq] at hv
        exact ⟨by omega, by omega⟩
      · simp only [Value.slice.injEq] at hv
        rw [← hv.1] at h3
        cases h3
    obtain ⟨rfl, rfl⟩ := h0
    rw [hn]
    have hA0 : A = [] := List.eq_nil_of_length_eq_zero hn
    clear hn
    go_enter Try.func52, Try.ntmps52
    go_wp2_with fail
    go_ret
    exact ⟨.inl ⟨hA0, none, 0, rfl, fun _ => rfl, by unfold maxLen; omega⟩, Below.refl _ _⟩
  · rw [hn] at hI hl ⊢
    clear hn
    have hoe := own_emptyN w w.heap.size 59 (Nat.le_refl _)
    have hIa := hI.alloc (.cells #[] 59)
    have hsz : ([] : List Nat).length + A.length ≤ 1000000 := by rw [HN.out]; simp; omega
    have HE := show Hid ([] ++ A = A) from by unfold Hid; simp
    have HB := show Hid (Below w.heap.size w (w.alloc (.cells #[] 59))) from (Below.refl _ w).alloc (Nat.le_refl _) _
    go_enter Try.func52, Try.ntmps52
    go_wp2_with (at_builtin; go_must (refine wpList_append_ns RW rfl _ _ rfl w.heap.size _ [] rfl hoe _ A rfl hIa A HE hsz (by simp) ?_; intro v4 w4 ho4 hb4))
    go_ret
    exact ⟨cloned_own ho4 (Nat.le_refl _), HB.out.trans hb4⟩
set_option maxHeartbeats 2000000 in
theorem nDifference_any (ya yb : Option Addr) (ca cb : Nat) (A V : List Nat) (w : World) (hIA : IsN .u64 w (.slice ya A.length ca) A) (hIV : IsN .u64 w (.slice yb V.length cb) V) (hA : AllW A) (hAV : AllW V) (hla : A.length ≤ 50000) (hTV : Tidy V) (hle : numW V ≤ numW A) :
    Calls Try.prog 36 #[.slice ya A.length ca, .slice yb V.length cb] w fun e w' => (∃ v, e = .returned v ∧ IsW A.length w' v (numW A - numW V)) ∧ Below w.heap.size w w' := by
  have hlv : V.length ≤ A.length := tidy_len hTV hA hle
  have hCl := nClone_any ya ca A w hIA (by omega)
  obtain ⟨na, hna⟩ : ∃ na, A.length = na := ⟨_, rfl⟩
  obtain ⟨m, hm⟩ : ∃ m, V.length = m := ⟨_, rfl⟩
  have HIV := show Hid (IsN .u64 w (.slice yb m cb) V ∧ V.length = m) from ⟨by rw [← hm]; exact hIV, hm⟩
  have HNA := show Hid (A.length = na) from hna
  rw [hna] at hCl hla hlv
  rw [hm] at hlv
  rw [hna, hm]
  clear hIA hIV hna hm
  go_enter Try.func36, Try.ntmps36
  go_wp2_with fail
  refine hCl.mono ?_
  rintro e w1 ⟨hcl, hb1⟩
  clear hCl
  rcases hcl with ⟨hA0, y, c, rfl, hyc, hcm⟩ | ⟨g, c, rfl, hR, hg, hc, hcm⟩
  · have hna0 : na = 0 := by rw [← HNA.out, hA0]; rfl
    have hm0 : m = 0 := by omega
    subst hna0 hm0
    have hT := nTakeFrom_none y yb c cb 1 w1 hyc
    have hT' : Calls Try.prog 53 #[.slice y 0 c, .slice yb 0 cb, .int .u64 1] w1 fun e w' => e = .returned (.bool false) ∧ w' = w1 := hT
    rw [HNA.out] at *
    go_wp2_with fail
    refine hT'.mono ?_
    rintro e w2 ⟨rfl, rfl⟩
    clear hT hT'
    have hTr := nTrimmed_any y c [] w2 (by
      refine ⟨y, c, rfl, by simp, hcm, ?_⟩
      rcases y with _ | x
      · exact .inl ⟨rfl, rfl, hyc rfl⟩
      · exact .inr ⟨x, rfl, .inl rfl⟩) (by simp)
    have hTr' : Calls Try.prog 49 #[.slice y 0 c] w2 fun e w' => e = .returned (.slice y (trimL []).length c) ∧ IsN .u64 w2 (.slice y (trimL []).length c) (trimL []) ∧ w' = w2 := hTr
    have HV0 := show Hid (numW A - numW V = 0) from by unfold Hid; rw [hA0]; simp [numW]
    go_wp2_with fail
    refine hTr'.mono ?_
    rintro e w3 ⟨rfl, hI5, rfl⟩
    have HI5 := show Hid (IsW 0 w3 (.slice y (trimL []).length c) (numW A - numW V)) from by
      unfold Hid
      rw [HV0.out]
      exact isW_trim hI5 (fun _ h => by cases h) rfl (Nat.le_refl _)
    clear hTr hTr' hI5
    go_wp2_with fail
    go_ret
    exact ⟨⟨_, rfl, HI5.out⟩, hb1⟩
  · rw [HNA.out] at hc
    have hT := nTakeFrom_any g 0 na c cb 1 yb V A w1 hR hA (by rw [HNA.out]; omega) (by rw [HIV.out.2]; exact hlv) hc (by omega) hAV (by omega) (fun u hgu => by
      rw [HIV.out.2]
      exact HIV.out.1.later (hb1.grown hgu hb1.size (fun b hb => by obtain rfl : g = b := Option.some.inj hb; exact hg)))
    rw [HIV.out.2] at hT
    have hT' : Calls Try.prog 53 #[.slice (some ⟨g, 0, none⟩) na c, .slice yb m cb, .int .u64 1] w1 fun e w' => Took w1 w' g A 0 na V 1 e := hT
    clear hT
    rw [HNA.out]
    go_wp2_with fail
    refine hT'.mono ?_
    rintro e w2 ⟨R, L', k, rfl, _, hW, hE⟩
    clear hT'
    have HS := show Hid (numW L' = numW A - numW V ∧ AllW L' ∧ L'.length = na) from by
      have hl' : L'.length = na := by rw [hW.2.2.1, HNA.out]
      rw [pv_full hl', pv_full HNA.out, Nat.one_mul] at hE
      have h1 := numW_lt hW.2.1
      rw [hl'] at h1
      have hk0 : k = 0 := by
        apply Classical.byContradiction
        intro hn
        have : 1 * 18446744073709551616 ^ na ≤ k * 18446744073709551616 ^ na := Nat.mul_le_mul_right _ (by omega)
        omega
      subst hk0
      exact ⟨by omega, hW.2.1, hl'⟩
    have hb2 : Below w.heap.size w w2 := hb1.grown hW.2.2.2.2 hb1.size (fun b hb => by obtain rfl : g = b := Option.some.inj hb; exact hg)
    have hI2 : IsN .u64 w2 (.slice (some ⟨g, 0, none⟩) L'.length c) L' := by
      refine ⟨some ⟨g, 0, none⟩, c, rfl, by rw [HS.out.2.2]; exact hc, hcm, .inr ⟨_, rfl, .inr ⟨g, 0, rfl, hW.1.lt, fun i q hq => ?_⟩⟩⟩
      rw [Nat.zero_add]
      exact hW.1.cell hq
    have hT := nTrimmed_any (some ⟨g, 0, none⟩) c L' w2 hI2 (by rw [HS.out.2.2]; omega)
    rw [HS.out.2.2] at hT
    clear hE hW hI2
    go_wp2_with fail
    refine hT.mono ?_
    rintro e w5 ⟨rfl, hI5, rfl⟩
    clear hT
    have HI5 := show Hid (IsW na w5 (.slice (some ⟨g, 0, none⟩) (trimL L').length c) (numW A - numW V)) from isW_trim hI5 HS.out.2.1 HS.out.1 (by rw [HS.out.2.2]; exact Nat.le_refl _)
    clear hI5
    go_wp2_with fail
    go_ret
    exact ⟨⟨_, rfl, HI5.out⟩, hb2⟩
end Go.Proofs.Ythfgbcpppamboaa
