/-
  NatLong, walked.
-/
import Derived.Test.YthfgbcpppamboaaLNRings
namespace Go.Proofs.Ythfgbcpppamboaa
open Go.RowKit Ch
set_option maxRecDepth 100000

theorem rem50 (n : Int) : ∃ k : Nat, k < 50 ∧ (wrap64 (n.tmod 50 + 50)).tmod 50 = (k : Int) := by
  have h1 := Int.tmod_lt_of_pos n (show (0 : Int) < 50 by omega)
  have h2 : -50 < n.tmod 50 := Int.lt_tmod_of_pos n (by omega)
  rw [Go.IntWalk.wrap64_in _ (by omega), Int.tmod_eq_emod_of_nonneg (by omega)]
  refine ⟨((n.tmod 50 + 50) % 50).toNat, by omega, by omega⟩
/-- So many noughts. -/
def noughts (n : Nat) : ByteArray := ⟨(List.replicate n 0).toArray⟩
theorem noughts_size (n : Nat) : (noughts n).size = n := by
  unfold noughts
  rw [size_of_list, List.length_replicate]
theorem noughts_vals (n : Nat) : byteVals (noughts n) = kc .u8 (List.replicate n 0) := by
  unfold byteVals noughts kc
  rw [List.toList_toArray, List.map_replicate, List.map_replicate]
  rfl
theorem noughts_num (n : Nat) : numB (noughts n).data.toList = 0 := by
  unfold noughts
  rw [List.toList_toArray]
  induction n with
  | zero => rfl
  | succ n ih => rw [List.replicate_succ, numB_cons, ih]; simp
theorem isB_nil (w : World) : IsBytes w (.slice none 0 0) ByteArray.empty := ⟨none, 0, rfl, Nat.le_refl _, by unfold maxLen; omega, .inl ⟨rfl, rfl, rfl⟩⟩
/-- The first ones of noughts. -/
theorem noughts_part {w : World} {g n m : Nat} (h : IsBytes w (.slice (some ⟨g, 0, none⟩) n n) (noughts n)) (hm : m ≤ n) (h0 : 0 < n) : IsBytes w (.slice (some ⟨g, 0, none⟩) m n) (noughts m) := by
  obtain ⟨a, cap, hv, hc, hx, hr⟩ := h
  rw [noughts_size] at hv hc hr
  simp only [Value.slice.injEq, true_and] at hv
  obtain ⟨rfl, rfl⟩ := hv
  refine ⟨_, _, by rw [noughts_size], by rw [noughts_size]; exact hm, hx, .inr ⟨_, rfl, ?_⟩⟩
  rcases hr with ⟨h1, _⟩ | ⟨y, h1, h2 | ⟨b, o, h2, h3, h4⟩⟩
  · cases h1
  · omega
  · obtain rfl := Option.some.inj h1
    refine .inr ⟨b, o, h2, h3, fun i hi => ?_⟩
    rw [noughts_size] at hi
    have h5 := h4 i (by rw [noughts_size]; omega)
    have e : ∀ k j, j < k → byte (noughts k) j = 0 := by
      intro k j hj
      rw [byte_list]
      unfold noughts
      rw [List.toList_toArray, List.getElem?_replicate, if_pos hj]
      rfl
    rw [Nat.zero_add] at hi
    rw [e m _ (by omega)]
    rw [e n _ (by omega)] at h5
    exact h5
def semLnL (x zm : Option Addr) (cx km g ln A : Nat) (s S : ByteArray) : Nat → Value → World → Prop := fun ix v u => match ix with
  | 0 => v = .int .i64 12
  | 1 => v = .bool true
  | 2 => v = .bool true
  | 3 => v = .int .i64 12
  | 4 => v = .bool true
  | 5 => v = .bool true
  | 6 => v = .bool true
  | 7 => v = .int .i64 12
  | 8 => v = .bool true
  | 9 => v = .bool true
  | 10 => v = .bool true
  | 11 => v = .int .i64 12
  | 12 => v = .bool true
  | 13 => v = .bool true
  | 14 => v = .bool true
  | 15 => v = .int .i64 12
  | 16 => v = .bool true
  | 17 => v = .bool true
  | 18 => v = .bool true
  | 19 => v = .int .i64 12
  | 20 => v = .bool true
  | 21 => v = .bool true
  | 22 => v = .bool true
  | 23 => v = .int .i64 12
  | 24 => v = .bool true
  | 25 => v = .bool true
  | 26 => v = .bool true
  | 27 => v = .int .i64 0
  | 28 => v = .bool true
  | 29 => v = .bool true
  | 30 => v = .bool true
  | 31 => v = .int .i64 0
  | 32 => v = .bool true
  | 33 => v = .bool true
  | 34 => v = .bool true
  | 35 => v = .slice zm S.size km
  | 36 => v = .string S
  | 37 => v = .slice x s.size cx
  | 38 => NumAt u v S A ∧ ∃ y c, v = .slice y S.size c
  | 39 => v = .string S
  | 40 => v = .bool true
  | 41 => v = .bool true
  | 42 => v = .bool true
  | 43 => v = .slice (some ⟨g, 0, none⟩) ln ln
  | 44 => ∃ y c, v = .slice y 0 c
  | 45 => v = .int .i64 0
  | 46 => v = .bool true
  | 47 => v = .bool true
  | 48 => v = .bool true
  | 49 => v = .slice (some ⟨g, 0, none⟩) ln ln
  | 50 => v = .int .i64 0
  | 51 => v = .bool true
  | 52 => v = .bool true
  | 53 => v = .bool true
  | _ => True
set_option maxHeartbeats 8000000 in
theorem lnLong_any (x : Option Addr) (cx : Nat) (s : ByteArray) (more : Int) (w : World) (hS : IsBytes w (.slice x s.size cx) s) :
    Calls Try.prog 9 #[.slice x s.size cx, .int .i64 more] w fun e w' => e = .returned (.bool true) ∧ Below w.heap.size w w' := by
  have HU := show Hid (∀ u, Below w.heap.size w u → IsBytes u (.slice x s.size cx) s ∧ Below w.heap.size w u) from fun u hu => ⟨hS.later hu, hu⟩
  clear hS
  obtain ⟨k0, hk0, ek⟩ := rem50 more
  obtain ⟨k1, hk1⟩ : ∃ a, 1 + k0 = a := ⟨_, rfl⟩
  obtain ⟨ln, hln⟩ : ∃ a, 1024 + k1 = a := ⟨_, rfl⟩
  have hk1I : (1 : Int) + (k0 : Int) = (k1 : Int) := by omega
  have hlnI : (1024 : Int) + (k1 : Int) = (ln : Int) := by omega
  have hk1w : IntKind.i64.wrap (k1 : Int) = (k1 : Int) := by rw [IntKind.wrap_i64]; omega
  have hlnw : IntKind.i64.wrap (ln : Int) = (ln : Int) := by rw [IntKind.wrap_i64]; omega
  have hlg : 1024 < ln := by omega
  have hlgI : (1024 : Int) ≤ (ln : Int) := by omega
  have hlb : ln ≤ 2000 := by omega
  clear hk1 hln
  go_enter Try.func9, Try.ntmps9
  by_cases hg0 : 50 < s.size
  · have hi0 : (50 : Int) < (s.size : Int) := by omega
    clear HU
    go_wp2_with fail
    refine (lnAwake_any w).mono ?_
    rintro e w1 ⟨rfl, hb1⟩
    go_wp2_with fail
    refine (lnAwake_any w1).mono ?_
    rintro e w2 ⟨rfl, hb2⟩
    have HF := show Hid (Below w.heap.size w w2) from bl2 hb1 hb2
    clear hb1 hb2
    go_wp2_with fail
    go_ret
    exact ⟨rfl, HF.out⟩
  have hi0 : ¬ (50 : Int) < (s.size : Int) := by omega
  obtain ⟨A, hA⟩ : ∃ A, numB s.data.toList = A := ⟨_, rfl⟩
  have HA := show Hid (numB s.data.toList = A) from hA
  have hs1 : s.size ≤ 1024 := by omega
  clear hA
  go_wp2_with fail
  refine (lnAwake_any w).mono ?_
  rintro e w1 ⟨rfl, hb1⟩
  go_wp2_with (at_make; go_must (refine wpList_make_n R8 w1 rfl _ _ rfl .i64 .i64 _ _ ln rfl rfl rfl rfl (by omega) ?_; intro w2 ho2 hb2))
  obtain ⟨g, hg⟩ : ∃ g, w1.heap.size = g := ⟨_, rfl⟩
  rw [hg]
  have HZ := show Hid (∀ u, Below w2.heap.size w2 u → IsBytes u (.slice x s.size cx) s ∧ IsBytes u (.slice (some ⟨g, 0, none⟩) ln ln) (noughts ln) ∧ Below w.heap.size w u) from fun u hu => by
    have h1 := bl2 hb1 (bl2 hb2 hu)
    have h2 : IsBytes w2 (.slice (some ⟨w1.heap.size, 0, none⟩) ln ln) (noughts ln) := own_bytes (base := w1.heap.size) (by rw [noughts_vals, noughts_size]; rw [List.length_replicate] at ho2; exact ho2)
    rw [hg] at h2
    exact ⟨(HU.out u h1).1, h2.later hu, (HU.out u h1).2⟩
  have hi2 : Below w2.heap.size w2 w2 := Below.refl _ _
  have hl1 : longAny [noughts ln, s] = true := by simp [longAny, noughts_size]; omega
  have hl2 : longAny [s, noughts ln] = true := by simp [longAny, noughts_size]; omega
  have hl3 : longAny [noughts ln, noughts ln] = true := by simp [longAny, noughts_size]; omega
  have hl4 : longAny [noughts ln, ByteArray.empty] = true := by simp [longAny, noughts_size]; omega
  have hl5 : longAny [s, noughts ln, ByteArray.empty] = true := by simp [longAny, noughts_size]; omega
  have HLN := show Hid (longAny [noughts ln, s] = true ∧ longAny [s, noughts ln] = true ∧ longAny [noughts ln, noughts ln] = true ∧ longAny [noughts ln, ByteArray.empty] = true ∧ longAny [s, noughts ln, ByteArray.empty] = true) from ⟨hl1, hl2, hl3, hl4, hl5⟩
  have HSZ := show Hid (∀ u, IsBytes u (.slice (some ⟨g, 0, none⟩) ln ln) (noughts ln) → IsBytes u (.slice (some ⟨g, 0, none⟩) (noughts ln).size ln) (noughts ln)) from fun u h => by rw [noughts_size]; exact h
  clear hb1 hb2 ho2 hg HU hl1 hl2 hl3 hl4 hl5
  have hX2 := nAdd_long _ _ ln cx (noughts ln) s w2 (HSZ.out _ (HZ.out w2 hi2).2.1) (HZ.out w2 hi2).1 HLN.out.1
  rw [noughts_size] at hX2
  skip
  go_wp2_with fail
  refine hX2.mono ?_
  rintro e w3 ⟨rfl, hb3⟩
  clear hX2
  have hi3 := bl2 hi2 hb3
  clear hb3
  have hX3 := nSub_long _ _ cx ln s (noughts ln) w3 (HZ.out w3 hi3).1 (HSZ.out _ (HZ.out w3 hi3).2.1) HLN.out.2.1
  rw [noughts_size] at hX3
  skip
  go_wp2_with fail
  refine hX3.mono ?_
  rintro e w4 ⟨rfl, hb4⟩
  clear hX3
  have hi4 := bl2 hi3 hb4
  clear hb4
  have hX4 := nMul_long _ _ ln ln (noughts ln) (noughts ln) w4 (HSZ.out _ (HZ.out w4 hi4).2.1) (HSZ.out _ (HZ.out w4 hi4).2.1) HLN.out.2.2.1
  rw [noughts_size] at hX4
  skip
  go_wp2_with fail
  refine hX4.mono ?_
  rintro e w5 ⟨rfl, hb5⟩
  clear hX4
  have hi5 := bl2 hi4 hb5
  clear hb5
  have hX5 := nDiv_long _ _ ln 0 (noughts ln) ByteArray.empty w5 (HSZ.out _ (HZ.out w5 hi5).2.1) (isB_nil w5) HLN.out.2.2.2.1
  rw [noughts_size] at hX5
  replace hX5 := show Calls Try.prog 23 #[.slice (some ⟨g, 0, none⟩) ln ln, .slice none 0 0] w5 _ from hX5
  go_wp2_with fail
  refine hX5.mono ?_
  rintro e w6 ⟨rfl, hb6⟩
  clear hX5
  have hi6 := bl2 hi5 hb6
  clear hb6
  have hX6 := nExp_long _ _ _ cx ln 0 s (noughts ln) ByteArray.empty w6 (HZ.out w6 hi6).1 (HSZ.out _ (HZ.out w6 hi6).2.1) (isB_nil w6) HLN.out.2.2.2.2
  rw [noughts_size] at hX6
  replace hX6 := show Calls Try.prog 25 #[.slice x s.size cx, .slice (some ⟨g, 0, none⟩) ln ln, .slice none 0 0] w6 _ from hX6
  go_wp2_with fail
  refine hX6.mono ?_
  rintro e w7 ⟨rfl, hb7⟩
  clear hX6
  have hi7 := bl2 hi6 hb7
  clear hb7
  have hX7 := nGcd_long _ _ cx ln s (noughts ln) w7 (HZ.out w7 hi7).1 (HSZ.out _ (HZ.out w7 hi7).2.1) HLN.out.2.1
  rw [noughts_size] at hX7
  skip
  go_wp2_with fail
  refine hX7.mono ?_
  rintro e w8 ⟨rfl, hb8⟩
  clear hX7
  have hi8 := bl2 hi7 hb8
  clear hb8
  have hX8 := nInverse_long _ _ ln 0 (noughts ln) ByteArray.empty w8 (HSZ.out _ (HZ.out w8 hi8).2.1) (isB_nil w8) HLN.out.2.2.2.1
  rw [noughts_size] at hX8
  replace hX8 := show Calls Try.prog 29 #[.slice (some ⟨g, 0, none⟩) ln ln, .slice none 0 0] w8 _ from hX8
  go_wp2_with fail
  refine hX8.mono ?_
  rintro e w9 ⟨rfl, hb9⟩
  clear hX8
  have hi9 := bl2 hi8 hb9
  clear hb9
  have hN1 := nAddS (some ⟨g, 0, none⟩) x ln cx (noughts 1024) s w9 (by rw [noughts_size]; exact noughts_part (HZ.out w9 hi9).2.1 (by omega) (by omega)) (HZ.out w9 hi9).1 (by rw [noughts_size]; omega) hs1
  rw [noughts_size, noughts_num, HA.out, Nat.zero_add] at hN1
  go_wp2_with fail
  refine hN1.mono ?_
  rintro e w10 ⟨S, zm, km, rfl, nm, hb10⟩
  clear hN1
  have hi10 := bl2 hi9 hb10
  have HF := show Hid (∀ u, Below w10.drew.heap.size w10.drew u → Below w.heap.size w u) from fun u hu => (HZ.out u (below_drew hi10 hu)).2.2
  have HU := show Hid (∀ u, Below w10.drew.heap.size w10.drew u → IsBytes u (.slice x s.size cx) s ∧ IsBytes u (.slice zm S.size km) S ∧ IsBytes u (.slice (some ⟨g, 0, none⟩) ln ln) (noughts ln) ∧ bareL S.data.toList = S.data.toList ∧ numB S.data.toList = A) from fun u hu => ⟨(HZ.out u (below_drew hi10 hu)).1, nm.1.later (below_drew (Below.refl _ _) hu), (HZ.out u (below_drew hi10 hu)).2.1, nm.2⟩
  have tS : (S.toList == S.toList) = true := by simp
  clear hb10 nm hi2 hi3 hi4 hi5 hi6 hi7 hi8 hi9 hi10 HZ HLN HSZ
  go_wp2_with fail
  refine free_walk (Sem := semLnL x zm cx km g ln A s S) rfl (n := 165) (by kernel_rfl) rfl (by kernel_rfl) ?_ ?_ ?_
  · intro ix v u u' h hb
    match ix, h with
    | 0, h => exact h
    | 1, h => exact h
    | 2, h => exact h
    | 3, h => exact h
    | 4, h => exact h
    | 5, h => exact h
    | 6, h => exact h
    | 7, h => exact h
    | 8, h => exact h
    | 9, h => exact h
    | 10, h => exact h
    | 11, h => exact h
    | 12, h => exact h
    | 13, h => exact h
    | 14, h => exact h
    | 15, h => exact h
    | 16, h => exact h
    | 17, h => exact h
    | 18, h => exact h
    | 19, h => exact h
    | 20, h => exact h
    | 21, h => exact h
    | 22, h => exact h
    | 23, h => exact h
    | 24, h => exact h
    | 25, h => exact h
    | 26, h => exact h
    | 27, h => exact h
    | 28, h => exact h
    | 29, h => exact h
    | 30, h => exact h
    | 31, h => exact h
    | 32, h => exact h
    | 33, h => exact h
    | 34, h => exact h
    | 35, h => exact h
    | 36, h => exact h
    | 37, h => exact h
    | 38, h => exact ⟨NumAt.later h.1 hb, h.2⟩
    | 39, h => exact h
    | 40, h => exact h
    | 41, h => exact h
    | 42, h => exact h
    | 43, h => exact h
    | 44, h => exact h
    | 45, h => exact h
    | 46, h => exact h
    | 47, h => exact h
    | 48, h => exact h
    | 49, h => exact h
    | 50, h => exact h
    | 51, h => exact h
    | 52, h => exact h
    | 53, h => exact h
    | _ + 54, _ => exact trivial
  · intro ix o a u ho hF hbu
    match ix, ho, hF with
    | 0, ho, hF =>
      obtain rfl := Option.some.inj ho
      have h8 : a.tmps[8]? = some (.int .i64 12) := (hF.out 8 rfl).trans rfl
      refine free_step rfl (by rfl) (fun K' hK => ?_)
      go_simp
      exact hK.out _ _ rfl (Below.refl _ _)
    | 1, ho, hF =>
      obtain rfl := Option.some.inj ho
      obtain ⟨v112, h112, s112⟩ := hF.dep 0 112 rfl rfl
      obtain rfl : v112 = .int .i64 12 := s112
      refine free_step rfl (by rfl) (fun K' hK => ?_)
      go_simp
      exact hK.out _ _ rfl (Below.refl _ _)
    | 2, ho, hF =>
      obtain rfl := Option.some.inj ho
      obtain ⟨v113, h113, s113⟩ := hF.dep 1 113 rfl rfl
      obtain rfl : v113 = .bool true := s113
      refine free_step rfl (by rfl) (fun K' hK => ?_)
      go_simp
      exact hK.out _ _ rfl (Below.refl _ _)
    | 3, ho, hF =>
      obtain rfl := Option.some.inj ho
      have h10 : a.tmps[10]? = some (.int .i64 12) := (hF.out 10 rfl).trans rfl
      obtain ⟨v114, h114, s114⟩ := hF.dep 2 114 rfl rfl
      obtain rfl : v114 = .bool true := s114
      refine free_step rfl (by show (yielded _ a.tmps 2 == some true) = true; unfold yielded; simp [h114]) (fun K' hK => ?_)
      go_simp
      exact hK.out _ _ rfl (Below.refl _ _)
    | 4, ho, hF =>
      obtain rfl := Option.some.inj ho
      obtain ⟨v115, h115, s115⟩ := hF.dep 3 115 rfl rfl
      obtain rfl : v115 = .int .i64 12 := s115
      obtain ⟨v114, h114, s114⟩ := hF.dep 2 114 rfl rfl
      obtain rfl : v114 = .bool true := s114
      refine free_step rfl (by show (yielded _ a.tmps 2 == some true) = true; unfold yielded; simp [h114]) (fun K' hK => ?_)
      go_simp
      exact hK.out _ _ rfl (Below.refl _ _)
    | 5, ho, hF =>
      obtain rfl := Option.some.inj ho
      obtain ⟨v114, h114, s114⟩ := hF.dep 2 114 rfl rfl
      obtain rfl : v114 = .bool true := s114
      obtain ⟨v116, h116, s116⟩ := hF.dep 4 116 rfl rfl
      obtain rfl : v116 = .bool true := s116
      refine free_step rfl (by rfl) (fun K' hK => ?_)
      go_simp
      exact hK.out _ _ rfl (Below.refl _ _)
    | 6, ho, hF =>
      obtain rfl := Option.some.inj ho
      obtain ⟨v117, h117, s117⟩ := hF.dep 5 117 rfl rfl
      obtain rfl : v117 = .bool true := s117
      refine free_step rfl (by rfl) (fun K' hK => ?_)
      go_simp
      exact hK.out _ _ rfl (Below.refl _ _)
    | 7, ho, hF =>
      obtain rfl := Option.some.inj ho
      have h12 : a.tmps[12]? = some (.int .i64 12) := (hF.out 12 rfl).trans rfl
      obtain ⟨v118, h118, s118⟩ := hF.dep 6 118 rfl rfl
      obtain rfl : v118 = .bool true := s118
      refine free_step rfl (by show (yielded _ a.tmps 6 == some true) = true; unfold yielded; simp [h118]) (fun K' hK => ?_)
      go_simp
      exact hK.out _ _ rfl (Below.refl _ _)
    | 8, ho, hF =>
      obtain rfl := Option.some.inj ho
      obtain ⟨v119, h119, s119⟩ := hF.dep 7 119 rfl rfl
      obtain rfl : v119 = .int .i64 12 := s119
      obtain ⟨v118, h118, s118⟩ := hF.dep 6 118 rfl rfl
      obtain rfl : v118 = .bool true := s118
      refine free_step rfl (by show (yielded _ a.tmps 6 == some true) = true; unfold yielded; simp [h118]) (fun K' hK => ?_)
      go_simp
      exact hK.out _ _ rfl (Below.refl _ _)
    | 9, ho, hF =>
      obtain rfl := Option.some.inj ho
      obtain ⟨v118, h118, s118⟩ := hF.dep 6 118 rfl rfl
      obtain rfl : v118 = .bool true := s118
      obtain ⟨v120, h120, s120⟩ := hF.dep 8 120 rfl rfl
      obtain rfl : v120 = .bool true := s120
      refine free_step rfl (by rfl) (fun K' hK => ?_)
      go_simp
      exact hK.out _ _ rfl (Below.refl _ _)
    | 10, ho, hF =>
      obtain rfl := Option.some.inj ho
      obtain ⟨v121, h121, s121⟩ := hF.dep 9 121 rfl rfl
      obtain rfl : v121 = .bool true := s121
      refine free_step rfl (by rfl) (fun K' hK => ?_)
      go_simp
      exact hK.out _ _ rfl (Below.refl _ _)
    | 11, ho, hF =>
      obtain rfl := Option.some.inj ho
      have h15 : a.tmps[15]? = some (.int .i64 12) := (hF.out 15 rfl).trans rfl
      obtain ⟨v122, h122, s122⟩ := hF.dep 10 122 rfl rfl
      obtain rfl : v122 = .bool true := s122
      refine free_step rfl (by show (yielded _ a.tmps 10 == some true) = true; unfold yielded; simp [h122]) (fun K' hK => ?_)
      go_simp
      exact hK.out _ _ rfl (Below.refl _ _)
    | 12, ho, hF =>
      obtain rfl := Option.some.inj ho
      obtain ⟨v123, h123, s123⟩ := hF.dep 11 123 rfl rfl
      obtain rfl : v123 = .int .i64 12 := s123
      obtain ⟨v122, h122, s122⟩ := hF.dep 10 122 rfl rfl
      obtain rfl : v122 = .bool true := s122
      refine free_step rfl (by show (yielded _ a.tmps 10 == some true) = true; unfold yielded; simp [h122]) (fun K' hK => ?_)
      go_simp
      exact hK.out _ _ rfl (Below.refl _ _)
    | 13, ho, hF =>
      obtain rfl := Option.some.inj ho
      obtain ⟨v122, h122, s122⟩ := hF.dep 10 122 rfl rfl
      obtain rfl : v122 = .bool true := s122
      obtain ⟨v124, h124, s124⟩ := hF.dep 12 124 rfl rfl
      obtain rfl : v124 = .bool true := s124
      refine free_step rfl (by rfl) (fun K' hK => ?_)
      go_simp
      exact hK.out _ _ rfl (Below.refl _ _)
    | 14, ho, hF =>
      obtain rfl := Option.some.inj ho
      obtain ⟨v125, h125, s125⟩ := hF.dep 13 125 rfl rfl
      obtain rfl : v125 = .bool true := s125
      refine free_step rfl (by rfl) (fun K' hK => ?_)
      go_simp
      exact hK.out _ _ rfl (Below.refl _ _)
    | 15, ho, hF =>
      obtain rfl := Option.some.inj ho
      have h17 : a.tmps[17]? = some (.int .i64 12) := (hF.out 17 rfl).trans rfl
      obtain ⟨v126, h126, s126⟩ := hF.dep 14 126 rfl rfl
      obtain rfl : v126 = .bool true := s126
      refine free_step rfl (by show (yielded _ a.tmps 14 == some true) = true; unfold yielded; simp [h126]) (fun K' hK => ?_)
      go_simp
      exact hK.out _ _ rfl (Below.refl _ _)
    | 16, ho, hF =>
      obtain rfl := Option.some.inj ho
      obtain ⟨v127, h127, s127⟩ := hF.dep 15 127 rfl rfl
      obtain rfl : v127 = .int .i64 12 := s127
      obtain ⟨v126, h126, s126⟩ := hF.dep 14 126 rfl rfl
      obtain rfl : v126 = .bool true := s126
      refine free_step rfl (by show (yielded _ a.tmps 14 == some true) = true; unfold yielded; simp [h126]) (fun K' hK => ?_)
      go_simp
      exact hK.out _ _ rfl (Below.refl _ _)
    | 17, ho, hF =>
      obtain rfl := Option.some.inj ho
      obtain ⟨v126, h126, s126⟩ := hF.dep 14 126 rfl rfl
      obtain rfl : v126 = .bool true := s126
      obtain ⟨v128, h128, s128⟩ := hF.dep 16 128 rfl rfl
      obtain rfl : v128 = .bool true := s128
      refine free_step rfl (by rfl) (fun K' hK => ?_)
      go_simp
      exact hK.out _ _ rfl (Below.refl _ _)
    | 18, ho, hF =>
      obtain rfl := Option.some.inj ho
      obtain ⟨v129, h129, s129⟩ := hF.dep 17 129 rfl rfl
      obtain rfl : v129 = .bool true := s129
      refine free_step rfl (by rfl) (fun K' hK => ?_)
      go_simp
      exact hK.out _ _ rfl (Below.refl _ _)
    | 19, ho, hF =>
      obtain rfl := Option.some.inj ho
      have h19 : a.tmps[19]? = some (.int .i64 12) := (hF.out 19 rfl).trans rfl
      obtain ⟨v130, h130, s130⟩ := hF.dep 18 130 rfl rfl
      obtain rfl : v130 = .bool true := s130
      refine free_step rfl (by show (yielded _ a.tmps 18 == some true) = true; unfold yielded; simp [h130]) (fun K' hK => ?_)
      go_simp
      exact hK.out _ _ rfl (Below.refl _ _)
    | 20, ho, hF =>
      obtain rfl := Option.some.inj ho
      obtain ⟨v131, h131, s131⟩ := hF.dep 19 131 rfl rfl
      obtain rfl : v131 = .int .i64 12 := s131
      obtain ⟨v130, h130, s130⟩ := hF.dep 18 130 rfl rfl
      obtain rfl : v130 = .bool true := s130
      refine free_step rfl (by show (yielded _ a.tmps 18 == some true) = true; unfold yielded; simp [h130]) (fun K' hK => ?_)
      go_simp
      exact hK.out _ _ rfl (Below.refl _ _)
    | 21, ho, hF =>
      obtain rfl := Option.some.inj ho
      obtain ⟨v130, h130, s130⟩ := hF.dep 18 130 rfl rfl
      obtain rfl : v130 = .bool true := s130
      obtain ⟨v132, h132, s132⟩ := hF.dep 20 132 rfl rfl
      obtain rfl : v132 = .bool true := s132
      refine free_step rfl (by rfl) (fun K' hK => ?_)
      go_simp
      exact hK.out _ _ rfl (Below.refl _ _)
    | 22, ho, hF =>
      obtain rfl := Option.some.inj ho
      obtain ⟨v133, h133, s133⟩ := hF.dep 21 133 rfl rfl
      obtain rfl : v133 = .bool true := s133
      refine free_step rfl (by rfl) (fun K' hK => ?_)
      go_simp
      exact hK.out _ _ rfl (Below.refl _ _)
    | 23, ho, hF =>
      obtain rfl := Option.some.inj ho
      have h21 : a.tmps[21]? = some (.int .i64 12) := (hF.out 21 rfl).trans rfl
      obtain ⟨v134, h134, s134⟩ := hF.dep 22 134 rfl rfl
      obtain rfl : v134 = .bool true := s134
      refine free_step rfl (by show (yielded _ a.tmps 22 == some true) = true; unfold yielded; simp [h134]) (fun K' hK => ?_)
      go_simp
      exact hK.out _ _ rfl (Below.refl _ _)
    | 24, ho, hF =>
      obtain rfl := Option.some.inj ho
      obtain ⟨v135, h135, s135⟩ := hF.dep 23 135 rfl rfl
      obtain rfl : v135 = .int .i64 12 := s135
      obtain ⟨v134, h134, s134⟩ := hF.dep 22 134 rfl rfl
      obtain rfl : v134 = .bool true := s134
      refine free_step rfl (by show (yielded _ a.tmps 22 == some true) = true; unfold yielded; simp [h134]) (fun K' hK => ?_)
      go_simp
      exact hK.out _ _ rfl (Below.refl _ _)
    | 25, ho, hF =>
      obtain rfl := Option.some.inj ho
      obtain ⟨v134, h134, s134⟩ := hF.dep 22 134 rfl rfl
      obtain rfl : v134 = .bool true := s134
      obtain ⟨v136, h136, s136⟩ := hF.dep 24 136 rfl rfl
      obtain rfl : v136 = .bool true := s136
      refine free_step rfl (by rfl) (fun K' hK => ?_)
      go_simp
      exact hK.out _ _ rfl (Below.refl _ _)
    | 26, ho, hF =>
      obtain rfl := Option.some.inj ho
      obtain ⟨v137, h137, s137⟩ := hF.dep 25 137 rfl rfl
      obtain rfl : v137 = .bool true := s137
      refine free_step rfl (by rfl) (fun K' hK => ?_)
      go_simp
      exact hK.out _ _ rfl (Below.refl _ _)
    | 27, ho, hF =>
      obtain rfl := Option.some.inj ho
      have h22 : a.tmps[22]? = some (.int .i64 0) := (hF.out 22 rfl).trans rfl
      obtain ⟨v138, h138, s138⟩ := hF.dep 26 138 rfl rfl
      obtain rfl : v138 = .bool true := s138
      refine free_step rfl (by show (yielded _ a.tmps 26 == some true) = true; unfold yielded; simp [h138]) (fun K' hK => ?_)
      go_simp
      exact hK.out _ _ rfl (Below.refl _ _)
    | 28, ho, hF =>
      obtain rfl := Option.some.inj ho
      obtain ⟨v139, h139, s139⟩ := hF.dep 27 139 rfl rfl
      obtain rfl : v139 = .int .i64 0 := s139
      obtain ⟨v138, h138, s138⟩ := hF.dep 26 138 rfl rfl
      obtain rfl : v138 = .bool true := s138
      refine free_step rfl (by show (yielded _ a.tmps 26 == some true) = true; unfold yielded; simp [h138]) (fun K' hK => ?_)
      go_simp
      exact hK.out _ _ rfl (Below.refl _ _)
    | 29, ho, hF =>
      obtain rfl := Option.some.inj ho
      obtain ⟨v138, h138, s138⟩ := hF.dep 26 138 rfl rfl
      obtain rfl : v138 = .bool true := s138
      obtain ⟨v140, h140, s140⟩ := hF.dep 28 140 rfl rfl
      obtain rfl : v140 = .bool true := s140
      refine free_step rfl (by rfl) (fun K' hK => ?_)
      go_simp
      exact hK.out _ _ rfl (Below.refl _ _)
    | 30, ho, hF =>
      obtain rfl := Option.some.inj ho
      obtain ⟨v141, h141, s141⟩ := hF.dep 29 141 rfl rfl
      obtain rfl : v141 = .bool true := s141
      refine free_step rfl (by rfl) (fun K' hK => ?_)
      go_simp
      exact hK.out _ _ rfl (Below.refl _ _)
    | 31, ho, hF =>
      obtain rfl := Option.some.inj ho
      have h24 : a.tmps[24]? = some (.int .i64 0) := (hF.out 24 rfl).trans rfl
      obtain ⟨v142, h142, s142⟩ := hF.dep 30 142 rfl rfl
      obtain rfl : v142 = .bool true := s142
      refine free_step rfl (by show (yielded _ a.tmps 30 == some true) = true; unfold yielded; simp [h142]) (fun K' hK => ?_)
      go_simp
      exact hK.out _ _ rfl (Below.refl _ _)
    | 32, ho, hF =>
      obtain rfl := Option.some.inj ho
      obtain ⟨v143, h143, s143⟩ := hF.dep 31 143 rfl rfl
      obtain rfl : v143 = .int .i64 0 := s143
      obtain ⟨v142, h142, s142⟩ := hF.dep 30 142 rfl rfl
      obtain rfl : v142 = .bool true := s142
      refine free_step rfl (by show (yielded _ a.tmps 30 == some true) = true; unfold yielded; simp [h142]) (fun K' hK => ?_)
      go_simp
      exact hK.out _ _ rfl (Below.refl _ _)
    | 33, ho, hF =>
      obtain rfl := Option.some.inj ho
      obtain ⟨v142, h142, s142⟩ := hF.dep 30 142 rfl rfl
      obtain rfl : v142 = .bool true := s142
      obtain ⟨v144, h144, s144⟩ := hF.dep 32 144 rfl rfl
      obtain rfl : v144 = .bool true := s144
      refine free_step rfl (by rfl) (fun K' hK => ?_)
      go_simp
      exact hK.out _ _ rfl (Below.refl _ _)
    | 34, ho, hF =>
      obtain rfl := Option.some.inj ho
      obtain ⟨v145, h145, s145⟩ := hF.dep 33 145 rfl rfl
      obtain rfl : v145 = .bool true := s145
      refine free_step rfl (by rfl) (fun K' hK => ?_)
      go_simp
      exact hK.out _ _ rfl (Below.refl _ _)
    | 35, ho, hF =>
      obtain rfl := Option.some.inj ho
      have h23 : a.tmps[23]? = some (.slice zm S.size km) := (hF.out 23 rfl).trans rfl
      obtain ⟨v146, h146, s146⟩ := hF.dep 34 146 rfl rfl
      obtain rfl : v146 = .bool true := s146
      refine free_step rfl (by show (yielded _ a.tmps 34 == some true) = true; unfold yielded; simp [h146]) (fun K' hK => ?_)
      go_simp
      exact hK.out _ _ rfl (Below.refl _ _)
    | 36, ho, hF =>
      obtain rfl := Option.some.inj ho
      obtain ⟨v147, h147, s147⟩ := hF.dep 35 147 rfl rfl
      obtain rfl : v147 = .slice zm S.size km := s147
      obtain ⟨v146, h146, s146⟩ := hF.dep 34 146 rfl rfl
      obtain rfl : v146 = .bool true := s146
      have hcv := IsBytes.convert (HU.out u hbu).2.1
      refine free_step rfl (by show (yielded _ a.tmps 34 == some true) = true; unfold yielded; simp [h146]) (fun K' hK => ?_)
      go_simp
      exact hK.out _ _ rfl (Below.refl _ _)
    | 37, ho, hF =>
      obtain rfl := Option.some.inj ho
      have h0 : a.tmps[0]? = some (.slice x s.size cx) := (hF.out 0 rfl).trans rfl
      obtain ⟨v146, h146, s146⟩ := hF.dep 34 146 rfl rfl
      obtain rfl : v146 = .bool true := s146
      refine free_step rfl (by show (yielded _ a.tmps 34 == some true) = true; unfold yielded; simp [h146]) (fun K' hK => ?_)
      go_simp
      exact hK.out _ _ rfl (Below.refl _ _)
    | 38, ho, hF =>
      obtain rfl := Option.some.inj ho
      obtain ⟨v149, h149, s149⟩ := hF.dep 37 149 rfl rfl
      obtain rfl : v149 = .slice x s.size cx := s149
      obtain ⟨v146, h146, s146⟩ := hF.dep 34 146 rfl rfl
      obtain rfl : v146 = .bool true := s146
      refine free_step rfl (by show (yielded _ a.tmps 34 == some true) = true; unfold yielded; simp [h146]) (fun K' hK => ?_)
      go_wp2_with fail
      refine (nTrimS x cx s u (HU.out u hbu).1 (by omega)).mono ?_
      rintro e u' ⟨S0, y9, c9, rfl, hn, hb⟩
      obtain rfl : S0 = S := numS_inj ⟨hn.2.1, hn.2.2.trans HA.out⟩ (HU.out u hbu).2.2.2
      rw [HA.out] at hn
      go_simp
      exact hK.out _ _ ⟨hn, _, _, rfl⟩ hb
    | 39, ho, hF =>
      obtain rfl := Option.some.inj ho
      obtain ⟨v150, h150, s150⟩ := hF.dep 38 150 rfl rfl
      replace s150 : NumAt u v150 S A ∧ ∃ y c, v150 = .slice y S.size c := s150
      obtain ⟨v146, h146, s146⟩ := hF.dep 34 146 rfl rfl
      obtain rfl : v146 = .bool true := s146
      obtain ⟨hn7, y7, c7, rfl⟩ := s150
      have hcv := IsBytes.convert hn7.1
      refine free_step rfl (by show (yielded _ a.tmps 34 == some true) = true; unfold yielded; simp [h146]) (fun K' hK => ?_)
      go_simp
      exact hK.out _ _ rfl (Below.refl _ _)
    | 40, ho, hF =>
      obtain rfl := Option.some.inj ho
      obtain ⟨v148, h148, s148⟩ := hF.dep 36 148 rfl rfl
      obtain rfl : v148 = .string S := s148
      obtain ⟨v151, h151, s151⟩ := hF.dep 39 151 rfl rfl
      obtain rfl : v151 = .string S := s151
      obtain ⟨v146, h146, s146⟩ := hF.dep 34 146 rfl rfl
      obtain rfl : v146 = .bool true := s146
      refine free_step rfl (by show (yielded _ a.tmps 34 == some true) = true; unfold yielded; simp [h146]) (fun K' hK => ?_)
      go_simp
      exact hK.out _ _ rfl (Below.refl _ _)
    | 41, ho, hF =>
      obtain rfl := Option.some.inj ho
      obtain ⟨v146, h146, s146⟩ := hF.dep 34 146 rfl rfl
      obtain rfl : v146 = .bool true := s146
      obtain ⟨v152, h152, s152⟩ := hF.dep 40 152 rfl rfl
      obtain rfl : v152 = .bool true := s152
      refine free_step rfl (by rfl) (fun K' hK => ?_)
      go_simp
      exact hK.out _ _ rfl (Below.refl _ _)
    | 42, ho, hF =>
      obtain rfl := Option.some.inj ho
      obtain ⟨v153, h153, s153⟩ := hF.dep 41 153 rfl rfl
      obtain rfl : v153 = .bool true := s153
      refine free_step rfl (by rfl) (fun K' hK => ?_)
      go_simp
      exact hK.out _ _ rfl (Below.refl _ _)
    | 43, ho, hF =>
      obtain rfl := Option.some.inj ho
      have h6 : a.tmps[6]? = some (.slice (some ⟨g, 0, none⟩) ln ln) := (hF.out 6 rfl).trans rfl
      obtain ⟨v154, h154, s154⟩ := hF.dep 42 154 rfl rfl
      obtain rfl : v154 = .bool true := s154
      refine free_step rfl (by show (yielded _ a.tmps 42 == some true) = true; unfold yielded; simp [h154]) (fun K' hK => ?_)
      go_simp
      exact hK.out _ _ rfl (Below.refl _ _)
    | 44, ho, hF =>
      obtain rfl := Option.some.inj ho
      obtain ⟨v155, h155, s155⟩ := hF.dep 43 155 rfl rfl
      obtain rfl : v155 = .slice (some ⟨g, 0, none⟩) ln ln := s155
      obtain ⟨v154, h154, s154⟩ := hF.dep 42 154 rfl rfl
      obtain rfl : v154 = .bool true := s154
      refine free_step rfl (by show (yielded _ a.tmps 42 == some true) = true; unfold yielded; simp [h154]) (fun K' hK => ?_)
      go_wp2_with fail
      have hTr := nTrimS (some ⟨g, 0, none⟩) ln (noughts ln) u (by rw [noughts_size]; exact (HU.out u hbu).2.2.1) (by rw [noughts_size]; omega)
      rw [noughts_size, noughts_num] at hTr
      refine hTr.mono ?_
      rintro e u' ⟨S0, y9, c9, rfl, hn, hb⟩
      have h0 : S0.size = 0 := by
        have := numS_len (k := 0) hn.2 (by decide)
        omega
      rw [h0]
      go_simp
      exact hK.out _ _ ⟨_, _, rfl⟩ hb
    | 45, ho, hF =>
      obtain rfl := Option.some.inj ho
      obtain ⟨v156, h156, s156⟩ := hF.dep 44 156 rfl rfl
      replace s156 : ∃ y c, v156 = .slice y 0 c := s156
      obtain ⟨v154, h154, s154⟩ := hF.dep 42 154 rfl rfl
      obtain rfl : v154 = .bool true := s154
      refine free_step rfl (by show (yielded _ a.tmps 42 == some true) = true; unfold yielded; simp [h154]) (fun K' hK => ?_)
      obtain ⟨y7, c7, rfl⟩ := s156
      go_simp
      exact hK.out _ _ rfl (Below.refl _ _)
    | 46, ho, hF =>
      obtain rfl := Option.some.inj ho
      obtain ⟨v157, h157, s157⟩ := hF.dep 45 157 rfl rfl
      obtain rfl : v157 = .int .i64 0 := s157
      obtain ⟨v154, h154, s154⟩ := hF.dep 42 154 rfl rfl
      obtain rfl : v154 = .bool true := s154
      refine free_step rfl (by show (yielded _ a.tmps 42 == some true) = true; unfold yielded; simp [h154]) (fun K' hK => ?_)
      go_simp
      exact hK.out _ _ rfl (Below.refl _ _)
    | 47, ho, hF =>
      obtain rfl := Option.some.inj ho
      obtain ⟨v154, h154, s154⟩ := hF.dep 42 154 rfl rfl
      obtain rfl : v154 = .bool true := s154
      obtain ⟨v158, h158, s158⟩ := hF.dep 46 158 rfl rfl
      obtain rfl : v158 = .bool true := s158
      refine free_step rfl (by rfl) (fun K' hK => ?_)
      go_simp
      exact hK.out _ _ rfl (Below.refl _ _)
    | 48, ho, hF =>
      obtain rfl := Option.some.inj ho
      obtain ⟨v159, h159, s159⟩ := hF.dep 47 159 rfl rfl
      obtain rfl : v159 = .bool true := s159
      refine free_step rfl (by rfl) (fun K' hK => ?_)
      go_simp
      exact hK.out _ _ rfl (Below.refl _ _)
    | 49, ho, hF =>
      obtain rfl := Option.some.inj ho
      have h6 : a.tmps[6]? = some (.slice (some ⟨g, 0, none⟩) ln ln) := (hF.out 6 rfl).trans rfl
      obtain ⟨v160, h160, s160⟩ := hF.dep 48 160 rfl rfl
      obtain rfl : v160 = .bool true := s160
      refine free_step rfl (by show (yielded _ a.tmps 48 == some true) = true; unfold yielded; simp [h160]) (fun K' hK => ?_)
      go_simp
      exact hK.out _ _ rfl (Below.refl _ _)
    | 50, ho, hF =>
      obtain rfl := Option.some.inj ho
      obtain ⟨v161, h161, s161⟩ := hF.dep 49 161 rfl rfl
      obtain rfl : v161 = .slice (some ⟨g, 0, none⟩) ln ln := s161
      obtain ⟨v160, h160, s160⟩ := hF.dep 48 160 rfl rfl
      obtain rfl : v160 = .bool true := s160
      refine free_step rfl (by show (yielded _ a.tmps 48 == some true) = true; unfold yielded; simp [h160]) (fun K' hK => ?_)
      go_wp2_with fail
      have hCr := nCmpS (some ⟨g, 0, none⟩) none ln 0 (noughts ln) ByteArray.empty u (by rw [noughts_size]; exact (HU.out u hbu).2.2.1) (isB_nil u) (by rw [noughts_size]; omega) (by decide)
      rw [noughts_size, noughts_num, show cmpN 0 (numB ByteArray.empty.data.toList) = 0 from rfl] at hCr
      have hCr2 := show Calls Try.prog 19 #[.slice (some ⟨g, 0, none⟩) ln ln, .slice none 0 0] u _ from hCr
      refine hCr2.mono ?_
      rintro e u' ⟨rfl, rfl⟩
      go_simp
      exact hK.out _ _ rfl (Below.refl _ _)
    | 51, ho, hF =>
      obtain rfl := Option.some.inj ho
      obtain ⟨v162, h162, s162⟩ := hF.dep 50 162 rfl rfl
      obtain rfl : v162 = .int .i64 0 := s162
      obtain ⟨v160, h160, s160⟩ := hF.dep 48 160 rfl rfl
      obtain rfl : v160 = .bool true := s160
      refine free_step rfl (by show (yielded _ a.tmps 48 == some true) = true; unfold yielded; simp [h160]) (fun K' hK => ?_)
      go_simp
      exact hK.out _ _ rfl (Below.refl _ _)
    | 52, ho, hF =>
      obtain rfl := Option.some.inj ho
      obtain ⟨v160, h160, s160⟩ := hF.dep 48 160 rfl rfl
      obtain rfl : v160 = .bool true := s160
      obtain ⟨v163, h163, s163⟩ := hF.dep 51 163 rfl rfl
      obtain rfl : v163 = .bool true := s163
      refine free_step rfl (by rfl) (fun K' hK => ?_)
      go_simp
      exact hK.out _ _ rfl (Below.refl _ _)
    | 53, ho, hF =>
      obtain rfl := Option.some.inj ho
      obtain ⟨v164, h164, s164⟩ := hF.dep 52 164 rfl rfl
      obtain rfl : v164 = .bool true := s164
      refine free_step rfl (by rfl) (fun K' hK => ?_)
      go_simp
      exact hK.out _ _ rfl (Below.refl _ _)
    | n + 54, ho, _ => exact absurd (Array.getElem?_eq_some_iff.1 ho).1 (by show ¬ n + 54 < 54; omega)
  · intro vs u hS hbu
    have e53 : vs 53 = .bool true := hS 53 4 rfl
    simp only [putFrom, Act.put, List.setIfInBounds_toArray, List.set_cons_succ, List.set_cons_zero, Nat.reduceAdd]
    rw [e53]
    clear hS e53
    generalize vs 0 = z0
    generalize vs 1 = z1
    generalize vs 2 = z2
    generalize vs 3 = z3
    generalize vs 4 = z4
    generalize vs 5 = z5
    generalize vs 6 = z6
    generalize vs 7 = z7
    generalize vs 8 = z8
    generalize vs 9 = z9
    generalize vs 10 = z10
    generalize vs 11 = z11
    generalize vs 12 = z12
    generalize vs 13 = z13
    generalize vs 14 = z14
    generalize vs 15 = z15
    generalize vs 16 = z16
    generalize vs 17 = z17
    generalize vs 18 = z18
    generalize vs 19 = z19
    generalize vs 20 = z20
    generalize vs 21 = z21
    generalize vs 22 = z22
    generalize vs 23 = z23
    generalize vs 24 = z24
    generalize vs 25 = z25
    generalize vs 26 = z26
    generalize vs 27 = z27
    generalize vs 28 = z28
    generalize vs 29 = z29
    generalize vs 30 = z30
    generalize vs 31 = z31
    generalize vs 32 = z32
    generalize vs 33 = z33
    generalize vs 34 = z34
    generalize vs 35 = z35
    generalize vs 36 = z36
    generalize vs 37 = z37
    generalize vs 38 = z38
    generalize vs 39 = z39
    generalize vs 40 = z40
    generalize vs 41 = z41
    generalize vs 42 = z42
    generalize vs 43 = z43
    generalize vs 44 = z44
    generalize vs 45 = z45
    generalize vs 46 = z46
    generalize vs 47 = z47
    generalize vs 48 = z48
    generalize vs 49 = z49
    generalize vs 50 = z50
    generalize vs 51 = z51
    generalize vs 52 = z52
    have HF2 := show Hid (Below w.heap.size w u) from HF.out u hbu
    clear hbu HF
    go_wp2_with fail
    go_ret
    exact ⟨rfl, HF2.out⟩
end Go.Proofs.Ythfgbcpppamboaa
