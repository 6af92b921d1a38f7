/-
  The law RsaTurned.
  
  A [2][]byte that came in, told by its texts.
-/
import Derived.Test.YtpcmpeeflnlkpaaGreatDoorQSoundEtc
import Derived.Test.YtpcmpeeflnlkpaaGreatDoorQRVer
import Derived.Test.YtpcmpeeflnlkpaaGreatDoorNCmpIEtc
import Derived.Test.YtpcmpeeflnlkpaaGreatDoorKSumEtc
namespace Go.Proofs.YtpcmpeeflnlkpaaGreatDoor
open Go.RowKit Ch
set_option maxRecDepth 100000

theorem xor_ne (x j : Nat) : ¬ x ^^^ 2 ^ j = x := fun h => by
  have h1 : x ^^^ (x ^^^ 2 ^ j) = x ^^^ x := by rw [h]
  rw [← Nat.xor_assoc, Nat.xor_self, Nat.zero_xor] at h1
  have := Nat.pow_pos (n := j) (show 0 < 2 by decide)
  omega
theorem xorT8 (a b : Nat) (ha : a < 256) (hb : b < 256) : bits .xor .u8 (a : Int) (b : Int) = ((a ^^^ b : Nat) : Int) := xor_nat .u8 8 (by decide) wraps_u8 a b ha hb
theorem shl_one (j : Nat) (hj : j < 8) : (2 : Int) ^ j % 256 = ((2 ^ j : Nat) : Int) := by
  match j, hj with
  | 0, _ => rfl
  | 1, _ => rfl
  | 2, _ => rfl
  | 3, _ => rfl
  | 4, _ => rfl
  | 5, _ => rfl
  | 6, _ => rfl
  | 7, _ => rfl
  | n + 8, h => omega
theorem own_at {base n p : Nat} {w : World} {v : Value} {l : List UInt8} {x : UInt8} (h : OwnL base w v l) (hx : l[p]? = some x) (hn : l.length = n) :
    ∃ g c, v = .slice (some ⟨g, 0, none⟩) n c ∧ w.cell? ⟨g, p, none⟩ = some (.int .u8 (x.toNat : Int)) ∧ w.frozen? ⟨g, p, none⟩ = false ∧ base ≤ g ∧ ∀ y : UInt8, OwnL base (w.setCell ⟨g, p, none⟩ (.int .u8 (y.toNat : Int))) v (l.set p y) := by
  subst hn
  obtain ⟨g, c, h1, _, h3, _, h5, h6, h7⟩ := own_set h (List.getElem?_eq_some_iff.1 hx).1
  refine ⟨g, c, h1, ?_, h6, h3, fun y => ?_⟩
  · rw [h5]
    simp [Lib.byteCells, hx]
  · unfold OwnL
    have e : Lib.byteCells (l.set p y) = (Lib.byteCells l).set p (.int .u8 (y.toNat : Int)) := by simp [Lib.byteCells, List.map_set]
    rw [e, List.length_set]
    exact h7 _
theorem sumV (au av y : Option Addr) (cu cv c k : Nat) (s : List UInt8) (u : World) (hU : IsN .u32 u (.slice au 8 cu) beginS.l) (hV : IsN .u32 u (.slice av 64 cv) roundK) (h : IsBytes u (.slice y k c) ⟨s.toArray⟩) (hl : s.length = k) (hk : k ≤ 100000) :
    Calls Tryz.prog 14 #[.agg #[.slice au 8 cu, .slice av 64 cv], .slice y k c] u fun e w' => (∃ x, e = .returned x ∧ IsBytes w' x ⟨(shaL s).toArray⟩) ∧ Below u.heap.size u w' := by
  subst hl
  have hz : (⟨s.toArray⟩ : ByteArray).size = s.length := size_of_list s
  have h0 := vSum_any au av y cu cv c ⟨s.toArray⟩ u hU hV (by rw [hz]; exact h) (by omega)
  rw [hz] at h0
  refine h0.mono ?_
  rintro e w' ⟨⟨a, c', rfl, o⟩, hb⟩
  have o' : OwnL u.heap.size w' (.slice a 32 c') (shaL s) := by
    unfold OwnL
    rw [shaL_length]
    exact o
  exact ⟨⟨_, rfl, o'.is⟩, hb⟩
theorem pow_num {w : World} {v1 v2 v3 : Value} {R E D b : List UInt8} {n : Nat} (hk : KeyIs w v1 v2 v3 R E D n) : powL R D b < numB R ∧ numB (dB (powL R D b) n) = powL R D b := by
  have hN : numB R ≠ 0 := by
    have h9 := (right_len hk.right).2.2
    rwa [numB_bare] at h9
  have hp : powL R D b < numB R := by
    unfold powL
    exact Nat.mod_lt _ (by omega)
  refine ⟨hp, ?_⟩
  rw [numB_dB]
  refine Nat.mod_eq_of_lt (Nat.lt_trans hp ?_)
  have := numB_lt R
  rwa [hk.len] at this
/-- What is turned is refused. -/
theorem turned_22 {w : World} {v1 v2 v3 : Value} {R E D b T : List UInt8} {n : Nat} (hk : KeyIs w v1 v2 v3 R E D n) (hT : T.length = n) (hne : T ≠ dB (powL R D b) n) : verL R E D b T = 22 := by
  obtain ⟨hp, hv⟩ := pow_num (b := b) hk
  unfold verL
  rw [if_pos hk.right, hk.bare, hk.len, if_pos hT, if_neg]
  rintro ⟨h1, h2⟩
  have h3 := hk.apart _ _ h1 hp (h2.trans (hk.back b).symm)
  exact hne (numB_inj_len n _ _ hT (dB_length _ _) (h3.trans hv.symm))
/-- So are bytes of another digest. -/
theorem other_22 {w : World} {v1 v2 v3 : Value} {R E D b d : List UInt8} {n : Nat} (hk : KeyIs w v1 v2 v3 R E D n) (hne : shaL b ≠ shaL d) : verL R E D d (dB (powL R D b) n) = 22 := by
  obtain ⟨hp, hv⟩ := pow_num (b := b) hk
  have hn := hk.size
  unfold verL
  rw [if_pos hk.right, hk.bare, hk.len, if_pos (dB_length _ _), hv, if_neg]
  rintro ⟨_, h2⟩
  have h3 := numB_inj_len n _ _ (sealL_length b (by omega)) (sealL_length d (by omega)) ((hk.back b).symm.trans h2)
  unfold sealL at h3
  exact hne (List.append_cancel_left h3)
def semLT1 (au av y0 yd : Option Addr) (cu cv k0 c0 kd cd q : Nat) (SA SB : ByteArray) (t1 : Bool) : Nat → Value → World → Prop := fun ix v u => match ix with
  | 0 => v = .agg #[.slice au 8 cu, .slice av 64 cv]
  | 1 => v = .pointer (some ⟨q, 0, none⟩)
  | 2 => v = .slice y0 k0 c0
  | 3 => IsBytes u v SA
  | 4 => v = .string SA
  | 5 => v = .agg #[.slice au 8 cu, .slice av 64 cv]
  | 6 => v = .pointer (some ⟨q, 1, none⟩)
  | 7 => v = .slice yd kd cd
  | 8 => IsBytes u v SB
  | 9 => v = .string SB
  | 10 => v = .bool t1
  | _ => True
def semLT2 (y0 yd y1 y2 y3 z1 z2 z3 y9 : Option Addr) (k0 c0 kd cd k1 c1 k2 c2 k3 c3 m1 d1 m2 d2 m3 d3 n c9 gt ct q : Nat) (Z : Int) : Nat → Value → World → Prop := fun ix v _ => match ix with
  | 0 => v = .agg #[.slice y1 k1 c1, .slice y2 k2 c2, .slice y3 k3 c3]
  | 1 => v = .pointer (some ⟨q, 0, none⟩)
  | 2 => v = .slice y0 k0 c0
  | 3 => v = .slice (some ⟨gt, 0, none⟩) n ct
  | 4 => v = .int .i64 22
  | 5 => v = .bool true
  | 6 => v = .bool true
  | 7 => v = .agg #[.slice y1 k1 c1, .slice y2 k2 c2, .slice y3 k3 c3]
  | 8 => v = .pointer (some ⟨q, 1, none⟩)
  | 9 => v = .slice yd kd cd
  | 10 => v = .slice y9 n c9
  | 11 => v = .int .i64 22
  | 12 => v = .bool true
  | 13 => v = .bool true
  | 14 => v = .bool true
  | 15 => v = .agg #[.slice z1 m1 d1, .slice z2 m2 d2, .slice z3 m3 d3]
  | 16 => v = .pointer (some ⟨q, 0, none⟩)
  | 17 => v = .slice y0 k0 c0
  | 18 => v = .slice y9 n c9
  | 19 => v = .int .i64 Z
  | 20 => v = .agg #[.slice z1 m1 d1, .slice z2 m2 d2, .slice z3 m3 d3]
  | 21 => v = .pointer (some ⟨q, 0, none⟩)
  | 22 => v = .slice y0 k0 c0
  | 23 => v = .slice y9 n c9
  | 24 => v = .int .i64 Z
  | 25 => v = .bool true
  | 26 => v = .bool true
  | 27 => v = .bool true
  | _ => True
set_option maxHeartbeats 32000000 in
theorem lqTurned_any (i bit : Int) (v0 v1 : Value) (b d : List UInt8) (w : World) (h0 : IsBytes w v0 ⟨b.toArray⟩) (h1 : IsBytes w v1 ⟨d.toArray⟩) (hK : KTab w) :
    Calls Tryz.prog 5 #[.int .i64 i, .agg #[v0, v1], .int .i64 bit] w fun e w' => e = .returned (.bool true) ∧ Below w.heap.size w w' := by
  obtain ⟨y0, c0, rfl⟩ := isb_shape h0
  obtain ⟨yd, cd, rfl⟩ := isb_shape h1
  obtain ⟨k0, hk0⟩ : ∃ k, b.length = k := ⟨_, rfl⟩
  obtain ⟨kd, hkd⟩ : ∃ k, d.length = k := ⟨_, rfl⟩
  rw [hk0] at h0 ⊢
  rw [hkd] at h1 ⊢
  obtain ⟨B0, hB0⟩ : ∃ S : ByteArray, (⟨b.toArray⟩ : ByteArray) = S := ⟨_, rfl⟩
  obtain ⟨B1, hB1⟩ : ∃ S : ByteArray, (⟨d.toArray⟩ : ByteArray) = S := ⟨_, rfl⟩
  obtain ⟨t0, tS⟩ : ∃ t, (B0.toList == B1.toList) = t := ⟨_, rfl⟩
  obtain ⟨W1, hW1⟩ : ∃ W, w.alloc (.cells #[.slice y0 k0 c0, .slice yd kd cd] 36) = W := ⟨_, rfl⟩
  have hQ := heap_push_at w (.cells #[.slice y0 k0 c0, .slice yd kd cd] 36)
  have b0 := alB w (.cells #[.slice y0 k0 c0, .slice yd kd cd] 36)
  obtain ⟨q, hq⟩ : ∃ q, w.heap.size = q := ⟨_, rfl⟩
  rw [hW1, hq] at hQ
  rw [hW1] at b0
  have HC := show Hid (∀ u, Below W1.heap.size W1 u → (u.cell? ⟨q, 0, none⟩ = some (.slice y0 k0 c0) ∧ u.cell? ⟨q, 1, none⟩ = some (.slice yd kd cd)) ∧ (IsBytes u (.slice y0 k0 c0) ⟨b.toArray⟩ ∧ IsBytes u (.slice yd kd cd) ⟨d.toArray⟩) ∧ KTab u ∧ Below w.heap.size w u) from fun u hu => by
    have hw := bl2 b0 hu
    have h9 := (hu.block q (block_lt hQ)).trans hQ
    exact ⟨⟨block_cell 0 h9 rfl, block_cell 1 h9 rfl⟩, ⟨h0.later hw, h1.later hw⟩, hK.later hw, hw⟩
  have g0 := block_cell (v := .slice y0 k0 c0) 0 hQ rfl
  have g1 := block_cell (v := .slice yd kd cd) 1 hQ rfl
  rw [hB0, hB1] at HC
  clear h0 h1 hK hQ b0
  by_cases c1' : k0 ≤ 300
  case neg =>
    have i1 : (300 : Int) < (k0 : Int) := by omega
    clear c1' hk0 hkd
    go_enter Tryz.func5, Tryz.ntmps5
    go_wp2_with fail
    refine (lqAwake_any W1 (HC.out W1 (Below.refl _ W1)).2.2.1).mono ?_
    rintro e w1 ⟨rfl, b1⟩
    obtain ⟨⟨g0, g1⟩, ⟨j0, j1⟩, hk1, hw1⟩ := HC.out w1 b1
    have cv0 := j0.convert
    have cv1 := j1.convert
    have hA2 := lqAwake_any w1 hk1
    have HB := show Hid (Below w.heap.size w w1) from hw1
    clear b1 hW1 j0 j1 hk1 hw1
    go_wp2_with fail
    refine hA2.mono ?_
    rintro e w2 ⟨rfl, b2⟩
    have HF := show Hid (Below w.heap.size w w2) from bl2 HB.out b2
    clear hA2 b2
    go_wp2_with fail
    go_ret
    exact ⟨rfl, HF.out⟩
  have i1 : ¬ (300 : Int) < (k0 : Int) := by omega
  by_cases c2' : kd ≤ 300
  case neg =>
    have i2 : (300 : Int) < (kd : Int) := by omega
    clear c1' c2' hk0 hkd
    go_enter Tryz.func5, Tryz.ntmps5
    go_wp2_with fail
    refine (lqAwake_any W1 (HC.out W1 (Below.refl _ W1)).2.2.1).mono ?_
    rintro e w1 ⟨rfl, b1⟩
    obtain ⟨⟨g0, g1⟩, ⟨j0, j1⟩, hk1, hw1⟩ := HC.out w1 b1
    have cv0 := j0.convert
    have cv1 := j1.convert
    have hA2 := lqAwake_any w1 hk1
    have HB := show Hid (Below w.heap.size w w1) from hw1
    clear b1 hW1 j0 j1 hk1 hw1
    go_wp2_with fail
    refine hA2.mono ?_
    rintro e w2 ⟨rfl, b2⟩
    have HF := show Hid (Below w.heap.size w w2) from bl2 HB.out b2
    clear hA2 b2
    go_wp2_with fail
    go_ret
    exact ⟨rfl, HF.out⟩
  have i2 : ¬ (300 : Int) < (kd : Int) := by omega
  cases t0 with
  | true =>
    clear c1' c2' hk0 hkd
    go_enter Tryz.func5, Tryz.ntmps5
    go_wp2_with fail
    refine (lqAwake_any W1 (HC.out W1 (Below.refl _ W1)).2.2.1).mono ?_
    rintro e w1 ⟨rfl, b1⟩
    obtain ⟨⟨g0, g1⟩, ⟨j0, j1⟩, hk1, hw1⟩ := HC.out w1 b1
    have cv0 := j0.convert
    have cv1 := j1.convert
    have hA2 := lqAwake_any w1 hk1
    have HB := show Hid (Below w.heap.size w w1) from hw1
    clear b1 hW1 j0 j1 hk1 hw1
    go_wp2_with fail
    refine hA2.mono ?_
    rintro e w2 ⟨rfl, b2⟩
    have HF := show Hid (Below w.heap.size w w2) from bl2 HB.out b2
    clear hA2 b2
    go_wp2_with fail
    go_ret
    exact ⟨rfl, HF.out⟩
  | false =>
    have HL := show Hid (b.length = k0 ∧ d.length = kd ∧ k0 ≤ 300 ∧ kd ≤ 300) from ⟨hk0, hkd, c1', c2'⟩
    obtain ⟨SA, hSA⟩ : ∃ S : ByteArray, S = ⟨(shaL b).toArray⟩ := ⟨_, rfl⟩
    obtain ⟨SB, hSB⟩ : ∃ S : ByteArray, S = ⟨(shaL d).toArray⟩ := ⟨_, rfl⟩
    obtain ⟨t1, ht1⟩ : ∃ t, (SA.toList == SB.toList) = t := ⟨_, rfl⟩
    have HSA := show Hid (SA = ⟨(shaL b).toArray⟩ ∧ SB = ⟨(shaL d).toArray⟩) from ⟨hSA, hSB⟩
    have HT1 := show Hid ((SA.toList == SB.toList) = t1) from ht1
    have HBB := show Hid ((⟨b.toArray⟩ : ByteArray) = B0 ∧ (⟨d.toArray⟩ : ByteArray) = B1) from ⟨hB0, hB1⟩
    clear c1' c2' hk0 hkd hSA hSB ht1 hB0 hB1
    go_enter Tryz.func5, Tryz.ntmps5
    go_wp2_with fail
    refine (lqAwake_any W1 (HC.out W1 (Below.refl _ W1)).2.2.1).mono ?_
    rintro e w1 ⟨rfl, b1⟩
    obtain ⟨⟨g0, g1⟩, ⟨j0, j1⟩, hk1, hw1⟩ := HC.out w1 b1
    have cv0 := j0.convert
    have cv1 := j1.convert
    have hN := vNew_any w1
    have HB1 := show Hid (Below W1.heap.size W1 w1) from b1
    clear b1 hW1 j0 j1 hk1 hw1
    go_wp2_with fail
    refine hN.mono ?_
    rintro e w2 ⟨⟨u2, v2, rfl, hu2, hv2⟩, hb2⟩
    obtain ⟨au, cu, rfl⟩ : ∃ a c, u2 = .slice a 8 c := by
      obtain ⟨a, c, h, _⟩ := hu2
      exact ⟨a, c, h⟩
    obtain ⟨av, cv, rfl⟩ : ∃ a c, v2 = .slice a 64 c := by
      obtain ⟨a, c, h, _⟩ := hv2
      exact ⟨a, c, h⟩
    have hu2' := hu2
    have hv2' := hv2
    have h2 := bl2 HB1.out hb2
    have hT3 := heap_push_at w2 (.cells #[.slice au 8 cu, .slice av 64 cv] 39)
    have b3 := alB w2 (.cells #[.slice au 8 cu, .slice av 64 cv] 39)
    obtain ⟨qt, hqt⟩ : ∃ q, w2.heap.size = q := ⟨_, rfl⟩
    obtain ⟨W3, hW3⟩ : ∃ W, w2.alloc (.cells #[.slice au 8 cu, .slice av 64 cv] 39) = W := ⟨_, rfl⟩
    rw [hW3, hqt] at hT3
    rw [hW3] at b3
    have HU := show Hid (∀ u, Below W3.drew.heap.size W3.drew u → (u.cell? ⟨qt, 0, none⟩ = some (.slice au 8 cu) ∧ u.cell? ⟨qt, 1, none⟩ = some (.slice av 64 cv)) ∧ (u.cell? ⟨q, 0, none⟩ = some (.slice y0 k0 c0) ∧ u.cell? ⟨q, 1, none⟩ = some (.slice yd kd cd)) ∧
        Calls Tryz.prog 14 #[.agg #[.slice au 8 cu, .slice av 64 cv], .slice y0 k0 c0] u (fun e w' => (∃ x, e = .returned x ∧ IsBytes w' x SA) ∧ Below u.heap.size u w') ∧
        Calls Tryz.prog 14 #[.agg #[.slice au 8 cu, .slice av 64 cv], .slice yd kd cd] u (fun e w' => (∃ x, e = .returned x ∧ IsBytes w' x SB) ∧ Below u.heap.size u w') ∧ Below W1.heap.size W1 u) from fun u hu => by
      have hu2 := bl2 ((Below.refl _ W3).drew) hu
      have hw2 := bl2 b3 hu2
      have h1 := bl2 h2 hw2
      have hTu := (hu2.block qt (block_lt hT3)).trans hT3
      obtain ⟨gg, ⟨j0, j1⟩, hkt, hwu⟩ := HC.out u h1
      have j0 : IsBytes u (.slice y0 k0 c0) ⟨b.toArray⟩ := by rw [HBB.out.1]; exact j0
      have j1 : IsBytes u (.slice yd kd cd) ⟨d.toArray⟩ := by rw [HBB.out.2]; exact j1
      have l := HL.out
      refine ⟨⟨block_cell 0 hTu rfl, block_cell 1 hTu rfl⟩, gg, ?_, ?_, h1⟩
      · rw [HSA.out.1]
        exact sumV au av y0 cu cv c0 k0 b u (hu2'.later hw2) (hv2'.later hw2) j0 (by omega) (by omega)
      · rw [HSA.out.2]
        exact sumV au av yd cu cv cd kd d u (hu2'.later hw2) (hv2'.later hw2) j1 (by omega) (by omega)
    clear hT3 b3 h2
    go_wp2_with fail
    clear cv0 cv1
    refine free_walk (Sem := semLT1 au av y0 yd cu cv k0 c0 kd cd q SA SB t1) rfl (n := 139) (by kernel_rfl) rfl (by kernel_rfl) ?_ ?_ ?_
    · intro ix v u u' h hb
      match ix, h with
      | 0, h => exact h
      | 1, h => exact h
      | 2, h => exact h
      | 3, h => exact IsBytes.later h hb
      | 4, h => exact h
      | 5, h => exact h
      | 6, h => exact h
      | 7, h => exact h
      | 8, h => exact IsBytes.later h hb
      | 9, h => exact h
      | 10, h => exact h
      | _ + 11, _ => exact trivial
    · intro ix o a u ho hF hbu
      match ix, ho, hF with
      | 0, ho, hF =>
        obtain rfl := Option.some.inj ho
        have h7 : a.tmps[7]? = some (.pointer (some ⟨qt, 0, none⟩)) := (hF.out 7 rfl).trans rfl
        have g0 := (HU.out u hbu).1.1
        have g1 := (HU.out u hbu).1.2
        refine free_step rfl (by rfl) (fun K' hK => ?_)
        go_simp
        exact hK.out _ _ rfl (Below.refl _ _)
      | 1, ho, hF =>
        obtain rfl := Option.some.inj ho
        have h4 : a.tmps[4]? = some (.pointer (some ⟨q, 0, none⟩)) := (hF.out 4 rfl).trans rfl
        refine free_step rfl (by rfl) (fun K' hK => ?_)
        go_simp
        exact hK.out _ _ rfl (Below.refl _ _)
      | 2, ho, hF =>
        obtain rfl := Option.some.inj ho
        obtain ⟨v42, h42, s42⟩ := hF.dep 1 42 rfl rfl
        obtain rfl : v42 = .pointer (some ⟨q, 0, none⟩) := s42
        have g0 := (HU.out u hbu).2.1.1
        refine free_step rfl (by rfl) (fun K' hK => ?_)
        go_simp
        exact hK.out _ _ rfl (Below.refl _ _)
      | 3, ho, hF =>
        obtain rfl := Option.some.inj ho
        obtain ⟨v41, h41, s41⟩ := hF.dep 0 41 rfl rfl
        obtain rfl : v41 = .agg #[.slice au 8 cu, .slice av 64 cv] := s41
        obtain ⟨v43, h43, s43⟩ := hF.dep 2 43 rfl rfl
        obtain rfl : v43 = .slice y0 k0 c0 := s43
        have hc := (HU.out u hbu).2.2.1
        refine free_step rfl (by rfl) (fun K' hK => ?_)
        go_wp2_with fail
        refine hc.mono ?_
        rintro e u' ⟨⟨x, rfl, hI⟩, hb⟩
        go_simp
        exact hK.out _ _ hI hb
      | 4, ho, hF =>
        obtain rfl := Option.some.inj ho
        obtain ⟨v44, h44, s44⟩ := hF.dep 3 44 rfl rfl
        replace s44 : IsBytes u v44 SA := s44
        have cv := IsBytes.convert s44
        refine free_step rfl (by rfl) (fun K' hK => ?_)
        go_simp
        exact hK.out _ _ rfl (Below.refl _ _)
      | 5, ho, hF =>
        obtain rfl := Option.some.inj ho
        have h7 : a.tmps[7]? = some (.pointer (some ⟨qt, 0, none⟩)) := (hF.out 7 rfl).trans rfl
        have g0 := (HU.out u hbu).1.1
        have g1 := (HU.out u hbu).1.2
        refine free_step rfl (by rfl) (fun K' hK => ?_)
        go_simp
        exact hK.out _ _ rfl (Below.refl _ _)
      | 6, ho, hF =>
        obtain rfl := Option.some.inj ho
        have h4 : a.tmps[4]? = some (.pointer (some ⟨q, 0, none⟩)) := (hF.out 4 rfl).trans rfl
        refine free_step rfl (by rfl) (fun K' hK => ?_)
        go_simp
        exact hK.out _ _ rfl (Below.refl _ _)
      | 7, ho, hF =>
        obtain rfl := Option.some.inj ho
        obtain ⟨v47, h47, s47⟩ := hF.dep 6 47 rfl rfl
        obtain rfl : v47 = .pointer (some ⟨q, 1, none⟩) := s47
        have g0 := (HU.out u hbu).2.1.2
        refine free_step rfl (by rfl) (fun K' hK => ?_)
        go_simp
        exact hK.out _ _ rfl (Below.refl _ _)
      | 8, ho, hF =>
        obtain rfl := Option.some.inj ho
        obtain ⟨v46, h46, s46⟩ := hF.dep 5 46 rfl rfl
        obtain rfl : v46 = .agg #[.slice au 8 cu, .slice av 64 cv] := s46
        obtain ⟨v48, h48, s48⟩ := hF.dep 7 48 rfl rfl
        obtain rfl : v48 = .slice yd kd cd := s48
        have hc := (HU.out u hbu).2.2.2.1
        refine free_step rfl (by rfl) (fun K' hK => ?_)
        go_wp2_with fail
        refine hc.mono ?_
        rintro e u' ⟨⟨x, rfl, hI⟩, hb⟩
        go_simp
        exact hK.out _ _ hI hb
      | 9, ho, hF =>
        obtain rfl := Option.some.inj ho
        obtain ⟨v49, h49, s49⟩ := hF.dep 8 49 rfl rfl
        replace s49 : IsBytes u v49 SB := s49
        have cv := IsBytes.convert s49
        refine free_step rfl (by rfl) (fun K' hK => ?_)
        go_simp
        exact hK.out _ _ rfl (Below.refl _ _)
      | 10, ho, hF =>
        obtain rfl := Option.some.inj ho
        obtain ⟨v45, h45, s45⟩ := hF.dep 4 45 rfl rfl
        obtain rfl : v45 = .string SA := s45
        obtain ⟨v50, h50, s50⟩ := hF.dep 9 50 rfl rfl
        obtain rfl : v50 = .string SB := s50
        have tS := HT1.out
        refine free_step rfl (by rfl) (fun K' hK => ?_)
        go_simp
        exact hK.out _ _ rfl (Below.refl _ _)
      | n + 11, ho, _ => exact absurd (Array.getElem?_eq_some_iff.1 ho).1 (by show ¬ n + 11 < 11; omega)
    · intro vs u hS hbu
      have e10 : vs 10 = (.bool t1) := hS 10 51 rfl
      simp only [putFrom, Act.put, List.setIfInBounds_toArray, List.set_cons_succ, List.set_cons_zero, Nat.reduceAdd]
      rw [e10]
      clear hS e10
      generalize vs 0 = z0
      generalize vs 1 = z1
      generalize vs 2 = z2
      generalize vs 3 = z3
      generalize vs 4 = z4
      generalize vs 5 = z5
      generalize vs 6 = z6
      generalize vs 7 = z7
      generalize vs 8 = z8
      generalize vs 9 = z9
      have HB4 := show Hid (Below W1.heap.size W1 u) from (HU.out u hbu).2.2.2.2
      clear hbu HU
      cases t1 with
      | true =>
        go_wp2_with fail
        go_ret
        exact ⟨rfl, (HC.out u HB4.out).2.2.2⟩
      | false =>
        have hne : shaL b ≠ shaL d := fun h => by
          have h2 := HT1.out
          rw [HSA.out.1, HSA.out.2, h] at h2
          simp at h2
        have HNE := show Hid (shaL b ≠ shaL d) from hne
        clear hne HT1 HSA
        have hKy := lqKey_any i u
        go_wp2_with fail
        refine hKy.mono ?_
        rintro e w5 ⟨⟨v1, v2, v3, rfl, hok⟩, b5⟩
        obtain ⟨R, D, hk⟩ := key_is _ (keyAt_lt i) hok
        generalize keyN (keyAt i) = n at *
        obtain ⟨y1, k1, c1, rfl⟩ := isb_open hk.at1
        obtain ⟨y2, k2, c2, rfl⟩ := isb_open hk.at2
        obtain ⟨y3, k3, c3, rfl⟩ := isb_open hk.at3
        clear hKy hok
        have kbx := keyBox w5 (.slice y1 k1 c1) (.slice y2 k2 c2) (.slice y3 k3 c3)
        obtain ⟨qk, hqk⟩ : ∃ q, w5.heap.size = q := ⟨_, rfl⟩
        obtain ⟨W6, hW6⟩ : ∃ W, w5.alloc (.cells #[.slice y1 k1 c1, .slice y2 k2 c2, .slice y3 k3 c3] 25) = W := ⟨_, rfl⟩
        rw [hW6, hqk] at kbx
        have HK6 := show Hid (KeyBox w5 W6 qk (.slice y1 k1 c1) (.slice y2 k2 c2) (.slice y3 k3 c3) ∧ KeyIs W6 (.slice y1 k1 c1) (.slice y2 k2 c2) (.slice y3 k3 c3) R [1, 0, 1] D n ∧ Below W1.heap.size W1 W6) from ⟨kbx, hk.later kbx.below, bl2 HB4.out (bl2 b5 kbx.below)⟩
        obtain ⟨r, hr⟩ : ∃ r, i.tmod 4 = r := ⟨_, rfl⟩
        have hr4 : -4 < r ∧ r < 4 := by
          have h1 := Int.natAbs_tmod i 4
          have h2 : (i.tmod 4).natAbs < 4 := by
            rw [h1]
            exact Nat.mod_lt _ (by decide)
          rw [hr] at h2
          omega
        have wr5 : IntKind.i64.wrap (r + 5) = r + 5 := by rw [IntKind.wrap_i64]; omega
        obtain ⟨il, hil⟩ : ∃ j, (r + 5).tmod 4 = j := ⟨_, rfl⟩
        have hKl := lqKey_any il W6
        clear kbx hk b5 hr4
        go_wp2_with fail
        refine hKl.mono ?_
        rintro e w7 ⟨⟨v1, v2, v3, rfl, hok⟩, b7⟩
        obtain ⟨RL, DL, hl⟩ := key_is _ (keyAt_lt il) hok
        generalize keyN (keyAt il) = nl at *
        obtain ⟨z1, m1, d1, rfl⟩ := isb_open hl.at1
        obtain ⟨z2, m2, d2, rfl⟩ := isb_open hl.at2
        obtain ⟨z3, m3, d3, rfl⟩ := isb_open hl.at3
        clear hKl hok
        have kbl := keyBox w7 (.slice z1 m1 d1) (.slice z2 m2 d2) (.slice z3 m3 d3)
        obtain ⟨ql, hql⟩ : ∃ q, w7.heap.size = q := ⟨_, rfl⟩
        obtain ⟨W8, hW8⟩ : ∃ W, w7.alloc (.cells #[.slice z1 m1 d1, .slice z2 m2 d2, .slice z3 m3 d3] 25) = W := ⟨_, rfl⟩
        rw [hW8, hql] at kbl
        have b68 := bl2 b7 kbl.below
        have HK8 := show Hid (KeyBox w7 W8 ql (.slice z1 m1 d1) (.slice z2 m2 d2) (.slice z3 m3 d3) ∧ KeyIs W8 (.slice z1 m1 d1) (.slice z2 m2 d2) (.slice z3 m3 d3) RL [1, 0, 1] DL nl ∧ Below W6.heap.size W6 W8) from ⟨kbl, hl.later kbl.below, b68⟩
        obtain ⟨h0, h1, h2⟩ := HK6.out.1.cells b68
        obtain ⟨⟨g0, g1⟩, ⟨j0, j1⟩, hk8, _⟩ := HC.out W8 (bl2 HK6.out.2.2 b68)
        have j0 : IsBytes W8 (.slice y0 k0 c0) ⟨b.toArray⟩ := by rw [HBB.out.1]; exact j0
        have hSg := keySign (HK6.out.2.1.later b68) j0 hk8 (by have := HL.out; omega)
        clear kbl hl b7 b68 j0 j1 hk8 hr wr5 hil
        go_wp2_with fail
        refine hSg.mono ?_
        rintro e w9 ⟨⟨x9, rfl, i9⟩, b9⟩
        obtain ⟨y9, c9, rfl⟩ : ∃ y c, x9 = .slice y n c := by
          obtain ⟨y, c, h⟩ := isb_shape i9
          rw [dB_length] at h
          exact ⟨y, c, h⟩
        obtain ⟨S, hS0⟩ : ∃ S, dB (powL R D b) n = S := ⟨_, rfl⟩
        have hSl : S.length = n := by rw [← hS0]; exact dB_length _ _
        have hnn := HK6.out.2.1.size
        rw [hS0] at i9
        have HS := show Hid (dB (powL R D b) n = S ∧ S.length = n ∧ 62 ≤ n ∧ n ≤ 128) from ⟨hS0, hSl, hnn⟩
        clear hSg h0 h1 h2 g0 g1
        obtain ⟨W10, hW10⟩ : ∃ W, w9.alloc (.cells #[] 5) = W := ⟨_, rfl⟩
        have b10 : Below w9.heap.size w9 W10 := by rw [← hW10]; exact alB _ _
        have o10 : OwnL w9.heap.size W10 (.slice (some ⟨w9.heap.size, 0, none⟩) 0 0) [] := by rw [← hW10]; exact ownL_lit w9 [] _ rfl 0 rfl (by unfold maxLen; decide)
        obtain ⟨g9, hg9⟩ : ∃ g, w9.heap.size = g := ⟨_, rfl⟩
        rw [hg9] at o10 b10
        have H9 := show Hid (IsBytes w9 (.slice y9 n c9) ⟨S.toArray⟩ ∧ Below W8.heap.size W8 w9 ∧ w9.heap.size = g9 ∧ Below g9 w9 W10) from ⟨i9, b9, hg9, b10⟩
        have i10 : IsBytes W10 (.slice y9 n c9) ⟨S.toArray⟩ := i9.later (by rw [hg9]; exact b10)
        have hk0 : n ≠ 0 := by omega
        obtain ⟨k8, hk8⟩ : ∃ k, 8 * n = k := ⟨_, rfl⟩
        have wm : IntKind.i64.wrap (8 * (n : Int)) = (k8 : Int) := by rw [IntKind.wrap_i64]; omega
        have hk80 : ¬ (k8 : Int) = 0 := by omega
        obtain ⟨rb, hrb⟩ : ∃ r, bit.tmod (k8 : Int) = r := ⟨_, rfl⟩
        have hrb2 : -(k8 : Int) < rb ∧ rb < (k8 : Int) := by
          have h1 := Int.natAbs_tmod bit (k8 : Int)
          have h2 : (bit.tmod (k8 : Int)).natAbs < k8 := by
            rw [h1]
            exact Nat.mod_lt _ (by omega)
          rw [hrb] at h2
          omega
        have wa : IntKind.i64.wrap (rb + (k8 : Int)) = rb + (k8 : Int) := by rw [IntKind.wrap_i64]; omega
        obtain ⟨m, hm⟩ : ∃ m : Nat, (rb + (k8 : Int)).tmod (k8 : Int) = (m : Int) := ⟨((rb + (k8 : Int)).tmod (k8 : Int)).toNat, by
          have := Int.tmod_nonneg (k8 : Int) (show 0 ≤ rb + (k8 : Int) by omega)
          omega⟩
        have hm2 : m < k8 := by
          have := Int.tmod_lt_of_pos (rb + (k8 : Int)) (show (0 : Int) < (k8 : Int) by omega)
          omega
        obtain ⟨p, hp⟩ : ∃ p, m / 8 = p := ⟨_, rfl⟩
        obtain ⟨j, hj⟩ : ∃ j, m % 8 = j := ⟨_, rfl⟩
        have hq8 : (m : Int).tdiv 8 = (p : Int) := by rw [Int.tdiv_eq_ediv_of_nonneg (by omega)]; omega
        have hr8 : (m : Int).tmod 8 = (j : Int) := by rw [Int.tmod_eq_emod_of_nonneg (by omega)]; omega
        have hj8 : j < 8 := by omega
        have hpn : p < n := by omega
        have hpn2 : (p : Int) < (n : Int) := by omega
        have wq : wrap64 (p : Int) = (p : Int) := by unfold wrap64; omega
        have wj : IntKind.u64.wrap (j : Int) = (j : Int) := by rw [wrap_u64]; omega
        obtain ⟨x, hx⟩ : ∃ x, S[p]? = some x := ⟨_, List.getElem?_eq_getElem (by rw [hSl]; exact hpn)⟩
        obtain ⟨y, hy⟩ : ∃ y : UInt8, y.toNat = x.toNat ^^^ 2 ^ j := ⟨UInt8.ofNat (x.toNat ^^^ 2 ^ j), by
          rw [UInt8.toNat_ofNat']
          exact Nat.mod_eq_of_lt (Nat.xor_lt_two_pow (n := 8) x.toNat_lt (Nat.pow_lt_pow_right (by decide) hj8))⟩
        have hxr : Go.bits .xor .u8 (x.toNat : Int) (2 ^ j % 256) = (y.toNat : Int) := by rw [shl_one j hj8, xorT8 _ _ x.toNat_lt (Nat.pow_lt_pow_right (n := 8) (by decide) hj8), hy]
        have hTl : (S.set p y).length = n := by rw [List.length_set]; exact hSl
        have hTn : S.set p y ≠ S := fun h => by
          have h1 : (S.set p y)[p]? = some y := List.getElem?_set_self (by rw [hSl]; exact hpn)
          rw [h, hx] at h1
          obtain rfl := Option.some.inj h1
          exact xor_ne _ _ hy.symm
        have HT := show Hid ((S.set p y).length = n ∧ S.set p y ≠ S ∧ S[p]? = some x) from ⟨hTl, hTn, hx⟩
        have HO := show Hid (OwnL g9 W10 (.slice (some ⟨g9, 0, none⟩) 0 0) []) from o10
        clear i9 b9 b10 hS0 hSl hnn hk8 hrb2 hm2 hp hj hTl hTn hx hy
        go_wp2_with (at_builtin; go_must (refine wpList_append_l rfl _ _ rfl g9 (.slice (some ⟨g9, 0, none⟩) 0 0) [] rfl o10 (.slice y9 n c9) S rfl i10 (by have := HS.out; simp only [List.length_nil]; omega) (by have h8 := H9.out.2.2.2.size; rw [H9.out.2.2.1] at h8; exact h8) ?_; intro v11 w11 ho11 hb11; obtain ⟨gt, ct, rfl, hcell, hfz, hset⟩ := own_at ho11 HT.out.2.2 HS.out.2.1; clear o10 i10))
        obtain ⟨W12, hW12⟩ : ∃ W, w11.setCell ⟨gt, p, none⟩ (.int .u8 (y.toNat : Int)) = W := ⟨_, rfl⟩
        have hO12 := hset.2 y
        have h12 : Below g9 w9 W12 := by
          rw [← hW12]
          exact (H9.out.2.2.2.trans hb11).setCell (p := ⟨gt, p, none⟩) hset.1 _
        rw [← H9.out.2.2.1] at h12
        rw [hW12] at hO12
        try rw [hW12]
        obtain ⟨Z, hZ⟩ : ∃ Z, verL RL [1, 0, 1] DL b S = Z := ⟨_, rfl⟩
        have HU := show Hid (∀ u, Below W12.drew.heap.size W12.drew u → (u.cell? ⟨qk, 0, none⟩ = some (.slice y1 k1 c1) ∧ u.cell? ⟨qk, 1, none⟩ = some (.slice y2 k2 c2) ∧ u.cell? ⟨qk, 2, none⟩ = some (.slice y3 k3 c3)) ∧
            (u.cell? ⟨ql, 0, none⟩ = some (.slice z1 m1 d1) ∧ u.cell? ⟨ql, 1, none⟩ = some (.slice z2 m2 d2) ∧ u.cell? ⟨ql, 2, none⟩ = some (.slice z3 m3 d3)) ∧ (u.cell? ⟨q, 0, none⟩ = some (.slice y0 k0 c0) ∧ u.cell? ⟨q, 1, none⟩ = some (.slice yd kd cd)) ∧
            Calls Tryz.prog 10 #[.agg #[.slice y1 k1 c1, .slice y2 k2 c2, .slice y3 k3 c3], .slice y0 k0 c0, .slice (some ⟨gt, 0, none⟩) n ct] u (fun e w' => e = .returned (.int .i64 22) ∧ Below u.heap.size u w') ∧
            Calls Tryz.prog 10 #[.agg #[.slice y1 k1 c1, .slice y2 k2 c2, .slice y3 k3 c3], .slice yd kd cd, .slice y9 n c9] u (fun e w' => e = .returned (.int .i64 22) ∧ Below u.heap.size u w') ∧
            Calls Tryz.prog 10 #[.agg #[.slice z1 m1 d1, .slice z2 m2 d2, .slice z3 m3 d3], .slice y0 k0 c0, .slice y9 n c9] u (fun e w' => e = .returned (.int .i64 Z) ∧ Below u.heap.size u w') ∧
            Calls Tryz.prog 12 #[.agg #[.slice z1 m1 d1, .slice z2 m2 d2, .slice z3 m3 d3], .slice y0 k0 c0, .slice y9 n c9] u (fun e w' => e = .returned (.int .i64 Z) ∧ Below u.heap.size u w') ∧ Below w.heap.size w u) from fun u hu => by
          have hu2 := bl2 ((Below.refl _ W12).drew) hu
          have h9 := bl2 h12 hu2
          have h8 := bl2 H9.out.2.1 h9
          have h6 := bl2 HK8.out.2.2 h8
          obtain ⟨gg, ⟨j0, j1⟩, hkt, hwu⟩ := HC.out u (bl2 HK6.out.2.2 h6)
          have j0 : IsBytes u (.slice y0 k0 c0) ⟨b.toArray⟩ := by rw [HBB.out.1]; exact j0
          have j1 : IsBytes u (.slice yd kd cd) ⟨d.toArray⟩ := by rw [HBB.out.2]; exact j1
          have hku := HK6.out.2.1.later h6
          have hlu := HK8.out.2.1.later h8
          have i9 := H9.out.1.later h9
          have it := hO12.is.later hu2
          have l1 := hku.len
          have l2 := hku.lenD
          have l3 := hlu.len
          have l4 := hlu.lenD
          have l5 := hlu.size
          obtain ⟨s1, s2, s3, s4⟩ := HS.out
          obtain ⟨t1, t2, _⟩ := HT.out
          have l6 := HL.out
          refine ⟨HK6.out.1.cells h6, HK8.out.1.cells h8, gg, ?_, ?_, ?_, ?_, hwu⟩
          · have h := qVerify_any _ _ _ _ _ R [1, 0, 1] D b (S.set p y) u hku.at1 hku.at2 hku.at3 j0 it hkt (by omega) (by decide) (by omega) (by omega) (by omega)
            rw [turned_22 hku t1 (by rw [s1]; exact t2)] at h
            exact h
          · have h := qVerify_any _ _ _ _ _ R [1, 0, 1] D d S u hku.at1 hku.at2 hku.at3 j1 i9 hkt (by omega) (by decide) (by omega) (by omega) (by omega)
            have h22 := other_22 hku HNE.out
            rw [s1] at h22
            rw [h22] at h
            exact h
          · have h := qVerify_any _ _ _ _ _ RL [1, 0, 1] DL b S u hlu.at1 hlu.at2 hlu.at3 j0 i9 hkt (by omega) (by decide) (by omega) (by omega) (by omega)
            rw [hZ] at h
            exact h
          · have h := qrVerify_any _ _ _ _ _ RL [1, 0, 1] DL b S u hlu.at1 hlu.at2 hlu.at3 j0 i9 (by omega) (by decide) (by omega) (by omega) (by omega)
            rw [hZ] at h
            exact h
        clear hZ h12 hO12 hset hcell hfz ho11 hb11 wm hk80 hrb wa hm hq8 hr8 hpn2 wq wj hxr hk0 hW12
        refine free_walk (Sem := semLT2 y0 yd y1 y2 y3 z1 z2 z3 y9 k0 c0 kd cd k1 c1 k2 c2 k3 c3 m1 d1 m2 d2 m3 d3 n c9 gt ct q Z) rfl (n := 139) (by kernel_rfl) rfl (by kernel_rfl) ?_ ?_ ?_
        · intro ix v u u' h hb
          match ix, h with
          | 0, h => exact h
          | 1, h => exact h
          | 2, h => exact h
          | 3, h => exact h
          | 4, h => exact h
          | 5, h => exact h
          | 6, h => exact h
          | 7, h => exact h
          | 8, h => exact h
          | 9, h => exact h
          | 10, h => exact h
          | 11, h => exact h
          | 12, h => exact h
          | 13, h => exact h
          | 14, h => exact h
          | 15, h => exact h
          | 16, h => exact h
          | 17, h => exact h
          | 18, h => exact h
          | 19, h => exact h
          | 20, h => exact h
          | 21, h => exact h
          | 22, h => exact h
          | 23, h => exact h
          | 24, h => exact h
          | 25, h => exact h
          | 26, h => exact h
          | 27, h => exact h
          | _ + 28, _ => exact trivial
        · intro ix o a u ho hF hbu
          match ix, ho, hF with
          | 0, ho, hF =>
            obtain rfl := Option.some.inj ho
            have h8 : a.tmps[8]? = some (.pointer (some ⟨qk, 0, none⟩)) := (hF.out 8 rfl).trans rfl
            have g0 := (HU.out u hbu).1.1
            have g1 := (HU.out u hbu).1.2.1
            have g2 := (HU.out u hbu).1.2.2
            refine free_step rfl (by rfl) (fun K' hK => ?_)
            go_simp
            exact hK.out _ _ rfl (Below.refl _ _)
          | 1, ho, hF =>
            obtain rfl := Option.some.inj ho
            have h4 : a.tmps[4]? = some (.pointer (some ⟨q, 0, none⟩)) := (hF.out 4 rfl).trans rfl
            refine free_step rfl (by rfl) (fun K' hK => ?_)
            go_simp
            exact hK.out _ _ rfl (Below.refl _ _)
          | 2, ho, hF =>
            obtain rfl := Option.some.inj ho
            obtain ⟨v113, h113, s113⟩ := hF.dep 1 113 rfl rfl
            obtain rfl : v113 = .pointer (some ⟨q, 0, none⟩) := s113
            have g0 := (HU.out u hbu).2.2.1.1
            refine free_step rfl (by rfl) (fun K' hK => ?_)
            go_simp
            exact hK.out _ _ rfl (Below.refl _ _)
          | 3, ho, hF =>
            obtain rfl := Option.some.inj ho
            have h14 : a.tmps[14]? = some (.slice (some ⟨gt, 0, none⟩) n ct) := (hF.out 14 rfl).trans rfl
            refine free_step rfl (by rfl) (fun K' hK => ?_)
            go_simp
            exact hK.out _ _ rfl (Below.refl _ _)
          | 4, ho, hF =>
            obtain rfl := Option.some.inj ho
            obtain ⟨v112, h112, s112⟩ := hF.dep 0 112 rfl rfl
            obtain rfl : v112 = .agg #[.slice y1 k1 c1, .slice y2 k2 c2, .slice y3 k3 c3] := s112
            obtain ⟨v114, h114, s114⟩ := hF.dep 2 114 rfl rfl
            obtain rfl : v114 = .slice y0 k0 c0 := s114
            obtain ⟨v115, h115, s115⟩ := hF.dep 3 115 rfl rfl
            obtain rfl : v115 = .slice (some ⟨gt, 0, none⟩) n ct := s115
            have hc := (HU.out u hbu).2.2.2.1
            refine free_step rfl (by rfl) (fun K' hK => ?_)
            go_wp2_with fail
            refine hc.mono ?_
            rintro e u' ⟨rfl, hb⟩
            go_simp
            exact hK.out _ _ rfl hb
          | 5, ho, hF =>
            obtain rfl := Option.some.inj ho
            obtain ⟨v116, h116, s116⟩ := hF.dep 4 116 rfl rfl
            obtain rfl : v116 = .int .i64 22 := s116
            refine free_step rfl (by rfl) (fun K' hK => ?_)
            go_simp
            exact hK.out _ _ rfl (Below.refl _ _)
          | 6, ho, hF =>
            obtain rfl := Option.some.inj ho
            obtain ⟨v117, h117, s117⟩ := hF.dep 5 117 rfl rfl
            obtain rfl : v117 = .bool true := s117
            refine free_step rfl (by rfl) (fun K' hK => ?_)
            go_simp
            exact hK.out _ _ rfl (Below.refl _ _)
          | 7, ho, hF =>
            obtain rfl := Option.some.inj ho
            have h8 : a.tmps[8]? = some (.pointer (some ⟨qk, 0, none⟩)) := (hF.out 8 rfl).trans rfl
            obtain ⟨v118, h118, s118⟩ := hF.dep 6 118 rfl rfl
            obtain rfl : v118 = .bool true := s118
            have g0 := (HU.out u hbu).1.1
            have g1 := (HU.out u hbu).1.2.1
            have g2 := (HU.out u hbu).1.2.2
            refine free_step rfl (by show (yielded _ a.tmps 6 == some true) = true; unfold yielded; simp [h118]) (fun K' hK => ?_)
            go_simp
            exact hK.out _ _ rfl (Below.refl _ _)
          | 8, ho, hF =>
            obtain rfl := Option.some.inj ho
            have h4 : a.tmps[4]? = some (.pointer (some ⟨q, 0, none⟩)) := (hF.out 4 rfl).trans rfl
            obtain ⟨v118, h118, s118⟩ := hF.dep 6 118 rfl rfl
            obtain rfl : v118 = .bool true := s118
            refine free_step rfl (by show (yielded _ a.tmps 6 == some true) = true; unfold yielded; simp [h118]) (fun K' hK => ?_)
            go_simp
            exact hK.out _ _ rfl (Below.refl _ _)
          | 9, ho, hF =>
            obtain rfl := Option.some.inj ho
            obtain ⟨v120, h120, s120⟩ := hF.dep 8 120 rfl rfl
            obtain rfl : v120 = .pointer (some ⟨q, 1, none⟩) := s120
            obtain ⟨v118, h118, s118⟩ := hF.dep 6 118 rfl rfl
            obtain rfl : v118 = .bool true := s118
            have g0 := (HU.out u hbu).2.2.1.2
            refine free_step rfl (by show (yielded _ a.tmps 6 == some true) = true; unfold yielded; simp [h118]) (fun K' hK => ?_)
            go_simp
            exact hK.out _ _ rfl (Below.refl _ _)
          | 10, ho, hF =>
            obtain rfl := Option.some.inj ho
            have h12 : a.tmps[12]? = some (.slice y9 n c9) := (hF.out 12 rfl).trans rfl
            obtain ⟨v118, h118, s118⟩ := hF.dep 6 118 rfl rfl
            obtain rfl : v118 = .bool true := s118
            refine free_step rfl (by show (yielded _ a.tmps 6 == some true) = true; unfold yielded; simp [h118]) (fun K' hK => ?_)
            go_simp
            exact hK.out _ _ rfl (Below.refl _ _)
          | 11, ho, hF =>
            obtain rfl := Option.some.inj ho
            obtain ⟨v119, h119, s119⟩ := hF.dep 7 119 rfl rfl
            obtain rfl : v119 = .agg #[.slice y1 k1 c1, .slice y2 k2 c2, .slice y3 k3 c3] := s119
            obtain ⟨v121, h121, s121⟩ := hF.dep 9 121 rfl rfl
            obtain rfl : v121 = .slice yd kd cd := s121
            obtain ⟨v122, h122, s122⟩ := hF.dep 10 122 rfl rfl
            obtain rfl : v122 = .slice y9 n c9 := s122
            obtain ⟨v118, h118, s118⟩ := hF.dep 6 118 rfl rfl
            obtain rfl : v118 = .bool true := s118
            have hc := (HU.out u hbu).2.2.2.2.1
            refine free_step rfl (by show (yielded _ a.tmps 6 == some true) = true; unfold yielded; simp [h118]) (fun K' hK => ?_)
            go_wp2_with fail
            refine hc.mono ?_
            rintro e u' ⟨rfl, hb⟩
            go_simp
            exact hK.out _ _ rfl hb
          | 12, ho, hF =>
            obtain rfl := Option.some.inj ho
            obtain ⟨v123, h123, s123⟩ := hF.dep 11 123 rfl rfl
            obtain rfl : v123 = .int .i64 22 := s123
            obtain ⟨v118, h118, s118⟩ := hF.dep 6 118 rfl rfl
            obtain rfl : v118 = .bool true := s118
            refine free_step rfl (by show (yielded _ a.tmps 6 == some true) = true; unfold yielded; simp [h118]) (fun K' hK => ?_)
            go_simp
            exact hK.out _ _ rfl (Below.refl _ _)
          | 13, ho, hF =>
            obtain rfl := Option.some.inj ho
            obtain ⟨v118, h118, s118⟩ := hF.dep 6 118 rfl rfl
            obtain rfl : v118 = .bool true := s118
            obtain ⟨v124, h124, s124⟩ := hF.dep 12 124 rfl rfl
            obtain rfl : v124 = .bool true := s124
            refine free_step rfl (by rfl) (fun K' hK => ?_)
            go_simp
            exact hK.out _ _ rfl (Below.refl _ _)
          | 14, ho, hF =>
            obtain rfl := Option.some.inj ho
            obtain ⟨v125, h125, s125⟩ := hF.dep 13 125 rfl rfl
            obtain rfl : v125 = .bool true := s125
            refine free_step rfl (by rfl) (fun K' hK => ?_)
            go_simp
            exact hK.out _ _ rfl (Below.refl _ _)
          | 15, ho, hF =>
            obtain rfl := Option.some.inj ho
            have h10 : a.tmps[10]? = some (.pointer (some ⟨ql, 0, none⟩)) := (hF.out 10 rfl).trans rfl
            obtain ⟨v126, h126, s126⟩ := hF.dep 14 126 rfl rfl
            obtain rfl : v126 = .bool true := s126
            have g0 := (HU.out u hbu).2.1.1
            have g1 := (HU.out u hbu).2.1.2.1
            have g2 := (HU.out u hbu).2.1.2.2
            refine free_step rfl (by show (yielded _ a.tmps 14 == some true) = true; unfold yielded; simp [h126]) (fun K' hK => ?_)
            go_simp
            exact hK.out _ _ rfl (Below.refl _ _)
          | 16, ho, hF =>
            obtain rfl := Option.some.inj ho
            have h4 : a.tmps[4]? = some (.pointer (some ⟨q, 0, none⟩)) := (hF.out 4 rfl).trans rfl
            obtain ⟨v126, h126, s126⟩ := hF.dep 14 126 rfl rfl
            obtain rfl : v126 = .bool true := s126
            refine free_step rfl (by show (yielded _ a.tmps 14 == some true) = true; unfold yielded; simp [h126]) (fun K' hK => ?_)
            go_simp
            exact hK.out _ _ rfl (Below.refl _ _)
          | 17, ho, hF =>
            obtain rfl := Option.some.inj ho
            obtain ⟨v128, h128, s128⟩ := hF.dep 16 128 rfl rfl
            obtain rfl : v128 = .pointer (some ⟨q, 0, none⟩) := s128
            obtain ⟨v126, h126, s126⟩ := hF.dep 14 126 rfl rfl
            obtain rfl : v126 = .bool true := s126
            have g0 := (HU.out u hbu).2.2.1.1
            refine free_step rfl (by show (yielded _ a.tmps 14 == some true) = true; unfold yielded; simp [h126]) (fun K' hK => ?_)
            go_simp
            exact hK.out _ _ rfl (Below.refl _ _)
          | 18, ho, hF =>
            obtain rfl := Option.some.inj ho
            have h12 : a.tmps[12]? = some (.slice y9 n c9) := (hF.out 12 rfl).trans rfl
            obtain ⟨v126, h126, s126⟩ := hF.dep 14 126 rfl rfl
            obtain rfl : v126 = .bool true := s126
            refine free_step rfl (by show (yielded _ a.tmps 14 == some true) = true; unfold yielded; simp [h126]) (fun K' hK => ?_)
            go_simp
            exact hK.out _ _ rfl (Below.refl _ _)
          | 19, ho, hF =>
            obtain rfl := Option.some.inj ho
            obtain ⟨v127, h127, s127⟩ := hF.dep 15 127 rfl rfl
            obtain rfl : v127 = .agg #[.slice z1 m1 d1, .slice z2 m2 d2, .slice z3 m3 d3] := s127
            obtain ⟨v129, h129, s129⟩ := hF.dep 17 129 rfl rfl
            obtain rfl : v129 = .slice y0 k0 c0 := s129
            obtain ⟨v130, h130, s130⟩ := hF.dep 18 130 rfl rfl
            obtain rfl : v130 = .slice y9 n c9 := s130
            obtain ⟨v126, h126, s126⟩ := hF.dep 14 126 rfl rfl
            obtain rfl : v126 = .bool true := s126
            have hc := (HU.out u hbu).2.2.2.2.2.1
            refine free_step rfl (by show (yielded _ a.tmps 14 == some true) = true; unfold yielded; simp [h126]) (fun K' hK => ?_)
            go_wp2_with fail
            refine hc.mono ?_
            rintro e u' ⟨rfl, hb⟩
            go_simp
            exact hK.out _ _ rfl hb
          | 20, ho, hF =>
            obtain rfl := Option.some.inj ho
            have h10 : a.tmps[10]? = some (.pointer (some ⟨ql, 0, none⟩)) := (hF.out 10 rfl).trans rfl
            obtain ⟨v126, h126, s126⟩ := hF.dep 14 126 rfl rfl
            obtain rfl : v126 = .bool true := s126
            have g0 := (HU.out u hbu).2.1.1
            have g1 := (HU.out u hbu).2.1.2.1
            have g2 := (HU.out u hbu).2.1.2.2
            refine free_step rfl (by show (yielded _ a.tmps 14 == some true) = true; unfold yielded; simp [h126]) (fun K' hK => ?_)
            go_simp
            exact hK.out _ _ rfl (Below.refl _ _)
          | 21, ho, hF =>
            obtain rfl := Option.some.inj ho
            have h4 : a.tmps[4]? = some (.pointer (some ⟨q, 0, none⟩)) := (hF.out 4 rfl).trans rfl
            obtain ⟨v126, h126, s126⟩ := hF.dep 14 126 rfl rfl
            obtain rfl : v126 = .bool true := s126
            refine free_step rfl (by show (yielded _ a.tmps 14 == some true) = true; unfold yielded; simp [h126]) (fun K' hK => ?_)
            go_simp
            exact hK.out _ _ rfl (Below.refl _ _)
          | 22, ho, hF =>
            obtain rfl := Option.some.inj ho
            obtain ⟨v133, h133, s133⟩ := hF.dep 21 133 rfl rfl
            obtain rfl : v133 = .pointer (some ⟨q, 0, none⟩) := s133
            obtain ⟨v126, h126, s126⟩ := hF.dep 14 126 rfl rfl
            obtain rfl : v126 = .bool true := s126
            have g0 := (HU.out u hbu).2.2.1.1
            refine free_step rfl (by show (yielded _ a.tmps 14 == some true) = true; unfold yielded; simp [h126]) (fun K' hK => ?_)
            go_simp
            exact hK.out _ _ rfl (Below.refl _ _)
          | 23, ho, hF =>
            obtain rfl := Option.some.inj ho
            have h12 : a.tmps[12]? = some (.slice y9 n c9) := (hF.out 12 rfl).trans rfl
            obtain ⟨v126, h126, s126⟩ := hF.dep 14 126 rfl rfl
            obtain rfl : v126 = .bool true := s126
            refine free_step rfl (by show (yielded _ a.tmps 14 == some true) = true; unfold yielded; simp [h126]) (fun K' hK => ?_)
            go_simp
            exact hK.out _ _ rfl (Below.refl _ _)
          | 24, ho, hF =>
            obtain rfl := Option.some.inj ho
            obtain ⟨v132, h132, s132⟩ := hF.dep 20 132 rfl rfl
            obtain rfl : v132 = .agg #[.slice z1 m1 d1, .slice z2 m2 d2, .slice z3 m3 d3] := s132
            obtain ⟨v134, h134, s134⟩ := hF.dep 22 134 rfl rfl
            obtain rfl : v134 = .slice y0 k0 c0 := s134
            obtain ⟨v135, h135, s135⟩ := hF.dep 23 135 rfl rfl
            obtain rfl : v135 = .slice y9 n c9 := s135
            obtain ⟨v126, h126, s126⟩ := hF.dep 14 126 rfl rfl
            obtain rfl : v126 = .bool true := s126
            have hc := (HU.out u hbu).2.2.2.2.2.2.1
            refine free_step rfl (by show (yielded _ a.tmps 14 == some true) = true; unfold yielded; simp [h126]) (fun K' hK => ?_)
            go_wp2_with fail
            refine hc.mono ?_
            rintro e u' ⟨rfl, hb⟩
            go_simp
            exact hK.out _ _ rfl hb
          | 25, ho, hF =>
            obtain rfl := Option.some.inj ho
            obtain ⟨v131, h131, s131⟩ := hF.dep 19 131 rfl rfl
            obtain rfl : v131 = .int .i64 Z := s131
            obtain ⟨v136, h136, s136⟩ := hF.dep 24 136 rfl rfl
            obtain rfl : v136 = .int .i64 Z := s136
            obtain ⟨v126, h126, s126⟩ := hF.dep 14 126 rfl rfl
            obtain rfl : v126 = .bool true := s126
            refine free_step rfl (by show (yielded _ a.tmps 14 == some true) = true; unfold yielded; simp [h126]) (fun K' hK => ?_)
            go_simp
            exact hK.out _ _ rfl (Below.refl _ _)
          | 26, ho, hF =>
            obtain rfl := Option.some.inj ho
            obtain ⟨v126, h126, s126⟩ := hF.dep 14 126 rfl rfl
            obtain rfl : v126 = .bool true := s126
            obtain ⟨v137, h137, s137⟩ := hF.dep 25 137 rfl rfl
            obtain rfl : v137 = .bool true := s137
            refine free_step rfl (by rfl) (fun K' hK => ?_)
            go_simp
            exact hK.out _ _ rfl (Below.refl _ _)
          | 27, ho, hF =>
            obtain rfl := Option.some.inj ho
            obtain ⟨v138, h138, s138⟩ := hF.dep 26 138 rfl rfl
            obtain rfl : v138 = .bool true := s138
            refine free_step rfl (by rfl) (fun K' hK => ?_)
            go_simp
            exact hK.out _ _ rfl (Below.refl _ _)
          | n + 28, ho, _ => exact absurd (Array.getElem?_eq_some_iff.1 ho).1 (by show ¬ n + 28 < 28; omega)
        · intro vs u hS hbu
          have e27 : vs 27 = (.bool true) := hS 27 6 rfl
          simp only [putFrom, Act.put, List.setIfInBounds_toArray, List.set_cons_succ, List.set_cons_zero, Nat.reduceAdd]
          rw [e27]
          clear hS e27
          generalize vs 0 = z0
          generalize vs 1 = z1
          generalize vs 2 = z2
          generalize vs 3 = z3
          generalize vs 4 = z4
          generalize vs 5 = z5
          generalize vs 6 = z6
          generalize vs 7 = z7
          generalize vs 8 = z8
          generalize vs 9 = z9
          generalize vs 10 = z10
          generalize vs 11 = z11
          generalize vs 12 = z12
          generalize vs 13 = z13
          generalize vs 14 = z14
          generalize vs 15 = z15
          generalize vs 16 = z16
          generalize vs 17 = z17
          generalize vs 18 = z18
          generalize vs 19 = z19
          generalize vs 20 = z20
          generalize vs 21 = z21
          generalize vs 22 = z22
          generalize vs 23 = z23
          generalize vs 24 = z24
          generalize vs 25 = z25
          generalize vs 26 = z26
          have HF := show Hid (Below w.heap.size w u) from (HU.out u hbu).2.2.2.2.2.2.2
          clear hbu HU
          go_wp2_with fail
          go_ret
          exact ⟨rfl, HF.out⟩
theorem isb_selfT {w : World} {v : Value} {s : ByteArray} (h : IsBytes w v s) : IsBytes w v ⟨s.data.toList.toArray⟩ := by
  have e : (⟨s.data.toList.toArray⟩ : ByteArray) = s := by cases s; simp
  rw [e]
  exact h
theorem lqTurnedB (i bit : Int) (v0 v1 : Value) (s t : ByteArray) (w : World) (h0 : IsBytes w v0 s) (h1 : IsBytes w v1 t) (hK : KTab w) :
    Calls Tryz.prog 5 #[.int .i64 i, .agg #[v0, v1], .int .i64 bit] w fun e w' => e = .returned (.bool true) ∧ Below w.heap.size w w' :=
  lqTurned_any i bit v0 v1 _ _ w (isb_selfT h0) (isb_selfT h1) hK
end Go.Proofs.YtpcmpeeflnlkpaaGreatDoor

/-
  A [][]byte that came in, told by its texts.
-/
namespace Go.Proofs.YtpcmpeeflnlkpaaGreatDoor
open Go.ChangeShapes Go.WideShapes Go.ChangeAt Go.RowKit Ch
set_option maxRecDepth 100000

theorem cellsSl : Tryz.prog.cellsOf 22 = 1 := by kernel_rfl
theorem slice_cells {H : Type} {enc : TypeId × Value → H} {W : World} {base : Nat} {sp : Nat → Bool} {held : Bool} {n : Nat} {cs : List Value} {x : DataW H × List MemPlace}
    (h : DataW.trod enc Tryz.prog W base sp held n 22 cs = some x) : ∃ (u : Value) (t : ByteArray), cs = [u] ∧ IsBytes W u t := by
  have h' := h
  rcases DataW.trod_slice Tryz.underlying22 h with ⟨hcs, _⟩ | ⟨y, ln, cp, elems, rest, m, _, hcs, _⟩
  · subst hcs
    obtain ⟨s, hs, hb⟩ := bytes_arg (a := none) (len := 0) (cap := 0) (d := x.1) (p := x.2) ⟨n, h'⟩
    exact ⟨_, s, rfl, hb⟩
  · subst hcs
    obtain ⟨s, hs, hb⟩ := bytes_arg (a := some y) (len := ln) (cap := cp) (d := x.1) (p := x.2) ⟨n, h'⟩
    exact ⟨_, s, rfl, hb⟩
end Go.Proofs.YtpcmpeeflnlkpaaGreatDoor

namespace Go.Proofs.YtpcmpeeflnlkpaaGreatDoor
open Go.ChangeShapes Go.WideShapes Go.ChangeAt Go.RowKit Ch
set_option maxRecDepth 100000

theorem okWide_two {P : Program} {w : World} {r : Reach} {base : Nat} {t : TypeId} {v : Value} {n : Nat} {e : TypeId} (ht : P.underlying t = some (.array n e)) (h : Value.okWide P w r base t v) : ∃ cs, v = .agg cs ∧ cs.size = P.cellsOf t := by
  simp only [Value.okWide, ht] at h
  obtain ⟨cs, h1, h2, _⟩ := h
  exact ⟨cs, h1, h2⟩
theorem two_arg {H : Type} {enc : TypeId × Value → H} {W : World} {cs : Array Value} {d : DataW H} {p : List MemPlace} {base : Nat} {sp : Nat → Bool} {held : Bool} (hsz : cs.size = 2)
    (h : DataW.Trod enc Tryz.prog W base sp held 36 (.agg cs) d p) : ∃ x y cx cy s t, cs = #[.slice x s.size cx, .slice y t.size cy] ∧ IsBytes W (.slice x s.size cx) s ∧ IsBytes W (.slice y t.size cy) t := by
  obtain ⟨fuel, hf⟩ := h
  obtain ⟨xs, m, _, _, _, hl, hel⟩ := DataW.trod_array Tryz.underlying36 hf
  have key : ∀ i, i < 2 → ∃ u t, cs[i]? = some u ∧ IsBytes W u t := fun i hi => by
    have h1 := hel i hi
    rw [cellsSl, Nat.mul_one, List.getElem?_eq_getElem (by omega)] at h1
    obtain ⟨u, t, hu, hut⟩ := slice_cells h1
    refine ⟨u, t, ?_, hut⟩
    have h2 : ((cs.toList.drop i).take 1)[0]? = some u := by
      have : (Value.agg cs).cells.toList = cs.toList := rfl
      rw [this] at hu
      rw [hu]; rfl
    simpa using h2
  obtain ⟨u0, s, h0, hs⟩ := key 0 (by omega)
  obtain ⟨u1, t, h1, ht⟩ := key 1 (by omega)
  obtain ⟨x, cx, rfl, _⟩ := id hs
  obtain ⟨y, cy, rfl, _⟩ := id ht
  refine ⟨x, y, cx, cy, s, t, ?_, hs, ht⟩
  apply Array.ext_getElem?
  intro i
  rcases i with _ | _ | i
  · simpa using h0
  · simpa using h1
  · rw [Array.getElem?_eq_none (by omega)]
    simp
end Go.Proofs.YtpcmpeeflnlkpaaGreatDoor
