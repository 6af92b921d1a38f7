/-
  The document's below: is a power at most a prime's?
-/
import Derived.Test.YtpcmpeeflnlkpaaGreatDoorQVerEtc
namespace Go.Proofs.YtpcmpeeflnlkpaaGreatDoor
open Go.RowKit Ch
set_option maxRecDepth 100000

theorem partsN_64 (n i : Nat) : All64 (partsN n i) := by
  intro j
  unfold atN partsN
  rw [List.getElem?_map]
  by_cases h : j < i
  · rw [List.getElem?_range h]
    show dv n j % 65536 < M64
    unfold M64; omega
  · rw [List.getElem?_eq_none (by simp; omega)]
    show 0 < M64
    unfold M64; omega
theorem timesN_64 (a b : List Nat) : All64 (timesN a b) := outS_64 a b _
theorem timesN_length (a b : List Nat) : (timesN a b).length = a.length + b.length := outS_length a b _
theorem partsN_length (n i : Nat) : (partsN n i).length = i := by simp [partsN]
def powN (y : Nat) (cube : Bool) : List Nat := if cube then timesN (timesN (partsN y 4) (partsN y 4)) (partsN y 4) else timesN (partsN y 4) (partsN y 4)
def padN (p : Nat) (cube : Bool) : List Nat := if cube then List.replicate 6 0 ++ partsN p 4 ++ [0, 0] else List.replicate 4 0 ++ partsN p 4
theorem powN_length (y : Nat) (cube : Bool) : (powN y cube).length = if cube then 12 else 8 := by
  unfold powN
  cases cube <;> simp [timesN_length, partsN_length]
theorem padN_length (p : Nat) (cube : Bool) : (padN p cube).length = if cube then 12 else 8 := by
  unfold padN
  cases cube <;> simp [partsN_length]
theorem powN_64 (y : Nat) (cube : Bool) : All64 (powN y cube) := by
  unfold powN
  split <;> exact timesN_64 _ _
theorem padN_64 (p : Nat) (cube : Bool) : All64 (padN p cube) := by
  have h0 : ∀ n : Nat, All64 (List.replicate n 0) := fun n j => by
    unfold atN
    rw [List.getElem?_replicate]
    split <;> (show 0 < M64; unfold M64; omega)
  have happ : ∀ {a b : List Nat}, All64 a → All64 b → All64 (a ++ b) := fun {a b} ha hb j => by
    unfold atN
    rw [List.getElem?_append]
    split
    · exact ha j
    · exact hb _
  unfold padN
  split
  · exact happ (happ (h0 6) (partsN_64 _ _)) (h0 2)
  · exact happ (h0 4) (partsN_64 _ _)
theorem pad_step (L : List Nat) (N : Nat) (h : L.length < N) : (L ++ [0]) ++ List.replicate (N - (L ++ [0]).length) 0 = L ++ List.replicate (N - L.length) 0 := by
  have h1 : N - L.length = (N - (L ++ [0]).length) + 1 := by simp; omega
  rw [h1, List.replicate_succ, List.append_assoc]
  rfl
theorem powN_true (y : Nat) : powN y true = timesN (timesN (partsN y 4) (partsN y 4)) (partsN y 4) := by unfold powN; rw [if_pos rfl]
theorem powN_false (y : Nat) : powN y false = timesN (partsN y 4) (partsN y 4) := by unfold powN; rw [if_neg (by simp)]
/-- Compared from the top. -/
def leN (v w : List Nat) : Nat → Bool
  | 0 => true
  | i + 1 => if atN v i = atN w i then leN v w i else decide (atN v i < atN w i)
def belowN (y p : Nat) (cube : Bool) : Bool := leN (powN y cube) (padN p cube) (if cube then 12 else 8)
theorem belowN_true (y p : Nat) : belowN y p true = leN (powN y true) (padN p true) 12 := by unfold belowN; rw [if_pos rfl]
theorem belowN_false (y p : Nat) : belowN y p false = leN (powN y false) (padN p false) 8 := by unfold belowN; rw [if_neg (by simp)]
set_option maxHeartbeats 4000000 in
theorem vBelow_false (y p : Nat) (w : World) (hy : y < 18446744073709551616) (hp : p < 18446744073709551616) :
    Calls Tryz.prog 90 #[.int .u64 (y : Int), .int .u64 (p : Int), .bool false] w fun e w' => e = .returned (.bool (belowN y p false)) ∧ Below w.heap.size w w' := by
  go_enter Tryz.func90, Tryz.ntmps90
  go_wp2_with fail
  refine (vParts_any y w hy).mono ?_
  rintro e w1 ⟨⟨v1, rfl, ho1⟩, hb1⟩
  go_wp2_with fail
  refine (vParts_any y w1 hy).mono ?_
  rintro e w2 ⟨⟨v2, rfl, ho2⟩, hb2⟩
  obtain ⟨a1, c1, rfl⟩ := own_shape ho1
  obtain ⟨a2, c2, rfl⟩ := own_shape ho2
  have h64 := partsN_64 y 4
  have hl4 : (partsN y 4).length ≤ 1000 := by rw [partsN_length]; omega
  go_wp2_with fail
  refine (vTimes_any a1 a2 c1 c2 _ _ w2 ((own_n ho1).later hb2) (own_n ho2) hl4 hl4 h64 h64).mono ?_
  rintro e w3 ⟨⟨v3, rfl, ho3⟩, hb3⟩
  have hb13 : Below w.heap.size w w3 := hb1.trans ((hb2.trans (hb3.mono hb2.size)).mono hb1.size)
  have hV5 : IsN .u64 w3 v3 (powN y false) := by rw [powN_false]; exact own_n ho3
  obtain ⟨w5, hw5⟩ : ∃ w5, w5 = w3 := ⟨_, rfl⟩
  obtain ⟨v5, hv5⟩ : ∃ v5, v5 = v3 := ⟨_, rfl⟩
  subst hw5 hv5
  have hb15 := hb13
  have hpl : (powN y false).length = 8 := by rw [powN_length]; rfl
  have hV64 := powN_64 y false
  obtain ⟨V, hV⟩ : ∃ V, powN y false = V := ⟨_, rfl⟩
  obtain ⟨W, hW⟩ : ∃ W, padN p false = W := ⟨_, rfl⟩
  have HB := show Hid (belowN y p false = leN V W 8) from by unfold Hid; rw [belowN_false, hV, hW]
  have hwl : (padN p false).length = 8 := by rw [padN_length]; rfl
  have hW64 := padN_64 p false
  have HWP := show Hid (padN p false = W) from hW
  rw [hV] at hV5 hpl hV64
  rw [hW] at hwl hW64
  have hsh : ∃ a5 c5, v5 = .slice a5 V.length c5 := by obtain ⟨a, c, h, _⟩ := hV5; exact ⟨a, c, h⟩
  obtain ⟨a5, c5, rfl⟩ := hsh
  rw [hpl] at hV5 ⊢
  have HL := show Hid (V.length = 8 ∧ W.length = 8 ∧ All64 V ∧ All64 W) from ⟨hpl, hwl, hV64, hW64⟩
  have HV := show Hid (IsN .u64 w5 (.slice a5 8 c5) V) from hV5
  clear hV5 hpl hwl hV64 hW64 hV hW ho1 ho2 ho3 h64 hl4 hb1 hb2 hb3 hb13
  go_wp2_with (at_make; go_must (refine wpList_make_n R64 w5 rfl _ _ rfl .i64 .i64 _ _ 4 rfl rfl rfl rfl (by omega) ?_; intro w6 ho6 hb6))
  refine (vParts_any p w6 hp).mono ?_
  rintro e w7 ⟨⟨v7, rfl, ho7⟩, hb7⟩
  have hI7 := own_n ho7
  have ho67 := ownsRow_later ho6 hb7
  have hb67 := hb6.trans (hb7.mono hb6.size)
  obtain ⟨L0, hL0⟩ : ∃ L0, List.replicate 4 0 ++ partsN p 4 = L0 := ⟨_, rfl⟩
  have HE := show Hid (List.replicate 4 0 ++ partsN p 4 = L0) from hL0
  clear hL0
  have h10 : (List.replicate 4 0).length + (partsN p 4).length ≤ 1000000 := by rw [partsN_length, List.length_replicate]; omega
  have hz7 := hb67.size
  go_wp2_with (at_builtin; go_must (refine wpList_append_ns R64 rfl _ _ rfl w5.heap.size _ _ rfl ho67 _ _ rfl hI7 _ HE h10 hz7 ?_; intro v8 w8 ho8 hb8))
  have hb58 : Below w5.heap.size w5 w8 := hb67.trans hb8
  have hw10 : L0.length = 8 := by rw [← HE.out, List.length_append, partsN_length, List.length_replicate]
  have HS := show Hid (L0 ++ List.replicate (8 - L0.length) 0 = W) from by unfold Hid; rw [hw10, ← HWP.out, ← HE.out]; simp [padN]
  clear ho6 ho7 ho67 hI7 hb67 hb6 hb7 HE h10 HWP hz7
  go_loopw [9] (fun u wr => ∃ (L : List Nat) (a c m : Nat) (x : Option Addr), u = .slice x m c ∧ Hid (m = L.length ∧ a = 0) ∧ m ≤ 8 ∧ wr.ownsRow w5.heap.size 62 1 (.slice x m c) L.length (kc .u64 L) ∧ Hid (L ++ List.replicate (8 - L.length) 0 = W) ∧ Below w5.heap.size w5 wr) (fun u _ => 8 - lenOf u)
  case atStart =>
    obtain ⟨x, c, rfl⟩ := own_shape ho8
    exact ⟨L0, 0, c, L0.length, x, rfl, ⟨rfl, rfl⟩, by rw [hw10]; omega, ho8, HS, hb58⟩
  case round =>
    obtain ⟨L, a, c, m, x, rfl, hm, hm2, ho, hS, hb⟩ := hrel
    by_cases hlt : m < 8
    · have hlt2 : (m : Int) < 8 := by omega
      have hz := hb.size
      have hLl : L.length ≤ 1000000 := by have := hm.out.1; omega
      obtain ⟨L1, hL1⟩ : ∃ L1, L ++ [0] = L1 := ⟨_, rfl⟩
      have HE := show Hid (L ++ [0] = L1) from hL1
      clear hL1
      go_wp2_with (at_builtin; go_must (refine wpList_append_n R64 rfl _ _ rfl w5.heap.size _ _ rfl ho _ rfl 0 rfl _ HE hLl hz hb ?_; intro v9 w9 ho9 hb9))
      obtain ⟨x9, c9, rfl⟩ := own_shape ho9
      go_roundw
      case rel => exact ⟨L1, 0, c9, L1.length, x9, rfl, ⟨rfl, rfl⟩, by rw [← HE.out, List.length_append]; have := hm.out.1; simp; omega, ho9, by
        unfold Hid
        rw [← hS.out, ← HE.out]
        exact pad_step L 8 (by have := hm.out.1; omega), hb9⟩
      case measure => simp [lenOf]; have := hm.out.1; have : L1.length = L.length + 1 := by rw [← HE.out]; simp
                      omega
    · have hlt2 : ¬ (m : Int) < 8 := by omega
      have hLW : L = W := by
        have := hS.out
        rw [show 8 - L.length = 0 by have := hm.out.1; omega, List.replicate_zero, List.append_nil] at this
        exact this
      subst hLW
      obtain rfl : m = 8 := by omega
      have HIW := show Hid (IsN .u64 wr (.slice x 8 c) L ∧ IsN .u64 wr (.slice a5 8 c5) V) from ⟨own_n ho, HV.out.later hb⟩
      have hbw := hb15.trans (hb.mono hb15.size)
      obtain ⟨w9, hw9⟩ : ∃ w9, w9 = wr := ⟨_, rfl⟩
      subst hw9
      clear hS ho hm HS
      go_wp2_with fail
      go_loopw [10] (fun t wr => ∃ (i : Nat) (z : Int), i ≤ 8 ∧ z = (i : Int) - 1 ∧ t = .int .i64 z ∧ Hid (leN V L 8 = leN V L i) ∧ Below w9.heap.size w9 wr) (fun t _ => (intOf t + 1).toNat)
      case atStart => exact ⟨8, 7, by omega, by omega, rfl, rfl, Below.refl _ _⟩
      case round =>
        obtain ⟨i, z, hi, hz, rfl, hle, hbr⟩ := hrel
        rcases i with _ | i
        · have hz1 : z = -1 := by omega
          clear hz
          subst hz1
          have hneg : ¬ (0 : Int) ≤ -1 := by omega
          have hb9 := hbw.trans (hbr.mono hbw.size)
          have HR := show Hid (belowN y p false = true) from by unfold Hid; rw [HB.out, hle.out]; rfl
          go_wp2_with fail
          go_ret
          exact ⟨by rw [HR.out]; rfl, hb9⟩
        · have hz1 : z = (i : Int) := by omega
          clear hz
          subst hz1
          have hge : (0 : Int) ≤ (i : Int) := by omega
          have hiN : i < 8 := by omega
          have hiN2 : (i : Int) < 8 := by omega
          obtain ⟨A, hA⟩ : ∃ A, atN V i = A := ⟨_, rfl⟩
          obtain ⟨B, hB⟩ : ∃ B, atN L i = B := ⟨_, rfl⟩
          have hA64 := HL.out.2.2.1 i
          have hB64 := HL.out.2.2.2 i
          rw [hA] at hA64
          rw [hB] at hB64
          have hAs : V[i]? = some A := by rw [← hA]; exact atN_some (by rw [HL.out.1]; exact hiN)
          have hBs : L[i]? = some B := by rw [← hB]; exact atN_some (by rw [HL.out.2.1]; exact hiN)
          obtain ⟨x1, ba, oa, rfl, hal, gA⟩ := IsN.cellAt (HIW.out.2.later hbr) hAs
          obtain ⟨x2, bb, ob, rfl, hbl, gB⟩ := IsN.cellAt (HIW.out.1.later hbr) hBs
          have HSt := show Hid (leN V L 8 = if A = B then leN V L i else decide (A < B)) from by unfold Hid; rw [hle.out, leN, hA, hB]
          clear x1 x2 hAs hBs hA hB
          by_cases hAB : A = B
          · have hne : ((A : Int) == (B : Int)) = true := by simp [hAB]
            have hq := HSt.out
            rw [if_pos hAB] at hq
            have HQ := show Hid (leN V L 8 = leN V L i) from hq
            clear hq HSt
            subst hAB
            go_wp2_with fail
            go_quiet (fail)
            have hbq := below_drewN hbr nq
            generalize wr.drewN nq = wq at *
            go_wp2_with fail
            go_roundw
            case rel => exact ⟨i, (i : Int) - 1, by omega, rfl, by go_num, HQ.out, hbq⟩
            case measure => first | (simp [intOf]; done) | (simp [intOf]; omega)
          · have hne : ((A : Int) == (B : Int)) = false := by simp; omega
            have hne2 : ((A : Int) != (B : Int)) = true := by simp; omega
            have hq := HSt.out
            rw [if_neg hAB] at hq
            have HQ := show Hid (belowN y p false = decide (A < B)) from by unfold Hid; rw [HB.out]; exact hq
            clear hq HSt
            go_wp2_with fail
            go_quiet (fail)
            have hbq := below_drewN hbr nq
            have gA2 := (World.cell?_drewN wr nq ⟨ba, oa + i, none⟩).trans gA
            have gB2 := (World.cell?_drewN wr nq ⟨bb, ob + i, none⟩).trans gB
            generalize wr.drewN nq = wq at *
            clear gA gB hbr
            go_wp2_with fail
            go_quiet (fail)
            have hbq2 := below_drewN hbq nq
            have hb9 := hbw.trans (hbq2.mono hbw.size)
            go_wp2_with fail
            go_ret
            refine ⟨?_, hb9⟩
            rw [HQ.out]
            by_cases h : A < B <;> simp [h]
set_option maxHeartbeats 4000000 in
theorem vBelow_true (y p : Nat) (w : World) (hy : y < 18446744073709551616) (hp : p < 18446744073709551616) :
    Calls Tryz.prog 90 #[.int .u64 (y : Int), .int .u64 (p : Int), .bool true] w fun e w' => e = .returned (.bool (belowN y p true)) ∧ Below w.heap.size w w' := by
  go_enter Tryz.func90, Tryz.ntmps90
  go_wp2_with fail
  refine (vParts_any y w hy).mono ?_
  rintro e w1 ⟨⟨v1, rfl, ho1⟩, hb1⟩
  go_wp2_with fail
  refine (vParts_any y w1 hy).mono ?_
  rintro e w2 ⟨⟨v2, rfl, ho2⟩, hb2⟩
  obtain ⟨a1, c1, rfl⟩ := own_shape ho1
  obtain ⟨a2, c2, rfl⟩ := own_shape ho2
  have h64 := partsN_64 y 4
  have hl4 : (partsN y 4).length ≤ 1000 := by rw [partsN_length]; omega
  go_wp2_with fail
  refine (vTimes_any a1 a2 c1 c2 _ _ w2 ((own_n ho1).later hb2) (own_n ho2) hl4 hl4 h64 h64).mono ?_
  rintro e w3 ⟨⟨v3, rfl, ho3⟩, hb3⟩
  have hb13 : Below w.heap.size w w3 := hb1.trans ((hb2.trans (hb3.mono hb2.size)).mono hb1.size)
  obtain ⟨a3, c3, rfl⟩ := own_shape ho3
  go_wp2_with fail
  refine (vParts_any y w3 hy).mono ?_
  rintro e w4 ⟨⟨v4, rfl, ho4⟩, hb4⟩
  obtain ⟨a4, c4, rfl⟩ := own_shape ho4
  go_wp2_with fail
  refine (vTimes_any a3 a4 c3 c4 _ _ w4 ((own_n ho3).later hb4) (own_n ho4) (by rw [timesN_length, partsN_length]; omega) hl4 (timesN_64 _ _) h64).mono ?_
  rintro e w5 ⟨⟨v5, rfl, ho5⟩, hb5⟩
  have hb15 : Below w.heap.size w w5 := hb13.trans ((hb4.trans (hb5.mono hb4.size)).mono hb13.size)
  have hV5 : IsN .u64 w5 v5 (powN y true) := by rw [powN_true]; exact own_n ho5
  have hpl : (powN y true).length = 12 := by rw [powN_length]; rfl
  have hV64 := powN_64 y true
  obtain ⟨V, hV⟩ : ∃ V, powN y true = V := ⟨_, rfl⟩
  obtain ⟨W, hW⟩ : ∃ W, padN p true = W := ⟨_, rfl⟩
  have HB := show Hid (belowN y p true = leN V W 12) from by unfold Hid; rw [belowN_true, hV, hW]
  have hwl : (padN p true).length = 12 := by rw [padN_length]; rfl
  have hW64 := padN_64 p true
  have HWP := show Hid (padN p true = W) from hW
  rw [hV] at hV5 hpl hV64
  rw [hW] at hwl hW64
  have hsh : ∃ a5 c5, v5 = .slice a5 V.length c5 := by obtain ⟨a, c, h, _⟩ := hV5; exact ⟨a, c, h⟩
  obtain ⟨a5, c5, rfl⟩ := hsh
  rw [hpl] at hV5 ⊢
  have HL := show Hid (V.length = 12 ∧ W.length = 12 ∧ All64 V ∧ All64 W) from ⟨hpl, hwl, hV64, hW64⟩
  have HV := show Hid (IsN .u64 w5 (.slice a5 12 c5) V) from hV5
  clear hV5 hpl hwl hV64 hW64 hV hW ho1 ho2 ho3 h64 hl4 hb1 hb2 hb3 hb13
  go_wp2_with (at_make; go_must (refine wpList_make_n R64 w5 rfl _ _ rfl .i64 .i64 _ _ 6 rfl rfl rfl rfl (by omega) ?_; intro w6 ho6 hb6))
  refine (vParts_any p w6 hp).mono ?_
  rintro e w7 ⟨⟨v7, rfl, ho7⟩, hb7⟩
  have hI7 := own_n ho7
  have ho67 := ownsRow_later ho6 hb7
  have hb67 := hb6.trans (hb7.mono hb6.size)
  obtain ⟨L0, hL0⟩ : ∃ L0, List.replicate 6 0 ++ partsN p 4 = L0 := ⟨_, rfl⟩
  have HE := show Hid (List.replicate 6 0 ++ partsN p 4 = L0) from hL0
  clear hL0
  have h10 : (List.replicate 6 0).length + (partsN p 4).length ≤ 1000000 := by rw [partsN_length, List.length_replicate]; omega
  have hz7 := hb67.size
  go_wp2_with (at_builtin; go_must (refine wpList_append_ns R64 rfl _ _ rfl w5.heap.size _ _ rfl ho67 _ _ rfl hI7 _ HE h10 hz7 ?_; intro v8 w8 ho8 hb8))
  have hb58 : Below w5.heap.size w5 w8 := hb67.trans hb8
  have hw10 : L0.length = 10 := by rw [← HE.out, List.length_append, partsN_length, List.length_replicate]
  have HS := show Hid (L0 ++ List.replicate (12 - L0.length) 0 = W) from by unfold Hid; rw [hw10, ← HWP.out, ← HE.out]; simp [padN]
  clear ho6 ho7 ho67 hI7 hb67 hb6 hb7 HE h10 HWP hz7
  go_loopw [9] (fun u wr => ∃ (L : List Nat) (a c m : Nat) (x : Option Addr), u = .slice x m c ∧ Hid (m = L.length ∧ a = 0) ∧ m ≤ 12 ∧ wr.ownsRow w5.heap.size 62 1 (.slice x m c) L.length (kc .u64 L) ∧ Hid (L ++ List.replicate (12 - L.length) 0 = W) ∧ Below w5.heap.size w5 wr) (fun u _ => 12 - lenOf u)
  case atStart =>
    obtain ⟨x, c, rfl⟩ := own_shape ho8
    exact ⟨L0, 0, c, L0.length, x, rfl, ⟨rfl, rfl⟩, by rw [hw10]; omega, ho8, HS, hb58⟩
  case round =>
    obtain ⟨L, a, c, m, x, rfl, hm, hm2, ho, hS, hb⟩ := hrel
    by_cases hlt : m < 12
    · have hlt2 : (m : Int) < 12 := by omega
      have hz := hb.size
      have hLl : L.length ≤ 1000000 := by have := hm.out.1; omega
      obtain ⟨L1, hL1⟩ : ∃ L1, L ++ [0] = L1 := ⟨_, rfl⟩
      have HE := show Hid (L ++ [0] = L1) from hL1
      clear hL1
      go_wp2_with (at_builtin; go_must (refine wpList_append_n R64 rfl _ _ rfl w5.heap.size _ _ rfl ho _ rfl 0 rfl _ HE hLl hz hb ?_; intro v9 w9 ho9 hb9))
      obtain ⟨x9, c9, rfl⟩ := own_shape ho9
      go_roundw
      case rel => exact ⟨L1, 0, c9, L1.length, x9, rfl, ⟨rfl, rfl⟩, by rw [← HE.out, List.length_append]; have := hm.out.1; simp; omega, ho9, by
        unfold Hid
        rw [← hS.out, ← HE.out]
        exact pad_step L 12 (by have := hm.out.1; omega), hb9⟩
      case measure => simp [lenOf]; have := hm.out.1; have : L1.length = L.length + 1 := by rw [← HE.out]; simp
                      omega
    · have hlt2 : ¬ (m : Int) < 12 := by omega
      have hLW : L = W := by
        have := hS.out
        rw [show 12 - L.length = 0 by have := hm.out.1; omega, List.replicate_zero, List.append_nil] at this
        exact this
      subst hLW
      obtain rfl : m = 12 := by omega
      have HIW := show Hid (IsN .u64 wr (.slice x 12 c) L ∧ IsN .u64 wr (.slice a5 12 c5) V) from ⟨own_n ho, HV.out.later hb⟩
      have hbw := hb15.trans (hb.mono hb15.size)
      obtain ⟨w9, hw9⟩ : ∃ w9, w9 = wr := ⟨_, rfl⟩
      subst hw9
      clear hS ho hm HS
      go_wp2_with fail
      go_loopw [10] (fun t wr => ∃ (i : Nat) (z : Int), i ≤ 12 ∧ z = (i : Int) - 1 ∧ t = .int .i64 z ∧ Hid (leN V L 12 = leN V L i) ∧ Below w9.heap.size w9 wr) (fun t _ => (intOf t + 1).toNat)
      case atStart => exact ⟨12, 11, by omega, by omega, rfl, rfl, Below.refl _ _⟩
      case round =>
        obtain ⟨i, z, hi, hz, rfl, hle, hbr⟩ := hrel
        rcases i with _ | i
        · have hz1 : z = -1 := by omega
          clear hz
          subst hz1
          have hneg : ¬ (0 : Int) ≤ -1 := by omega
          have hb9 := hbw.trans (hbr.mono hbw.size)
          have HR := show Hid (belowN y p true = true) from by unfold Hid; rw [HB.out, hle.out]; rfl
          go_wp2_with fail
          go_ret
          exact ⟨by rw [HR.out]; rfl, hb9⟩
        · have hz1 : z = (i : Int) := by omega
          clear hz
          subst hz1
          have hge : (0 : Int) ≤ (i : Int) := by omega
          have hiN : i < 12 := by omega
          have hiN2 : (i : Int) < 12 := by omega
          obtain ⟨A, hA⟩ : ∃ A, atN V i = A := ⟨_, rfl⟩
          obtain ⟨B, hB⟩ : ∃ B, atN L i = B := ⟨_, rfl⟩
          have hA64 := HL.out.2.2.1 i
          have hB64 := HL.out.2.2.2 i
          rw [hA] at hA64
          rw [hB] at hB64
          have hAs : V[i]? = some A := by rw [← hA]; exact atN_some (by rw [HL.out.1]; exact hiN)
          have hBs : L[i]? = some B := by rw [← hB]; exact atN_some (by rw [HL.out.2.1]; exact hiN)
          obtain ⟨x1, ba, oa, rfl, hal, gA⟩ := IsN.cellAt (HIW.out.2.later hbr) hAs
          obtain ⟨x2, bb, ob, rfl, hbl, gB⟩ := IsN.cellAt (HIW.out.1.later hbr) hBs
          have HSt := show Hid (leN V L 12 = if A = B then leN V L i else decide (A < B)) from by unfold Hid; rw [hle.out, leN, hA, hB]
          clear x1 x2 hAs hBs hA hB
          by_cases hAB : A = B
          · have hne : ((A : Int) == (B : Int)) = true := by simp [hAB]
            have hq := HSt.out
            rw [if_pos hAB] at hq
            have HQ := show Hid (leN V L 12 = leN V L i) from hq
            clear hq HSt
            subst hAB
            go_wp2_with fail
            go_quiet (fail)
            have hbq := below_drewN hbr nq
            generalize wr.drewN nq = wq at *
            go_wp2_with fail
            go_roundw
            case rel => exact ⟨i, (i : Int) - 1, by omega, rfl, by go_num, HQ.out, hbq⟩
            case measure => first | (simp [intOf]; done) | (simp [intOf]; omega)
          · have hne : ((A : Int) == (B : Int)) = false := by simp; omega
            have hne2 : ((A : Int) != (B : Int)) = true := by simp; omega
            have hq := HSt.out
            rw [if_neg hAB] at hq
            have HQ := show Hid (belowN y p true = decide (A < B)) from by unfold Hid; rw [HB.out]; exact hq
            clear hq HSt
            go_wp2_with fail
            go_quiet (fail)
            have hbq := below_drewN hbr nq
            have gA2 := (World.cell?_drewN wr nq ⟨ba, oa + i, none⟩).trans gA
            have gB2 := (World.cell?_drewN wr nq ⟨bb, ob + i, none⟩).trans gB
            generalize wr.drewN nq = wq at *
            clear gA gB hbr
            go_wp2_with fail
            go_quiet (fail)
            have hbq2 := below_drewN hbq nq
            have hb9 := hbw.trans (hbq2.mono hbw.size)
            go_wp2_with fail
            go_ret
            refine ⟨?_, hb9⟩
            rw [HQ.out]
            by_cases h : A < B <;> simp [h]
theorem vBelow_any (y p : Nat) (cube : Bool) (w : World) (hy : y < 18446744073709551616) (hp : p < 18446744073709551616) :
    Calls Tryz.prog 90 #[.int .u64 (y : Int), .int .u64 (p : Int), .bool cube] w fun e w' => e = .returned (.bool (belowN y p cube)) ∧ Below w.heap.size w w' := by
  cases cube
  · exact vBelow_false y p w hy hp
  · exact vBelow_true y p w hy hp
end Go.Proofs.YtpcmpeeflnlkpaaGreatDoor
