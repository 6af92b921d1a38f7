/-
  
  
  
  
-/
import Derived.Test.YtpcmpeeflnlkpaaGreatDoorQSoundEtc
import Derived.Test.YtpcmpeeflnlkpaaGreatDoorKPlainEtc
/-
  The document's below: is a power at most a prime's?
-/
namespace Go.Proofs.YtpcmpeeflnlkpaaGreatDoor
open Go.RowKit Ch
set_option maxRecDepth 100000

theorem partsN_64 (n i : Nat) : All64 (partsN n i) := by
  intro j
  unfold atN partsN
  rw [List.getElem?_map]
  by_cases h : j < i
  · rw [List.getElem?_range h]
    show dv n j % 65536 < M64
    unfold M64; omega
  · rw [List.getElem?_eq_none (by simp; omega)]
    show 0 < M64
    unfold M64; omega
theorem timesN_64 (a b : List Nat) : All64 (timesN a b) := outS_64 a b _
theorem timesN_length (a b : List Nat) : (timesN a b).length = a.length + b.length := outS_length a b _
theorem partsN_length (n i : Nat) : (partsN n i).length = i := by simp [partsN]
def powN (y : Nat) (cube : Bool) : List Nat := if cube then timesN (timesN (partsN y 4) (partsN y 4)) (partsN y 4) else timesN (partsN y 4) (partsN y 4)
def padN (p : Nat) (cube : Bool) : List Nat := if cube then List.replicate 6 0 ++ partsN p 4 ++ [0, 0] else List.replicate 4 0 ++ partsN p 4
theorem powN_length (y : Nat) (cube : Bool) : (powN y cube).length = if cube then 12 else 8 := by
  unfold powN
  cases cube <;> simp [timesN_length, partsN_length]
theorem padN_length (p : Nat) (cube : Bool) : (padN p cube).length = if cube then 12 else 8 := by
  unfold padN
  cases cube <;> simp [partsN_length]
theorem powN_64 (y : Nat) (cube : Bool) : All64 (powN y cube) := by
  unfold powN
  split <;> exact timesN_64 _ _
theorem padN_64 (p : Nat) (cube : Bool) : All64 (padN p cube) := by
  have h0 : ∀ n : Nat, All64 (List.replicate n 0) := fun n j => by
    unfold atN
    rw [List.getElem?_replicate]
    split <;> (show 0 < M64; unfold M64; omega)
  have happ : ∀ {a b : List Nat}, All64 a → All64 b → All64 (a ++ b) := fun {a b} ha hb j => by
    unfold atN
    rw [List.getElem?_append]
    split
    · exact ha j
    · exact hb _
  unfold padN
  split
  · exact happ (happ (h0 6) (partsN_64 _ _)) (h0 2)
  · exact happ (h0 4) (partsN_64 _ _)
theorem pad_step (L : List Nat) (N : Nat) (h : L.length < N) : (L ++ [0]) ++ List.replicate (N - (L ++ [0]).length) 0 = L ++ List.replicate (N - L.length) 0 := by
  have h1 : N - L.length = (N - (L ++ [0]).length) + 1 := by simp; omega
  rw [h1, List.replicate_succ, List.append_assoc]
  rfl
theorem powN_true (y : Nat) : powN y true = timesN (timesN (partsN y 4) (partsN y 4)) (partsN y 4) := by unfold powN; rw [if_pos rfl]
theorem powN_false (y : Nat) : powN y false = timesN (partsN y 4) (partsN y 4) := by unfold powN; rw [if_neg (by simp)]
/-- Compared from the top. -/
def leN (v w : List Nat) : Nat → Bool
  | 0 => true
  | i + 1 => if atN v i = atN w i then leN v w i else decide (atN v i < atN w i)
def belowN (y p : Nat) (cube : Bool) : Bool := leN (powN y cube) (padN p cube) (if cube then 12 else 8)
theorem belowN_true (y p : Nat) : belowN y p true = leN (powN y true) (padN p true) 12 := by unfold belowN; rw [if_pos rfl]
theorem belowN_false (y p : Nat) : belowN y p false = leN (powN y false) (padN p false) 8 := by unfold belowN; rw [if_neg (by simp)]
set_option maxHeartbeats 4000000 in
theorem vBelow_false (y p : Nat) (w : World) (hy : y < 18446744073709551616) (hp : p < 18446744073709551616) :
    Calls Tryz.prog 90 #[.int .u64 (y : Int), .int .u64 (p : Int), .bool false] w fun e w' => e = .returned (.bool (belowN y p false)) ∧ Below w.heap.size w w' := by
  go_enter Tryz.func90, Tryz.ntmps90
  go_wp2_with fail
  refine (vParts_any y w hy).mono ?_
  rintro e w1 ⟨⟨v1, rfl, ho1⟩, hb1⟩
  go_wp2_with fail
  refine (vParts_any y w1 hy).mono ?_
  rintro e w2 ⟨⟨v2, rfl, ho2⟩, hb2⟩
  obtain ⟨a1, c1, rfl⟩ := own_shape ho1
  obtain ⟨a2, c2, rfl⟩ := own_shape ho2
  have h64 := partsN_64 y 4
  have hl4 : (partsN y 4).length ≤ 1000 := by rw [partsN_length]; omega
  go_wp2_with fail
  refine (vTimes_any a1 a2 c1 c2 _ _ w2 ((own_n ho1).later hb2) (own_n ho2) hl4 hl4 h64 h64).mono ?_
  rintro e w3 ⟨⟨v3, rfl, ho3⟩, hb3⟩
  have hb13 : Below w.heap.size w w3 := hb1.trans ((hb2.trans (hb3.mono hb2.size)).mono hb1.size)
  have hV5 : IsN .u64 w3 v3 (powN y false) := by rw [powN_false]; exact own_n ho3
  obtain ⟨w5, hw5⟩ : ∃ w5, w5 = w3 := ⟨_, rfl⟩
  obtain ⟨v5, hv5⟩ : ∃ v5, v5 = v3 := ⟨_, rfl⟩
  subst hw5 hv5
  have hb15 := hb13
  have hpl : (powN y false).length = 8 := by rw [powN_length]; rfl
  have hV64 := powN_64 y false
  obtain ⟨V, hV⟩ : ∃ V, powN y false = V := ⟨_, rfl⟩
  obtain ⟨W, hW⟩ : ∃ W, padN p false = W := ⟨_, rfl⟩
  have HB := show Hid (belowN y p false = leN V W 8) from by unfold Hid; rw [belowN_false, hV, hW]
  have hwl : (padN p false).length = 8 := by rw [padN_length]; rfl
  have hW64 := padN_64 p false
  have HWP := show Hid (padN p false = W) from hW
  rw [hV] at hV5 hpl hV64
  rw [hW] at hwl hW64
  have hsh : ∃ a5 c5, v5 = .slice a5 V.length c5 := by obtain ⟨a, c, h, _⟩ := hV5; exact ⟨a, c, h⟩
  obtain ⟨a5, c5, rfl⟩ := hsh
  rw [hpl] at hV5 ⊢
  have HL := show Hid (V.length = 8 ∧ W.length = 8 ∧ All64 V ∧ All64 W) from ⟨hpl, hwl, hV64, hW64⟩
  have HV := show Hid (IsN .u64 w5 (.slice a5 8 c5) V) from hV5
  clear hV5 hpl hwl hV64 hW64 hV hW ho1 ho2 ho3 h64 hl4 hb1 hb2 hb3 hb13
  go_wp2_with (at_make; go_must (refine wpList_make_n R64 w5 rfl _ _ rfl .i64 .i64 _ _ 4 rfl rfl rfl rfl (by omega) ?_; intro w6 ho6 hb6))
  refine (vParts_any p w6 hp).mono ?_
  rintro e w7 ⟨⟨v7, rfl, ho7⟩, hb7⟩
  have hI7 := own_n ho7
  have ho67 := ownsRow_later ho6 hb7
  have hb67 := hb6.trans (hb7.mono hb6.size)
  obtain ⟨L0, hL0⟩ : ∃ L0, List.replicate 4 0 ++ partsN p 4 = L0 := ⟨_, rfl⟩
  have HE := show Hid (List.replicate 4 0 ++ partsN p 4 = L0) from hL0
  clear hL0
  have h10 : (List.replicate 4 0).length + (partsN p 4).length ≤ 1000000 := by rw [partsN_length, List.length_replicate]; omega
  have hz7 := hb67.size
  go_wp2_with (at_builtin; go_must (refine wpList_append_ns R64 rfl _ _ rfl w5.heap.size _ _ rfl ho67 _ _ rfl hI7 _ HE h10 hz7 ?_; intro v8 w8 ho8 hb8))
  have hb58 : Below w5.heap.size w5 w8 := hb67.trans hb8
  have hw10 : L0.length = 8 := by rw [← HE.out, List.length_append, partsN_length, List.length_replicate]
  have HS := show Hid (L0 ++ List.replicate (8 - L0.length) 0 = W) from by unfold Hid; rw [hw10, ← HWP.out, ← HE.out]; simp [padN]
  clear ho6 ho7 ho67 hI7 hb67 hb6 hb7 HE h10 HWP hz7
  go_loopw [9] (fun u wr => ∃ (L : List Nat) (a c m : Nat) (x : Option Addr), u = .slice x m c ∧ Hid (m = L.length ∧ a = 0) ∧ m ≤ 8 ∧ wr.ownsRow w5.heap.size 62 1 (.slice x m c) L.length (kc .u64 L) ∧ Hid (L ++ List.replicate (8 - L.length) 0 = W) ∧ Below w5.heap.size w5 wr) (fun u _ => 8 - lenOf u)
  case atStart =>
    obtain ⟨x, c, rfl⟩ := own_shape ho8
    exact ⟨L0, 0, c, L0.length, x, rfl, ⟨rfl, rfl⟩, by rw [hw10]; omega, ho8, HS, hb58⟩
  case round =>
    obtain ⟨L, a, c, m, x, rfl, hm, hm2, ho, hS, hb⟩ := hrel
    by_cases hlt : m < 8
    · have hlt2 : (m : Int) < 8 := by omega
      have hz := hb.size
      have hLl : L.length ≤ 1000000 := by have := hm.out.1; omega
      obtain ⟨L1, hL1⟩ : ∃ L1, L ++ [0] = L1 := ⟨_, rfl⟩
      have HE := show Hid (L ++ [0] = L1) from hL1
      clear hL1
      go_wp2_with (at_builtin; go_must (refine wpList_append_n R64 rfl _ _ rfl w5.heap.size _ _ rfl ho _ rfl 0 rfl _ HE hLl hz hb ?_; intro v9 w9 ho9 hb9))
      obtain ⟨x9, c9, rfl⟩ := own_shape ho9
      go_roundw
      case rel => exact ⟨L1, 0, c9, L1.length, x9, rfl, ⟨rfl, rfl⟩, by rw [← HE.out, List.length_append]; have := hm.out.1; simp; omega, ho9, by
        unfold Hid
        rw [← hS.out, ← HE.out]
        exact pad_step L 8 (by have := hm.out.1; omega), hb9⟩
      case measure => simp [lenOf]; have := hm.out.1; have : L1.length = L.length + 1 := by rw [← HE.out]; simp
                      omega
    · have hlt2 : ¬ (m : Int) < 8 := by omega
      have hLW : L = W := by
        have := hS.out
        rw [show 8 - L.length = 0 by have := hm.out.1; omega, List.replicate_zero, List.append_nil] at this
        exact this
      subst hLW
      obtain rfl : m = 8 := by omega
      have HIW := show Hid (IsN .u64 wr (.slice x 8 c) L ∧ IsN .u64 wr (.slice a5 8 c5) V) from ⟨own_n ho, HV.out.later hb⟩
      have hbw := hb15.trans (hb.mono hb15.size)
      obtain ⟨w9, hw9⟩ : ∃ w9, w9 = wr := ⟨_, rfl⟩
      subst hw9
      clear hS ho hm HS
      go_wp2_with fail
      go_loopw [10] (fun t wr => ∃ (i : Nat) (z : Int), i ≤ 8 ∧ z = (i : Int) - 1 ∧ t = .int .i64 z ∧ Hid (leN V L 8 = leN V L i) ∧ Below w9.heap.size w9 wr) (fun t _ => (intOf t + 1).toNat)
      case atStart => exact ⟨8, 7, by omega, by omega, rfl, rfl, Below.refl _ _⟩
      case round =>
        obtain ⟨i, z, hi, hz, rfl, hle, hbr⟩ := hrel
        rcases i with _ | i
        · have hz1 : z = -1 := by omega
          clear hz
          subst hz1
          have hneg : ¬ (0 : Int) ≤ -1 := by omega
          have hb9 := hbw.trans (hbr.mono hbw.size)
          have HR := show Hid (belowN y p false = true) from by unfold Hid; rw [HB.out, hle.out]; rfl
          go_wp2_with fail
          go_ret
          exact ⟨by rw [HR.out]; rfl, hb9⟩
        · have hz1 : z = (i : Int) := by omega
          clear hz
          subst hz1
          have hge : (0 : Int) ≤ (i : Int) := by omega
          have hiN : i < 8 := by omega
          have hiN2 : (i : Int) < 8 := by omega
          obtain ⟨A, hA⟩ : ∃ A, atN V i = A := ⟨_, rfl⟩
          obtain ⟨B, hB⟩ : ∃ B, atN L i = B := ⟨_, rfl⟩
          have hA64 := HL.out.2.2.1 i
          have hB64 := HL.out.2.2.2 i
          rw [hA] at hA64
          rw [hB] at hB64
          have hAs : V[i]? = some A := by rw [← hA]; exact atN_some (by rw [HL.out.1]; exact hiN)
          have hBs : L[i]? = some B := by rw [← hB]; exact atN_some (by rw [HL.out.2.1]; exact hiN)
          obtain ⟨x1, ba, oa, rfl, hal, gA⟩ := IsN.cellAt (HIW.out.2.later hbr) hAs
          obtain ⟨x2, bb, ob, rfl, hbl, gB⟩ := IsN.cellAt (HIW.out.1.later hbr) hBs
          have HSt := show Hid (leN V L 8 = if A = B then leN V L i else decide (A < B)) from by unfold Hid; rw [hle.out, leN, hA, hB]
          clear x1 x2 hAs hBs hA hB
          by_cases hAB : A = B
          · have hne : ((A : Int) == (B : Int)) = true := by simp [hAB]
            have hq := HSt.out
            rw [if_pos hAB] at hq
            have HQ := show Hid (leN V L 8 = leN V L i) from hq
            clear hq HSt
            subst hAB
            go_wp2_with fail
            go_quiet (fail)
            have hbq := below_drewN hbr nq
            generalize wr.drewN nq = wq at *
            go_wp2_with fail
            go_roundw
            case rel => exact ⟨i, (i : Int) - 1, by omega, rfl, by go_num, HQ.out, hbq⟩
            case measure => first | (simp [intOf]; done) | (simp [intOf]; omega)
          · have hne : ((A : Int) == (B : Int)) = false := by simp; omega
            have hne2 : ((A : Int) != (B : Int)) = true := by simp; omega
            have hq := HSt.out
            rw [if_neg hAB] at hq
            have HQ := show Hid (belowN y p false = decide (A < B)) from by unfold Hid; rw [HB.out]; exact hq
            clear hq HSt
            go_wp2_with fail
            go_quiet (fail)
            have hbq := below_drewN hbr nq
            have gA2 := (World.cell?_drewN wr nq ⟨ba, oa + i, none⟩).trans gA
            have gB2 := (World.cell?_drewN wr nq ⟨bb, ob + i, none⟩).trans gB
            generalize wr.drewN nq = wq at *
            clear gA gB hbr
            go_wp2_with fail
            go_quiet (fail)
            have hbq2 := below_drewN hbq nq
            have hb9 := hbw.trans (hbq2.mono hbw.size)
            go_wp2_with fail
            go_ret
            refine ⟨?_, hb9⟩
            rw [HQ.out]
            by_cases h : A < B <;> simp [h]
set_option maxHeartbeats 4000000 in
theorem vBelow_true (y p : Nat) (w : World) (hy : y < 18446744073709551616) (hp : p < 18446744073709551616) :
    Calls Tryz.prog 90 #[.int .u64 (y : Int), .int .u64 (p : Int), .bool true] w fun e w' => e = .returned (.bool (belowN y p true)) ∧ Below w.heap.size w w' := by
  go_enter Tryz.func90, Tryz.ntmps90
  go_wp2_with fail
  refine (vParts_any y w hy).mono ?_
  rintro e w1 ⟨⟨v1, rfl, ho1⟩, hb1⟩
  go_wp2_with fail
  refine (vParts_any y w1 hy).mono ?_
  rintro e w2 ⟨⟨v2, rfl, ho2⟩, hb2⟩
  obtain ⟨a1, c1, rfl⟩ := own_shape ho1
  obtain ⟨a2, c2, rfl⟩ := own_shape ho2
  have h64 := partsN_64 y 4
  have hl4 : (partsN y 4).length ≤ 1000 := by rw [partsN_length]; omega
  go_wp2_with fail
  refine (vTimes_any a1 a2 c1 c2 _ _ w2 ((own_n ho1).later hb2) (own_n ho2) hl4 hl4 h64 h64).mono ?_
  rintro e w3 ⟨⟨v3, rfl, ho3⟩, hb3⟩
  have hb13 : Below w.heap.size w w3 := hb1.trans ((hb2.trans (hb3.mono hb2.size)).mono hb1.size)
  obtain ⟨a3, c3, rfl⟩ := own_shape ho3
  go_wp2_with fail
  refine (vParts_any y w3 hy).mono ?_
  rintro e w4 ⟨⟨v4, rfl, ho4⟩, hb4⟩
  obtain ⟨a4, c4, rfl⟩ := own_shape ho4
  go_wp2_with fail
  refine (vTimes_any a3 a4 c3 c4 _ _ w4 ((own_n ho3).later hb4) (own_n ho4) (by rw [timesN_length, partsN_length]; omega) hl4 (timesN_64 _ _) h64).mono ?_
  rintro e w5 ⟨⟨v5, rfl, ho5⟩, hb5⟩
  have hb15 : Below w.heap.size w w5 := hb13.trans ((hb4.trans (hb5.mono hb4.size)).mono hb13.size)
  have hV5 : IsN .u64 w5 v5 (powN y true) := by rw [powN_true]; exact own_n ho5
  have hpl : (powN y true).length = 12 := by rw [powN_length]; rfl
  have hV64 := powN_64 y true
  obtain ⟨V, hV⟩ : ∃ V, powN y true = V := ⟨_, rfl⟩
  obtain ⟨W, hW⟩ : ∃ W, padN p true = W := ⟨_, rfl⟩
  have HB := show Hid (belowN y p true = leN V W 12) from by unfold Hid; rw [belowN_true, hV, hW]
  have hwl : (padN p true).length = 12 := by rw [padN_length]; rfl
  have hW64 := padN_64 p true
  have HWP := show Hid (padN p true = W) from hW
  rw [hV] at hV5 hpl hV64
  rw [hW] at hwl hW64
  have hsh : ∃ a5 c5, v5 = .slice a5 V.length c5 := by obtain ⟨a, c, h, _⟩ := hV5; exact ⟨a, c, h⟩
  obtain ⟨a5, c5, rfl⟩ := hsh
  rw [hpl] at hV5 ⊢
  have HL := show Hid (V.length = 12 ∧ W.length = 12 ∧ All64 V ∧ All64 W) from ⟨hpl, hwl, hV64, hW64⟩
  have HV := show Hid (IsN .u64 w5 (.slice a5 12 c5) V) from hV5
  clear hV5 hpl hwl hV64 hW64 hV hW ho1 ho2 ho3 h64 hl4 hb1 hb2 hb3 hb13
  go_wp2_with (at_make; go_must (refine wpList_make_n R64 w5 rfl _ _ rfl .i64 .i64 _ _ 6 rfl rfl rfl rfl (by omega) ?_; intro w6 ho6 hb6))
  refine (vParts_any p w6 hp).mono ?_
  rintro e w7 ⟨⟨v7, rfl, ho7⟩, hb7⟩
  have hI7 := own_n ho7
  have ho67 := ownsRow_later ho6 hb7
  have hb67 := hb6.trans (hb7.mono hb6.size)
  obtain ⟨L0, hL0⟩ : ∃ L0, List.replicate 6 0 ++ partsN p 4 = L0 := ⟨_, rfl⟩
  have HE := show Hid (List.replicate 6 0 ++ partsN p 4 = L0) from hL0
  clear hL0
  have h10 : (List.replicate 6 0).length + (partsN p 4).length ≤ 1000000 := by rw [partsN_length, List.length_replicate]; omega
  have hz7 := hb67.size
  go_wp2_with (at_builtin; go_must (refine wpList_append_ns R64 rfl _ _ rfl w5.heap.size _ _ rfl ho67 _ _ rfl hI7 _ HE h10 hz7 ?_; intro v8 w8 ho8 hb8))
  have hb58 : Below w5.heap.size w5 w8 := hb67.trans hb8
  have hw10 : L0.length = 10 := by rw [← HE.out, List.length_append, partsN_length, List.length_replicate]
  have HS := show Hid (L0 ++ List.replicate (12 - L0.length) 0 = W) from by unfold Hid; rw [hw10, ← HWP.out, ← HE.out]; simp [padN]
  clear ho6 ho7 ho67 hI7 hb67 hb6 hb7 HE h10 HWP hz7
  go_loopw [9] (fun u wr => ∃ (L : List Nat) (a c m : Nat) (x : Option Addr), u = .slice x m c ∧ Hid (m = L.length ∧ a = 0) ∧ m ≤ 12 ∧ wr.ownsRow w5.heap.size 62 1 (.slice x m c) L.length (kc .u64 L) ∧ Hid (L ++ List.replicate (12 - L.length) 0 = W) ∧ Below w5.heap.size w5 wr) (fun u _ => 12 - lenOf u)
  case atStart =>
    obtain ⟨x, c, rfl⟩ := own_shape ho8
    exact ⟨L0, 0, c, L0.length, x, rfl, ⟨rfl, rfl⟩, by rw [hw10]; omega, ho8, HS, hb58⟩
  case round =>
    obtain ⟨L, a, c, m, x, rfl, hm, hm2, ho, hS, hb⟩ := hrel
    by_cases hlt : m < 12
    · have hlt2 : (m : Int) < 12 := by omega
      have hz := hb.size
      have hLl : L.length ≤ 1000000 := by have := hm.out.1; omega
      obtain ⟨L1, hL1⟩ : ∃ L1, L ++ [0] = L1 := ⟨_, rfl⟩
      have HE := show Hid (L ++ [0] = L1) from hL1
      clear hL1
      go_wp2_with (at_builtin; go_must (refine wpList_append_n R64 rfl _ _ rfl w5.heap.size _ _ rfl ho _ rfl 0 rfl _ HE hLl hz hb ?_; intro v9 w9 ho9 hb9))
      obtain ⟨x9, c9, rfl⟩ := own_shape ho9
      go_roundw
      case rel => exact ⟨L1, 0, c9, L1.length, x9, rfl, ⟨rfl, rfl⟩, by rw [← HE.out, List.length_append]; have := hm.out.1; simp; omega, ho9, by
        unfold Hid
        rw [← hS.out, ← HE.out]
        exact pad_step L 12 (by have := hm.out.1; omega), hb9⟩
      case measure => simp [lenOf]; have := hm.out.1; have : L1.length = L.length + 1 := by rw [← HE.out]; simp
                      omega
    · have hlt2 : ¬ (m : Int) < 12 := by omega
      have hLW : L = W := by
        have := hS.out
        rw [show 12 - L.length = 0 by have := hm.out.1; omega, List.replicate_zero, List.append_nil] at this
        exact this
      subst hLW
      obtain rfl : m = 12 := by omega
      have HIW := show Hid (IsN .u64 wr (.slice x 12 c) L ∧ IsN .u64 wr (.slice a5 12 c5) V) from ⟨own_n ho, HV.out.later hb⟩
      have hbw := hb15.trans (hb.mono hb15.size)
      obtain ⟨w9, hw9⟩ : ∃ w9, w9 = wr := ⟨_, rfl⟩
      subst hw9
      clear hS ho hm HS
      go_wp2_with fail
      go_loopw [10] (fun t wr => ∃ (i : Nat) (z : Int), i ≤ 12 ∧ z = (i : Int) - 1 ∧ t = .int .i64 z ∧ Hid (leN V L 12 = leN V L i) ∧ Below w9.heap.size w9 wr) (fun t _ => (intOf t + 1).toNat)
      case atStart => exact ⟨12, 11, by omega, by omega, rfl, rfl, Below.refl _ _⟩
      case round =>
        obtain ⟨i, z, hi, hz, rfl, hle, hbr⟩ := hrel
        rcases i with _ | i
        · have hz1 : z = -1 := by omega
          clear hz
          subst hz1
          have hneg : ¬ (0 : Int) ≤ -1 := by omega
          have hb9 := hbw.trans (hbr.mono hbw.size)
          have HR := show Hid (belowN y p true = true) from by unfold Hid; rw [HB.out, hle.out]; rfl
          go_wp2_with fail
          go_ret
          exact ⟨by rw [HR.out]; rfl, hb9⟩
        · have hz1 : z = (i : Int) := by omega
          clear hz
          subst hz1
          have hge : (0 : Int) ≤ (i : Int) := by omega
          have hiN : i < 12 := by omega
          have hiN2 : (i : Int) < 12 := by omega
          obtain ⟨A, hA⟩ : ∃ A, atN V i = A := ⟨_, rfl⟩
          obtain ⟨B, hB⟩ : ∃ B, atN L i = B := ⟨_, rfl⟩
          have hA64 := HL.out.2.2.1 i
          have hB64 := HL.out.2.2.2 i
          rw [hA] at hA64
          rw [hB] at hB64
          have hAs : V[i]? = some A := by rw [← hA]; exact atN_some (by rw [HL.out.1]; exact hiN)
          have hBs : L[i]? = some B := by rw [← hB]; exact atN_some (by rw [HL.out.2.1]; exact hiN)
          obtain ⟨x1, ba, oa, rfl, hal, gA⟩ := IsN.cellAt (HIW.out.2.later hbr) hAs
          obtain ⟨x2, bb, ob, rfl, hbl, gB⟩ := IsN.cellAt (HIW.out.1.later hbr) hBs
          have HSt := show Hid (leN V L 12 = if A = B then leN V L i else decide (A < B)) from by unfold Hid; rw [hle.out, leN, hA, hB]
          clear x1 x2 hAs hBs hA hB
          by_cases hAB : A = B
          · have hne : ((A : Int) == (B : Int)) = true := by simp [hAB]
            have hq := HSt.out
            rw [if_pos hAB] at hq
            have HQ := show Hid (leN V L 12 = leN V L i) from hq
            clear hq HSt
            subst hAB
            go_wp2_with fail
            go_quiet (fail)
            have hbq := below_drewN hbr nq
            generalize wr.drewN nq = wq at *
            go_wp2_with fail
            go_roundw
            case rel => exact ⟨i, (i : Int) - 1, by omega, rfl, by go_num, HQ.out, hbq⟩
            case measure => first | (simp [intOf]; done) | (simp [intOf]; omega)
          · have hne : ((A : Int) == (B : Int)) = false := by simp; omega
            have hne2 : ((A : Int) != (B : Int)) = true := by simp; omega
            have hq := HSt.out
            rw [if_neg hAB] at hq
            have HQ := show Hid (belowN y p true = decide (A < B)) from by unfold Hid; rw [HB.out]; exact hq
            clear hq HSt
            go_wp2_with fail
            go_quiet (fail)
            have hbq := below_drewN hbr nq
            have gA2 := (World.cell?_drewN wr nq ⟨ba, oa + i, none⟩).trans gA
            have gB2 := (World.cell?_drewN wr nq ⟨bb, ob + i, none⟩).trans gB
            generalize wr.drewN nq = wq at *
            clear gA gB hbr
            go_wp2_with fail
            go_quiet (fail)
            have hbq2 := below_drewN hbq nq
            have hb9 := hbw.trans (hbq2.mono hbw.size)
            go_wp2_with fail
            go_ret
            refine ⟨?_, hb9⟩
            rw [HQ.out]
            by_cases h : A < B <;> simp [h]
theorem vBelow_any (y p : Nat) (cube : Bool) (w : World) (hy : y < 18446744073709551616) (hp : p < 18446744073709551616) :
    Calls Tryz.prog 90 #[.int .u64 (y : Int), .int .u64 (p : Int), .bool cube] w fun e w' => e = .returned (.bool (belowN y p cube)) ∧ Below w.heap.size w w' := by
  cases cube
  · exact vBelow_false y p w hy hp
  · exact vBelow_true y p w hy hp
end Go.Proofs.YtpcmpeeflnlkpaaGreatDoor

/-
  The document's shift, rot, low, root.
-/
namespace Go.Proofs.YtpcmpeeflnlkpaaGreatDoor
open Go.RowKit Ch
set_option maxRecDepth 100000

set_option maxHeartbeats 1000000 in
theorem vShift_any (n : Nat) (w : World) (hn : n ≤ 40) : Calls Tryz.prog 89 #[.int .i64 (n : Int)] w fun e w' => e = .returned (.int .u64 ((2 ^ n : Nat) : Int)) ∧ w' = w := by
  go_enter Tryz.func89, Tryz.ntmps89
  go_wp2_with fail
  go_loopw [3, 4] (fun u t wr => ∃ i X : Nat, i ≤ n ∧ t = .int .i64 (i : Int) ∧ u = .int .u64 (X : Int) ∧ Hid (X = 2 ^ i) ∧ wr = w) (fun _ t _ => n - (intOf t).toNat)
  case atStart => exact ⟨0, 1, by omega, rfl, rfl, rfl, rfl⟩
  case round =>
    obtain ⟨i, X, hi, rfl, rfl, hX, rfl⟩ := hrel
    by_cases hlt : i < n
    · have hlt2 : (i : Int) < (n : Int) := by omega
      have hb : X ≤ 2 ^ 40 := by rw [hX.out]; exact Nat.pow_le_pow_right (by decide) (by omega)
      obtain ⟨Y, hY⟩ : ∃ Y, X * 2 = Y := ⟨_, rfl⟩
      have e1 : IntKind.u64.wrap ((X : Int) * 2) = (Y : Int) := by rw [wrap_u64]; omega
      have HY := show Hid (Y = 2 ^ (i + 1)) from by unfold Hid; rw [← hY, hX.out, Nat.pow_succ]
      clear hX hY
      go_wp2_with fail
      go_roundw
      case rel => exact ⟨i + 1, Y, by omega, by go_num, rfl, HY.out, trivial⟩
      case measure => simp [intOf]; omega
    · have hlt2 : ¬ (i : Int) < (n : Int) := by omega
      obtain rfl : i = n := by omega
      go_wp2_with fail
      go_ret
      exact ⟨by rw [hX.out]; rfl, rfl⟩
/-- Rotated by one so many times. -/
def rotI (x : Nat) : Nat → Nat
  | 0 => x
  | n + 1 => rotI x n / 2 + rotI x n % 2 * 2147483648
theorem rotI_lt {x : Nat} (h : x < 4294967296) : ∀ n, rotI x n < 4294967296
  | 0 => h
  | n + 1 => by have := rotI_lt h n; rw [rotI]; omega
set_option maxHeartbeats 1000000 in
theorem vRot_raw (x n : Nat) (w : World) (hx : x < 4294967296) (hn : n ≤ 1000) : Calls Tryz.prog 32 #[.int .u32 (x : Int), .int .i64 (n : Int)] w fun e w' => e = .returned (.int .u32 (rotI x n : Int)) ∧ w' = w := by
  go_enter Tryz.func32, Tryz.ntmps32
  go_wp2_with fail
  go_loopw [0, 5] (fun u t wr => ∃ i : Nat, i ≤ n ∧ t = .int .i64 (i : Int) ∧ u = .int .u32 (rotI x i : Int) ∧ wr = w) (fun _ t _ => n - (intOf t).toNat)
  case atStart => exact ⟨0, by omega, rfl, rfl, rfl⟩
  case round =>
    obtain ⟨i, hi, rfl, rfl, rfl⟩ := hrel
    by_cases hlt : i < n
    · have hlt2 : (i : Int) < (n : Int) := by omega
      have hX := rotI_lt hx i
      have HS := show Hid (rotI x (i + 1) = rotI x i / 2 + rotI x i % 2 * 2147483648) from rfl
      generalize rotI x i = X at *
      obtain ⟨q, hq⟩ : ∃ q, X / 2 = q := ⟨_, rfl⟩
      obtain ⟨r, hr⟩ : ∃ r, X % 2 = r := ⟨_, rfl⟩
      obtain ⟨m, hm⟩ : ∃ m, r * 2147483648 = m := ⟨_, rfl⟩
      obtain ⟨y, hy⟩ : ∃ y, q + m = y := ⟨_, rfl⟩
      have e1 : (X : Int).tdiv 2 = (q : Int) := by rw [← hq, Int.tdiv_eq_ediv_of_nonneg (by omega)]; omega
      have e2 : (X : Int).tmod 2 = (r : Int) := by rw [← hr, Int.tmod_eq_emod_of_nonneg (by omega)]; omega
      have e3 : IntKind.u32.wrap ((r : Int) * 2147483648) = (m : Int) := by rw [IntKind.wrap_u32]; omega
      have e4 : IntKind.u32.wrap ((q : Int) + (m : Int)) = (y : Int) := by rw [IntKind.wrap_u32]; omega
      have hq2 : q < 4294967296 := by omega
      have hr2 : r < 2 := by omega
      have HY := show Hid (y = rotI x (i + 1)) from by unfold Hid; rw [HS.out, hq, hr, hm, hy]
      clear hq hr hm hy HS
      go_wp2_with fail
      go_roundw
      case rel => exact ⟨i + 1, by omega, by go_num, by rw [HY.out], trivial⟩
      case measure => simp [intOf]; omega
    · have hlt2 : ¬ (i : Int) < (n : Int) := by omega
      obtain rfl : i = n := by omega
      go_wp2_with fail
      go_ret
      exact ⟨rfl, rfl⟩
theorem rotI_eq {x : Nat} (hx : x < 4294967296) : ∀ n, n ≤ 32 → rotI x n = x % 2 ^ n * 2 ^ (32 - n) + x / 2 ^ n
  | 0, _ => by simp [rotI, Nat.mod_one]
  | n + 1, h => by
    have ih := rotI_eq hx n (by omega)
    rw [rotI, ih]
    have e1 : 2 ^ (32 - n) = 2 * 2 ^ (32 - (n + 1)) := by rw [show 32 - n = (32 - (n + 1)) + 1 by omega, Nat.pow_succ, Nat.mul_comm]
    have e2 : x / 2 ^ (n + 1) = x / 2 ^ n / 2 := by rw [Nat.pow_succ, Nat.div_div_eq_div_mul]
    have e3 : x % 2 ^ (n + 1) = x % 2 ^ n + 2 ^ n * (x / 2 ^ n % 2) := by rw [Nat.pow_succ, Nat.mod_mul]
    have e4 : (2147483648 : Nat) = 2 ^ n * 2 ^ (32 - (n + 1)) := by rw [← Nat.pow_add, show n + (32 - (n + 1)) = 31 by omega]
    rw [e1, e2, e3, e4]
    generalize 2 ^ (32 - (n + 1)) = P
    generalize x % 2 ^ n = A
    generalize x / 2 ^ n = B
    generalize 2 ^ n = C
    have h1 : A * (2 * P) + B = 2 * (A * P) + B := by rw [Nat.mul_left_comm]
    rw [h1, Nat.add_mul]
    have h2 : (2 * (A * P) + B) / 2 = A * P + B / 2 := by omega
    have h3 : (2 * (A * P) + B) % 2 = B % 2 := by omega
    rw [h2, h3, Nat.mul_comm C (B % 2), Nat.mul_assoc]
    omega
theorem rotI_rotr {x : Nat} (hx : x < 4294967296) {n : Nat} (h : n ≤ 32) : rotI x n = rotr n x := by
  rw [rotI_eq hx n h]
  unfold rotr
  have e1 : x * 2 ^ (32 - n) % 4294967296 = 2 ^ (32 - n) * (x % 2 ^ n) := by
    have : (4294967296 : Nat) = 2 ^ n * 2 ^ (32 - n) := by rw [← Nat.pow_add, show n + (32 - n) = 32 by omega]
    rw [this, Nat.mul_mod_mul_right, Nat.mul_comm]
  have e2 : x / 2 ^ n < 2 ^ (32 - n) := by
    rw [Nat.div_lt_iff_lt_mul (Nat.two_pow_pos n), ← Nat.pow_add, show 32 - n + n = 32 by omega]
    exact hx
  rw [e1, ← Nat.two_pow_add_eq_or_of_lt e2, Nat.mul_comm]
theorem vRot_any (x n : Nat) (w : World) (hx : x < 4294967296) (hn : n ≤ 32) : Calls Tryz.prog 32 #[.int .u32 (x : Int), .int .i64 (n : Int)] w fun e w' => e = .returned (.int .u32 (rotr n x : Int)) ∧ w' = w := by
  rw [← rotI_rotr hx hn]
  exact vRot_raw x n w hx (by omega)
set_option maxHeartbeats 1000000 in
theorem vLow_any (x n : Nat) (w : World) (hx : x < 4294967296) (hn : n ≤ 32) : Calls Tryz.prog 33 #[.int .u32 (x : Int), .int .i64 (n : Int)] w fun e w' => e = .returned (.int .u32 ((x / 2 ^ n : Nat) : Int)) ∧ w' = w := by
  go_enter Tryz.func33, Tryz.ntmps33
  go_wp2_with fail
  go_loopw [0, 5] (fun u t wr => ∃ i X : Nat, i ≤ n ∧ t = .int .i64 (i : Int) ∧ u = .int .u32 (X : Int) ∧ X < 4294967296 ∧ Hid (X = x / 2 ^ i) ∧ wr = w) (fun _ t _ => n - (intOf t).toNat)
  case atStart => exact ⟨0, x, by omega, rfl, rfl, hx, by unfold Hid; rw [Nat.pow_zero, Nat.div_one], rfl⟩
  case round =>
    obtain ⟨i, X, hi, rfl, rfl, hX, hXe, rfl⟩ := hrel
    by_cases hlt : i < n
    · have hlt2 : (i : Int) < (n : Int) := by omega
      obtain ⟨q, hq⟩ : ∃ q, X / 2 = q := ⟨_, rfl⟩
      have e1 : (X : Int).tdiv 2 = (q : Int) := by rw [← hq, Int.tdiv_eq_ediv_of_nonneg (by omega)]; omega
      have hq2 : q < 4294967296 := by omega
      have HY := show Hid (q = x / 2 ^ (i + 1)) from by unfold Hid; rw [← hq, hXe.out, Nat.pow_succ, Nat.div_div_eq_div_mul]
      clear hq hXe
      go_wp2_with fail
      go_roundw
      case rel => exact ⟨i + 1, q, by omega, by go_num, rfl, hq2, HY.out, trivial⟩
      case measure => simp [intOf]; omega
    · have hlt2 : ¬ (i : Int) < (n : Int) := by omega
      obtain rfl : i = n := by omega
      go_wp2_with fail
      go_ret
      exact ⟨by rw [hXe.out]; rfl, rfl⟩
/-- The root's bits, the first n of 37. -/
def rootI (p : Nat) (cube : Bool) : Nat → Nat
  | 0 => 0
  | n + 1 => if belowN (rootI p cube n + 2 ^ (36 - n)) p cube then rootI p cube n + 2 ^ (36 - n) else rootI p cube n
def rootN (p : Nat) (cube : Bool) : Nat := rootI p cube 37 % 4294967296
theorem rootI_lt (p : Nat) (cube : Bool) : ∀ n, n ≤ 37 → rootI p cube n + 2 ^ (37 - n) ≤ 2 ^ 37
  | 0, _ => by simp [rootI]
  | n + 1, h => by
    have ih := rootI_lt p cube n (by omega)
    have e : 2 ^ (37 - n) = 2 ^ (37 - (n + 1)) + 2 ^ (37 - (n + 1)) := by rw [show 37 - n = (37 - (n + 1)) + 1 by omega, Nat.pow_succ, Nat.mul_two]
    have e2 : 36 - n = 37 - (n + 1) := by omega
    rw [rootI, e2]
    generalize 2 ^ (37 - (n + 1)) = A at *
    rw [e] at ih
    split <;> omega
set_option maxHeartbeats 2000000 in
theorem vRoot_any (p : Nat) (cube : Bool) (w : World) (hp : p < 18446744073709551616) :
    Calls Tryz.prog 61 #[.int .u64 (p : Int), .bool cube] w fun e w' => e = .returned (.int .u32 (rootN p cube : Int)) ∧ Below w.heap.size w w' := by
  go_enter Tryz.func61, Tryz.ntmps61
  go_wp2_with fail
  go_loopw [5, 6] (fun u t wr => ∃ (i X : Nat) (z : Int), i ≤ 37 ∧ Hid (z = 36 - (i : Int)) ∧ t = .int .i64 z ∧ u = .int .u64 (X : Int) ∧ Hid (X = rootI p cube i) ∧ Below w.heap.size w wr) (fun _ t _ => (intOf t + 1).toNat)
  case atStart => exact ⟨0, 0, 36, by omega, by unfold Hid; omega, rfl, rfl, rfl, Below.refl _ _⟩
  case round =>
    obtain ⟨i, X, z, hi, hz, rfl, rfl, hX, hb⟩ := hrel
    have hlt37 := rootI_lt p cube i hi
    rw [← hX.out] at hlt37
    by_cases hlt : i < 37
    · obtain ⟨b, hbe⟩ : ∃ b : Nat, b = 36 - i := ⟨_, rfl⟩
      have hzb : z = (b : Int) := by have := hz.out; omega
      subst hzb
      have h36 : b ≤ 36 := by omega
      have hge : (0 : Int) ≤ (b : Int) := by omega
      have hpw : 2 ^ b < 2 ^ 37 := Nat.pow_lt_pow_right (by decide) (by omega)
      obtain ⟨T, hT⟩ : ∃ T, 2 ^ b = T := ⟨_, rfl⟩
      obtain ⟨Y, hY⟩ : ∃ Y, X + T = Y := ⟨_, rfl⟩
      have hXl : X < 2 ^ 37 := by have := Nat.two_pow_pos (37 - i); omega
      rw [hT] at hpw
      have e1 : IntKind.u64.wrap ((X : Int) + (T : Int)) = (Y : Int) := by rw [wrap_u64]; omega
      have hYl : Y < 18446744073709551616 := by omega
      have HS := show Hid (rootI p cube (i + 1) = if belowN Y p cube then Y else X) from by unfold Hid; rw [rootI, ← hX.out, ← hbe, hT, hY]
      have hsh := vShift_any b wr (by omega)
      rw [hT] at hsh
      have HBI := show Hid (b = 36 - i) from hbe
      clear hX hT hY hbe hlt37 hpw hz
      go_wp2_with fail
      refine hsh.mono ?_
      rintro e w1 ⟨rfl, rfl⟩
      obtain ⟨R, hR⟩ : ∃ R, belowN Y p cube = R := ⟨_, rfl⟩
      have hbl := vBelow_any Y p cube w1 hYl hp
      rw [hR] at hbl
      rw [hR] at HS
      clear hR hsh
      go_wp2_with fail
      refine hbl.mono ?_
      rintro e w2 ⟨rfl, hb2⟩
      have hb3 := hb.trans (hb2.mono hb.size)
      clear hbl hb2
      cases R
      · have hq := HS.out
        simp only [Bool.false_eq_true, if_false] at hq
        have HQ := show Hid (X = rootI p cube (i + 1)) from hq.symm
        clear hq HS
        go_wp2_with fail
        go_roundw
        case rel => exact ⟨i + 1, X, (b : Int) - 1, by omega, by unfold Hid; have := HBI.out; omega, by go_num, rfl, HQ.out, hb3⟩
        case measure => first | (simp [intOf]; done) | (simp [intOf]; omega)
      · have hq := HS.out
        simp only [if_true] at hq
        have HQ := show Hid (Y = rootI p cube (i + 1)) from hq.symm
        clear hq HS
        go_wp2_with fail
        go_roundw
        case rel => exact ⟨i + 1, Y, (b : Int) - 1, by omega, by unfold Hid; have := HBI.out; omega, by go_num, rfl, HQ.out, hb3⟩
        case measure => first | (simp [intOf]; done) | (simp [intOf]; omega)
    · obtain rfl : i = 37 := by omega
      have hz1 : z = -1 := by have := hz.out; omega
      clear hz
      subst hz1
      have hneg : ¬ (0 : Int) ≤ -1 := by omega
      obtain ⟨m, hm⟩ : ∃ m, X % 4294967296 = m := ⟨_, rfl⟩
      have e1 : (X : Int).tmod 4294967296 = (m : Int) := by rw [← hm, Int.tmod_eq_emod_of_nonneg (by omega)]; omega
      have hm2 : m < 4294967296 := by omega
      have HR := show Hid (rootN p cube = m) from by unfold Hid rootN; rw [← hX.out, hm]
      have hXl : X < 2 ^ 37 := by have := Nat.two_pow_pos (37 - 37); omega
      have hw32 : IntKind.u32.wrap (m : Int) = (m : Int) := by rw [IntKind.wrap_u32]; omega
      clear hX hm hlt37
      go_wp2_with fail
      go_ret
      exact ⟨by rw [HR.out]; rfl, hb⟩
end Go.Proofs.YtpcmpeeflnlkpaaGreatDoor

/-
  The document's words, reckoned.
-/
namespace Go.Proofs.YtpcmpeeflnlkpaaGreatDoor
open Go.RowKit Ch
set_option maxRecDepth 100000

/-- The primes below j + 2. -/
def prK : Nat → List Nat
  | 0 => []
  | j + 1 => if (prK j).all (fun d => (j + 2) % d != 0) then prK j ++ [j + 2] else prK j
theorem prK_310 : (prK 310).length = 64 := by decide +kernel
theorem prK_309 : (prK 309).length = 63 := by decide +kernel
theorem prK_mono (i j : Nat) (h : i ≤ j) : (prK i).length ≤ (prK j).length := by
  induction j with
  | zero => rw [show i = 0 by omega]; exact Nat.le_refl _
  | succ j ih =>
    by_cases hij : i = j + 1
    · rw [hij]; exact Nat.le_refl _
    · have := ih (by omega)
      have h2 : (prK j).length ≤ (prK (j + 1)).length := by
        rw [prK]
        split
        · rw [List.length_append]; omega
        · exact Nat.le_refl _
      omega
theorem prK_pos (j : Nat) : ∀ d ∈ prK j, 2 ≤ d ∧ d < j + 2 := by
  induction j with
  | zero => intro d hd; cases hd
  | succ j ih =>
    intro d hd
    rw [prK] at hd
    split at hd
    · rcases List.mem_append.1 hd with h | h
      · have := ih d h; omega
      · simp at h; omega
    · have := ih d hd; omega
end Go.Proofs.YtpcmpeeflnlkpaaGreatDoor

/-
  The document's primes and Words.
-/
namespace Go.Proofs.YtpcmpeeflnlkpaaGreatDoor
open Go.RowKit Ch
set_option maxRecDepth 100000

def R32 : KR := ⟨.u32, 63, 37, 4, Tryz.underlying37, by kernel_rfl, by decide⟩
def okN (j i : Nat) : Bool := ((prK j).take i).all (fun d => (j + 2) % d != 0)
theorem okN_succ {j i d : Nat} (h : (prK j)[i]? = some d) : okN j (i + 1) = (okN j i && (j + 2) % d != 0) := by
  unfold okN
  rw [List.take_add_one, h, List.all_append]
  simp
theorem prK_succ (j : Nat) : prK (j + 1) = if okN j (prK j).length then prK j ++ [j + 2] else prK j := by
  unfold okN
  rw [prK, List.take_length]
set_option maxHeartbeats 2000000 in
theorem vPrimes_64 (w : World) :
    Calls Tryz.prog 60 #[.int .i64 64] w fun e w' => (∃ v, e = .returned v ∧ w'.ownsRow w.heap.size 62 1 v (prK 310).length (kc .u64 (prK 310))) ∧ Below w.heap.size w w' := by
  go_enter Tryz.func60, Tryz.ntmps60
  go_wp2_with fail
  go_loopw [3, 4] (fun v t wr => ∃ (j n p c : Nat) (x : Option Addr), j ≤ 310 ∧ t = .int .u64 (p : Int) ∧ Hid (p = j + 2 ∧ n = (prK j).length) ∧ p ≤ 312 ∧ n ≤ 64 ∧ v = .slice x n c ∧ Hid (wr.ownsRow w.heap.size 62 1 (.slice x n c) (prK j).length (kc .u64 (prK j))) ∧ Below w.heap.size w wr) (fun _ t _ => 312 - (intOf t).toNat)
  case atStart => exact ⟨0, 0, 2, 0, none, by omega, rfl, ⟨rfl, rfl⟩, by omega, by omega, rfl, own_nil _ _ _, Below.refl _ _⟩
  case round =>
    obtain ⟨j, n, p, c, x, hj, rfl, hpn, hp, hn, rfl, ho, hb⟩ := hrel
    by_cases hlt : n < 64
    · have hlt2 : (n : Int) < 64 := by omega
      have hj309 : j ≤ 309 := by
        apply Classical.byContradiction
        intro h
        have h1 := prK_mono 310 j (by omega)
        have h2 := prK_310
        have h3 := hpn.out.2
        omega
      go_wp2_with fail
      go_loopw [5, 6] (fun u t wq => ∃ (i : Nat) (R : Bool), i ≤ n ∧ t = .int .i64 (i : Int) ∧ u = .bool R ∧ Hid (R = okN j i) ∧ wq = wr) (fun _ t _ => n - (intOf t).toNat)
      case atStart => exact ⟨0, true, by omega, rfl, rfl, rfl, rfl⟩
      case round =>
        obtain ⟨i, R, hi, rfl, rfl, hR, rfl⟩ := hrel
        by_cases hlti : i < n
        · have hlti2 : (i : Int) < (n : Int) := by omega
          have hds : (prK j)[i]? = some (atN (prK j) i) := atN_some (by have := hpn.out.2; omega)
          obtain ⟨d, hd⟩ : ∃ d, atN (prK j) i = d := ⟨_, rfl⟩
          rw [hd] at hds
          have hd2 := prK_pos j d (List.mem_of_getElem? hds)
          have hd3 : ¬ (d : Int) = 0 := by omega
          have HS := show Hid (okN j (i + 1) = (R && (j + 2) % d != 0)) from by unfold Hid; rw [okN_succ hds, hR.out]
          obtain ⟨x1, ba, oa, rfl, hal, gA⟩ := IsN.cellAt (own_n ho.out) hds
          clear x1 hds hd
          cases R
          · have HQ := show Hid (false = okN j (i + 1)) from by unfold Hid; rw [HS.out]; rfl
            clear HS hR
            go_wp2_with fail
            go_roundw
            case rel => exact ⟨i + 1, false, by omega, by go_num, rfl, HQ.out, trivial⟩
            case measure => simp [intOf]; omega
          · obtain ⟨m, hm⟩ : ∃ m, p % d = m := ⟨_, rfl⟩
            have e1 : (p : Int).tmod (d : Int) = (m : Int) := by rw [← hm, Int.tmod_eq_emod_of_nonneg (by omega)]; omega
            obtain ⟨B, hB⟩ : ∃ B, (m != 0) = B := ⟨_, rfl⟩
            have e2 : ((m : Int) != 0) = B := by
              rw [← hB]
              by_cases h : m = 0
              · subst h; rfl
              · have : ¬ (m : Int) = 0 := by omega
                rw [bne_iff_ne.2 this, bne_iff_ne.2 h]
            have hm64 : m < 18446744073709551616 := by
              have := Nat.mod_le p d
              omega
            have HQ := show Hid (B = okN j (i + 1)) from by unfold Hid; rw [HS.out, ← hpn.out.1, hm, hB]; rfl
            clear HS hR hm hB
            go_wp2_with fail
            go_roundw
            case rel => exact ⟨i + 1, B, by omega, by go_num, rfl, HQ.out, trivial⟩
            case measure => simp [intOf]; omega
        · have hlti2 : ¬ (i : Int) < (n : Int) := by omega
          obtain rfl : i = n := by omega
          have HS := show Hid (prK (j + 1) = if R then prK j ++ [j + 2] else prK j) from by unfold Hid; rw [prK_succ, ← hpn.out.2, ← hR.out]
          have ep : IntKind.u64.wrap ((p : Int) + 1) = ((p + 1 : Nat) : Int) := by rw [wrap_u64]; omega
          obtain ⟨p1, hp1⟩ : ∃ p1, p + 1 = p1 := ⟨_, rfl⟩
          rw [hp1] at ep
          have HP := show Hid (p1 = j + 1 + 2) from by unfold Hid; have := hpn.out.1; omega
          have hp12 : p1 ≤ 312 := by have := hpn.out.1; omega
          have hpl : p1 = p + 1 := hp1.symm
          have HPL := show Hid (p1 = p + 1) from hpl
          clear hp1 hpl
          cases R
          · have hq := HS.out
            simp only [Bool.false_eq_true, if_false] at hq
            have HQ := show Hid (prK (j + 1) = prK j) from hq
            clear hq HS hR
            go_wp2_with fail
            go_roundw
            case rel => exact ⟨j + 1, i, p1, c, x, by omega, rfl, ⟨HP.out, by rw [HQ.out]; exact hpn.out.2⟩, hp12, by omega, rfl, by unfold Hid; rw [HQ.out]; exact ho.out, hb⟩
            case measure => simp [intOf]; have := HPL.out; omega
          · have hq := HS.out
            simp only [if_true] at hq
            have HQ := show Hid (prK j ++ [p] = prK (j + 1)) from by unfold Hid; rw [hq, hpn.out.1]
            clear hq HS hR
            have hon := ho.out
            have hlen : (prK j).length ≤ 1000000 := by have := hpn.out.2; omega
            have hz := hb.size
            go_wp2_with (at_builtin; go_must (refine wpList_append_n R64 rfl _ _ rfl w.heap.size _ _ rfl hon _ rfl p rfl _ HQ hlen hz hb ?_; intro v9 w9 ho9 hb9))
            obtain ⟨x9, c9, rfl⟩ := own_shape ho9
            go_roundw
            case rel => exact ⟨j + 1, (prK (j + 1)).length, p1, c9, x9, by omega, rfl, ⟨HP.out, rfl⟩, hp12, by rw [← HQ.out, List.length_append]; have := hpn.out.2; simp; omega, rfl, ho9, hb9⟩
            case measure => simp [intOf]; have := HPL.out; omega
    · have hlt2 : ¬ (n : Int) < 64 := by omega
      obtain rfl : j = 310 := by
        apply Classical.byContradiction
        intro h
        have h1 := prK_mono j 309 (by omega)
        have h2 := prK_309
        have h3 := hpn.out.2
        omega
      go_wp2_with fail
      go_ret
      exact ⟨⟨_, rfl, ho.out⟩, hb⟩
end Go.Proofs.YtpcmpeeflnlkpaaGreatDoor
