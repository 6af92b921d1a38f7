
/-
  The document's Sum, walked.
-/
import Derived.Test.YtpcmpeeflnlkpaaGreatDoorVRegA
import Derived.Test.YtpcmpeeflnlkpaaGreatDoorVRegB
import Derived.Test.YtpcmpeeflnlkpaaGreatDoorVRegC
import Derived.Test.YtpcmpeeflnlkpaaGreatDoorVRegD
import Derived.Test.YtpcmpeeflnlkpaaGreatDoorVRegEEtc
import Derived.Test.YtpcmpeeflnlkpaaGreatDoorVRegG
namespace Go.Proofs.YtpcmpeeflnlkpaaGreatDoor
open Go.RowKit Ch
set_option maxRecDepth 100000

theorem pad_more (n j : Nat) (h : j < (119 - n % 64) % 64) : (n + 1 + j) % 64 ≠ 56 := by omega
theorem pad_done (n : Nat) : (n + 1 + (119 - n % 64) % 64) % 64 = 56 := by omega
/-- The last i bytes of the count. -/
def tailB (n : Nat) : Nat → List UInt8
  | 0 => []
  | i + 1 => UInt8.ofNat (n / 256 ^ i % 256) :: tailB n i
theorem tailB_8 (n : Nat) : tailB (n * 8) 8 = countB n := by
  have e : ∀ i, 256 ^ i = 2 ^ (8 * i) := fun i => by rw [Nat.pow_mul]
  simp only [tailB, e]
  rfl
theorem tailB_length (n i : Nat) : (tailB n i).length = i := by
  induction i with
  | zero => rfl
  | succ i ih => rw [tailB, List.length_cons, ih]
theorem own_lit1 (w : World) (r : Nat) : (w.alloc (.cells #[.int .u8 (r : Int)] 5)).ownsRow w.heap.size 5 1 (.slice (some ⟨w.heap.size, 0, none⟩) 1 1) 1 [.int .u8 (r : Int)] :=
  ⟨rfl, .inr ⟨w.heap.size, 1, #[.int .u8 (r : Int)], rfl, Nat.le_refl _, heap_push_at w _, Nat.le_refl _, by unfold maxLen; omega, rfl, rfl⟩⟩
theorem isBytes_none (u : World) : IsBytes u (.slice none 0 0) ⟨([] : List UInt8).toArray⟩ := ⟨none, 0, rfl, Nat.le_refl _, by unfold maxLen; omega, .inl ⟨rfl, rfl, rfl⟩⟩
theorem byteVals_one1 (r : Nat) (h : r < 256) : byteVals ⟨[UInt8.ofNat r].toArray⟩ = [.int .u8 (r : Int)] := by
  show [Value.int .u8 ((UInt8.ofNat r).toNat : Int)] = _
  rw [UInt8.toNat_ofNat', Nat.mod_eq_of_lt h]
theorem byteVals_list (L : List UInt8) : byteVals ⟨L.toArray⟩ = Lib.byteCells L := by
  unfold byteVals Lib.byteCells
  rfl
theorem or_maj (a b c : Nat) : (a &&& b) ||| (a &&& c) ||| (b &&& c) = majN a b c := by
  unfold majN
  apply Nat.eq_of_testBit_eq
  intro i
  simp only [Nat.testBit_or, Nat.testBit_and, Nat.testBit_xor]
  cases a.testBit i <;> cases b.testBit i <;> cases c.testBit i <;> rfl
/-- The state's words with the rounds' added, the first k of them. -/
def mixL (l v : List Nat) : Nat → List Nat
  | 0 => l
  | k + 1 => (mixL l v k).set k ((atN l k + atN v k) % 4294967296)
theorem mixL_at (l v : List Nat) (i : Nat) : ∀ k, k ≤ i → (mixL l v k)[i]? = l[i]?
  | 0, _ => rfl
  | k + 1, h => by rw [mixL, List.getElem?_set_ne (by omega), mixL_at l v i k (by omega)]
theorem mixL_8 (s t : S8) : mixL s.l t.l 8 = (addS s t).l := by cases s; cases t; rfl
theorem isN_grown {k : IntKind} {w w' : World} {vg vo m c : Nat} {L : List Nat} {row : Option Nat} (h : IsN k w (.slice (some ⟨vg, vo, none⟩) m c) L) (hg : w.grownBy w' row) (hne : some vg ≠ row) : IsN k w' (.slice (some ⟨vg, vo, none⟩) m c) L := by
  obtain ⟨a, cap, hv, hc, hm, ⟨ha, _⟩ | ⟨x, ha, h | ⟨b, o, hx, hb, hf⟩⟩⟩ := h
  · simp only [Value.slice.injEq] at hv
    rw [← hv.1] at ha
    cases ha
  · exact ⟨a, cap, hv, hc, hm, .inr ⟨x, ha, .inl h⟩⟩
  · have hbv : b = vg := by
      simp only [Value.slice.injEq] at hv
      have := hv.1
      rw [ha, hx] at this
      simp only [Option.some.injEq, Addr.mk.injEq] at this
      exact this.1.symm
    exact ⟨a, cap, hv, hc, hm, .inr ⟨x, ha, .inr ⟨b, o, hx, Nat.lt_of_lt_of_le hb hg.size, fun i n hn => hg.cell (hf i n hn) (by rw [hbv]; exact hne)⟩⟩⟩
def outB (s : S8) (k : Nat) : List UInt8 := (s.l.take k).flatMap wordB
theorem outB_length (s : S8) (k : Nat) (h : k ≤ 8) : (outB s k).length = 4 * k := by
  unfold outB
  rw [List.length_flatMap]
  have : ∀ l : List Nat, (l.map fun a => (wordB a).length).sum = 4 * l.length := fun l => by
    induction l with
    | nil => rfl
    | cons a l ih => rw [List.map_cons, List.sum_cons, ih, List.length_cons]; show 4 + _ = _; omega
  rw [this, List.length_take]
  show 4 * min k 8 = _
  omega
theorem outB_succ (s : S8) (k : Nat) (h : k < 8) : outB s (k + 1) = outB s k ++ wordB (atN s.l k) := by
  unfold outB
  rw [List.take_add_one, List.flatMap_append, atN_some (L := s.l) (i := k) h]
  simp
theorem outB_cells (L : List UInt8) (X : Nat) : Lib.byteCells (L ++ wordB X) = Lib.byteCells L ++ [.int .u8 ((X / 16777216 % 256 : Nat) : Int), .int .u8 ((X / 65536 % 256 : Nat) : Int), .int .u8 ((X / 256 % 256 : Nat) : Int), .int .u8 ((X % 256 : Nat) : Int)] := by
  unfold Lib.byteCells wordB
  rw [List.map_append]
  congr 1
  simp only [List.map_cons, List.map_nil, UInt8.toNat_ofNat']
  have h : ∀ n : Nat, n % 256 % 2 ^ 8 = n % 256 := fun n => by omega
  rw [h, h, h, h]
set_option maxHeartbeats 8000000 in
theorem vSum_any (au av x : Option Addr) (cu cv cx : Nat) (s : ByteArray) (w : World) (hU : IsN .u32 w (.slice au 8 cu) beginS.l) (hV : IsN .u32 w (.slice av 64 cv) roundK) (hB : IsBytes w (.slice x s.size cx) s) (hs : s.size ≤ 100000) :
    Calls Tryz.prog 14 #[.agg #[.slice au 8 cu, .slice av 64 cv], .slice x s.size cx] w fun e w' => (∃ a c, e = .returned (.slice a 32 c) ∧ w'.ownsRow w.heap.size 5 1 (.slice a 32 c) 32 (Lib.byteCells (shaL s.data.toList))) ∧ Below w.heap.size w w' := by
  have hb0 : Below w.heap.size w (w.alloc (.cells #[.slice au 8 cu, .slice av 64 cv] 39)) := (Below.refl _ w).alloc (Nat.le_refl _) _
  have hNb := heap_push_at w (.cells #[.slice au 8 cu, .slice av 64 cv] 39)
  have hz0 : (w.alloc (.cells #[.slice au 8 cu, .slice av 64 cv] 39)).heap.size = w.heap.size + 1 := by simp
  have hB0 := hB.later hb0
  have hU0 := hU.later hb0
  have hV0 := hV.later hb0
  generalize hW0 : w.alloc (.cells #[.slice au 8 cu, .slice av 64 cv] 39) = W0 at *
  have hoe : (W0.alloc (.cells #[] 5)).ownsRow (w.heap.size + 1) 5 1 (.slice (some ⟨w.heap.size + 1, 0, none⟩) 0 0) 0 [] := by rw [← hz0]; exact own_empty W0 _ (Nat.le_refl _)
  have hBa := hB0.alloc (.cells #[] 5)
  have hsz : ByteArray.empty.size + s.size ≤ 1000000 := by simp; omega
  have hsl : s.data.toList.length = s.size := len_eq s
  have hsl0 : s.data.toList.length ≤ 1000000 := by omega
  obtain ⟨M0, hM0⟩ : ∃ M0, s.data.toList ++ [128] = M0 := ⟨_, rfl⟩
  have HM0 := show Hid (s.data.toList ++ [128] = M0) from hM0
  clear hM0 hsl
  go_enter Tryz.func14, Tryz.ntmps14
  go_upto_region 2 with (at_builtin; go_must (refine wpList_append_bytes rfl _ _ rfl (w.heap.size + 1) _ ByteArray.empty rfl hoe _ s rfl hBa hsz (by simp [hz0]) ?_; intro v1 w1 ho1 hb1))
  rw [cat_empty] at ho1
  have ho1' : w1.ownsRow (w.heap.size + 1) 5 1 v1 s.data.toList.length (Lib.byteCells s.data.toList) := by rw [len_eq]; exact ho1
  have hb01 : Below (w.heap.size + 1) W0 w1 := ((Below.refl _ W0).alloc (by rw [hz0]; exact Nat.le_refl _) _).trans hb1
  have hz01 : w.heap.size + 1 ≤ w1.heap.size := by rw [← hz0]; exact hb01.size
  clear ho1 hb1 hoe hBa
  go_wp2_with (at_builtin; go_must (refine wpList_append_one rfl _ _ rfl (w.heap.size + 1) _ _ rfl ho1' _ rfl 128 rfl _ HM0 hsl0 hz01 hb01 ?_; intro v2 w2 ho2 hb2))
  have hM0l : M0.length = s.size + 1 := by rw [← HM0.out, List.length_append, len_eq]; rfl
  obtain ⟨J, hJ⟩ : ∃ J, (119 - s.size % 64) % 64 = J := ⟨_, rfl⟩
  have hJ64 : J < 64 := by omega
  have HJ := show Hid ((119 - s.size % 64) % 64 = J ∧ M0.length = s.size + 1) from ⟨hJ, hM0l⟩
  obtain ⟨a2, c2, rfl⟩ := own_shape ho2
  have HO2 := show Hid (w2.ownsRow (w.heap.size + 1) 5 1 (.slice a2 M0.length c2) (M0 ++ List.replicate 0 0).length (Lib.byteCells (M0 ++ List.replicate 0 0))) from by unfold Hid; rw [List.replicate_zero, List.append_nil]; exact ho2
  rw [hM0l] at HO2 ⊢
  clear hJ hM0l ho1' hb01 hz01 ho2 hsl0 hsz
  go_loopw [5] (fun u wr => ∃ (j m c : Nat) (y : Option Addr), u = .slice y m c ∧ Hid (m = s.size + 1 + j ∧ j ≤ J) ∧ m ≤ 100200 ∧ Hid (wr.ownsRow (w.heap.size + 1) 5 1 (.slice y m c) (M0 ++ List.replicate j 0).length (Lib.byteCells (M0 ++ List.replicate j 0))) ∧ Below (w.heap.size + 1) W0 wr) (fun u _ => s.size + 1 + J - lenOf u)
  case atStart => exact ⟨0, s.size + 1, c2, a2, rfl, ⟨by omega, by omega⟩, by omega, HO2.out, hb2⟩
  case round =>
    obtain ⟨j, m, c, y, rfl, hm, hmb, ho, hb⟩ := hrel
    obtain ⟨r, hr⟩ : ∃ r, m % 64 = r := ⟨_, rfl⟩
    have e1 : (m : Int).tmod 64 = (r : Int) := by rw [← hr, Int.tmod_eq_emod_of_nonneg (by omega)]; omega
    have hmle : (m : Int) ≤ 100200 := by omega
    by_cases hlt : j < J
    · have hne : ¬ r = 56 := by
        have := pad_more s.size j (by rw [HJ.out.1]; exact hlt)
        rw [← hr, hm.out.1]; exact this
      have hne1 : ((r : Int) != 56) = true := by simp; omega
      have hz := hb.size
      rw [hz0] at hz
      obtain ⟨L1, hL1⟩ : ∃ L1, (M0 ++ List.replicate j 0) ++ [0] = L1 := ⟨_, rfl⟩
      have HL1 := show Hid ((M0 ++ List.replicate j 0) ++ [0] = L1) from hL1
      have hll : (M0 ++ List.replicate j 0).length ≤ 1000000 := by rw [List.length_append, HJ.out.2, List.length_replicate]; omega
      have hon := ho.out
      clear hL1 hr hne
      go_wp2_with (at_builtin; go_must (refine wpList_append_one rfl _ _ rfl (w.heap.size + 1) _ _ rfl hon _ rfl 0 rfl _ HL1 hll hz hb ?_; intro v3 w3 ho3 hb3))
      obtain ⟨a3, c3, rfl⟩ := own_shape ho3
      have hL1e : L1 = M0 ++ List.replicate (j + 1) 0 := by rw [← HL1.out, List.append_assoc, ← List.replicate_succ']
      have hL1l : L1.length = m + 1 := by rw [hL1e, List.length_append, HJ.out.2, List.length_replicate]; have := hm.out; omega
      go_roundw
      case rel => exact ⟨j + 1, m + 1, c3, a3, by rw [hL1l], ⟨by have := hm.out; omega, by omega⟩, by have := hm.out; omega, by unfold Hid; rw [← hL1e, ← hL1l]; exact ho3, hb3⟩
      case measure => simp [lenOf]; have := hm.out; rw [hL1l]; omega
    · obtain rfl : j = J := by have := hm.out; omega
      have hr56 : r = 56 := by
        have := pad_done s.size
        rw [HJ.out.1] at this
        rw [← hr, hm.out.1]; exact this
      have hne1 : ((r : Int) != 56) = false := by rw [hr56]; rfl
      obtain ⟨ML, hML⟩ : ∃ ML, M0 ++ List.replicate j 0 = ML := ⟨_, rfl⟩
      have hMLe : ML ++ countB s.size = padL s.data.toList := by
        rw [← hML, ← HM0.out, ← HJ.out.1]
        unfold padL fillB
        rw [len_eq, List.append_assoc s.data.toList]
        rfl
      have HMO := show Hid (wr.ownsRow (w.heap.size + 1) 5 1 (.slice y m c) ML.length (Lib.byteCells ML)) from by unfold Hid; rw [← hML]; exact ho.out
      have HML := show Hid (ML ++ countB s.size = padL s.data.toList ∧ ML.length = m) from ⟨hMLe, by rw [← hML, List.length_append, HJ.out.2, List.length_replicate]; have := hm.out; omega⟩
      obtain ⟨N8, hN8⟩ : ∃ N8, s.size * 8 = N8 := ⟨_, rfl⟩
      have eN : IntKind.u64.wrap ((s.size : Int) * 8) = (N8 : Int) := by rw [wrap_u64]; omega
      have eS : IntKind.u64.wrap (s.size : Int) = (s.size : Int) := by rw [wrap_u64]; omega
      have HN8 := show Hid (s.size * 8 = N8 ∧ N8 ≤ 800000) from ⟨hN8, by omega⟩
      clear hML hMLe hr hr56 ho hm hN8 HJ HO2 HM0
      obtain ⟨w3, hw3⟩ : ∃ w3, w3 = wr := ⟨_, rfl⟩
      subst hw3
      go_wp2_with fail
      go_loopw [6, 7, 8] (fun nv tv t wq => ∃ (i N c : Nat) (y : Option Addr), i ≤ 8 ∧ t = .int .i64 (i : Int) ∧ nv = .int .u64 (N : Int) ∧ Hid (N = N8 / 256 ^ i) ∧ N ≤ 800000 ∧ tv = .slice y i c ∧ Hid (IsBytes wq (.slice y i c) ⟨(tailB N8 i).toArray⟩) ∧ Below w3.heap.size w3 wq) (fun _ _ t _ => 8 - (intOf t).toNat)
      case atStart => exact ⟨0, N8, 0, none, by omega, rfl, rfl, by unfold Hid; rw [Nat.pow_zero, Nat.div_one], HN8.out.2, rfl, isBytes_none _, Below.refl _ _⟩
      case round =>
        obtain ⟨i, N, ct, yt, hi, rfl, rfl, hN, hNb2, rfl, hT, hbq⟩ := hrel
        by_cases hlti : i < 8
        · have hlti2 : (i : Int) < 8 := by omega
          obtain ⟨r8, hr8⟩ : ∃ r8, N % 256 = r8 := ⟨_, rfl⟩
          obtain ⟨q8, hq8⟩ : ∃ q8, N / 256 = q8 := ⟨_, rfl⟩
          have e1 : (N : Int).tmod 256 = (r8 : Int) := by rw [← hr8, Int.tmod_eq_emod_of_nonneg (by omega)]; omega
          have e2 : (N : Int).tdiv 256 = (q8 : Int) := by rw [← hq8, Int.tdiv_eq_ediv_of_nonneg (by omega)]; omega
          have hr256 : r8 < 256 := by omega
          have e3 : IntKind.u8.wrap (r8 : Int) = (r8 : Int) := by rw [IntKind.wrap_u8]; omega
          have hq9 : q8 ≤ 800000 := by omega
          have HQ := show Hid (q8 = N8 / 256 ^ (i + 1)) from by unfold Hid; rw [← hq8, hN.out, Nat.pow_succ, Nat.div_div_eq_div_mul]
          have hTB : tailB N8 (i + 1) = UInt8.ofNat r8 :: tailB N8 i := by rw [tailB, ← hN.out, hr8]
          have hown : (wr.alloc (.cells #[.int .u8 (r8 : Int)] 5)).ownsRow wr.heap.size 5 1 (.slice (some ⟨wr.heap.size, 0, none⟩) 1 1) (⟨[UInt8.ofNat r8].toArray⟩ : ByteArray).size (byteVals ⟨[UInt8.ofNat r8].toArray⟩) := by rw [byteVals_one1 r8 hr256]; exact own_lit1 wr r8
          have hTa := hT.out.alloc (.cells #[.int .u8 (r8 : Int)] 5)
          have hsz2 : (⟨[UInt8.ofNat r8].toArray⟩ : ByteArray).size + (⟨(tailB N8 i).toArray⟩ : ByteArray).size ≤ 1000000 := by rw [size_of_list, size_of_list, tailB_length]; simp; omega
          have hCT : cat ⟨[UInt8.ofNat r8].toArray⟩ ⟨(tailB N8 i).toArray⟩ = ⟨(tailB N8 (i + 1)).toArray⟩ := by rw [hTB]; unfold cat; simp
          clear hr8 hq8 hTB hN
          go_wp2_with (at_builtin; go_must (refine wpList_append_bytes rfl _ _ rfl wr.heap.size _ _ rfl hown _ _ rfl hTa hsz2 (by simp) ?_; intro v4 w4 ho4 hb4))
          rw [hCT] at ho4
          have hI4 := own_bytes ho4
          obtain ⟨a4, c4, rfl⟩ := own_shape ho4
          have hz4 : (⟨(tailB N8 (i + 1)).toArray⟩ : ByteArray).size = i + 1 := by rw [size_of_list, tailB_length]
          rw [hz4] at hI4
          have hb34 : Below w3.heap.size w3 w4 := hbq.trans ((((Below.refl _ wr).alloc (Nat.le_refl _) _).trans hb4).mono hbq.size)
          go_roundw
          case rel => exact ⟨i + 1, q8, c4, a4, by omega, by go_num, rfl, HQ.out, hq9, by rw [hz4], hI4, hb34⟩
          case measure => simp [intOf]; omega
        · have hlti2 : ¬ (i : Int) < 8 := by omega
          obtain rfl : i = 8 := by omega
          have hT8 := hT.out
          have hown : wr.ownsRow (w.heap.size + 1) 5 1 (.slice y m c) (⟨ML.toArray⟩ : ByteArray).size (byteVals ⟨ML.toArray⟩) := by rw [size_of_list, byteVals_list]; exact ownsRow_later HMO.out hbq
          have hbW : Below (w.heap.size + 1) W0 wr := hb.trans (hbq.mono (by rw [← hz0]; exact hb.size))
          have hzW : w.heap.size + 1 ≤ wr.heap.size := by rw [← hz0]; exact hbW.size
          have hsz2 : (⟨ML.toArray⟩ : ByteArray).size + (⟨(tailB N8 8).toArray⟩ : ByteArray).size ≤ 1000000 := by rw [size_of_list, size_of_list, tailB_length, HML.out.2]; omega
          obtain ⟨MB, hMB⟩ : ∃ MB, cat ⟨ML.toArray⟩ ⟨(tailB N8 8).toArray⟩ = MB := ⟨_, rfl⟩
          have hMBl : MB.data.toList = padL s.data.toList := by
            rw [← hMB, ← HML.out.1, ← HN8.out.1, tailB_8]
            unfold cat; simp
          clear hT hN HMO
          go_upto_region 13 with (at_builtin; go_must (refine wpList_append_bytes rfl _ _ rfl (w.heap.size + 1) _ _ rfl hown _ _ rfl hT8 hsz2 hzW ?_; intro v5 w5 ho5 hb5))
          rw [hMB] at ho5
          have hbW5 := hbW.trans hb5
          have hI5 := own_bytes ho5
          obtain ⟨a5, c5, rfl⟩ := own_shape ho5
          have hMz : MB.size % 64 = 0 ∧ MB.size ≤ 100300 := by
            have h1 := padL_length s.data.toList
            rw [← hMBl, len_eq] at h1
            refine ⟨h1, ?_⟩
            have h2 : MB.size = ML.length + 8 := by rw [← hMB, cat_size, size_of_list, size_of_list, tailB_length]
            have := HML.out.2
            omega
          obtain ⟨mz, hmz⟩ : ∃ mz, MB.size = mz := ⟨_, rfl⟩
          rw [hmz] at hI5 hMz ⊢
          have hboxW : w5.heap[w.heap.size]? = some (.cells #[.slice au 8 cu, .slice av 64 cv] 39 (0, 0)) := (hbW5.block _ (by omega)).trans hNb
          have gH := block_cell 0 hboxW rfl
          have hUw5 : IsN .u32 w5 (.slice au 8 cu) beginS.l := hU0.later (by rw [hz0]; exact hbW5)
          obtain ⟨L6, hL6⟩ : ∃ L6, beginS.l = L6 := ⟨_, rfl⟩
          have HE6 := show Hid ([] ++ beginS.l = L6) from hL6
          have hoe6 := own_emptyN w5 w5.heap.size 63 (Nat.le_refl _)
          have hUa := hUw5.alloc (.cells #[] 63)
          have gHa := block_cell 0 (block_alloc (.cells #[] 63) hboxW) rfl
          clear hMB hbW hzW hsz2 hT8 hown ho5 hb5 hb hbq HML HN8
          go_wp2_with (at_builtin; go_must (refine wpList_append_ns R32 rfl _ _ rfl w5.heap.size _ [] rfl hoe6 _ beginS.l rfl hUa L6 HE6 (by decide) (by simp) ?_; intro v6 w6 ho6 hb6))
          have hb56 : Below w5.heap.size w5 w6 := ((Below.refl _ w5).alloc (Nat.le_refl _) _).trans hb6
          obtain ⟨g6, c6, hv6, hx6⟩ := own_setN ho6 (i := 0) (n := 0x6a09e667) (by rw [← hL6]; rfl)
          clear hx6
          subst hv6
          have hl8 : L6.length = 8 := by rw [← hL6]; rfl
          rw [hl8] at ho6 ⊢
          have HO6 := show Hid (w6.ownsRow w5.heap.size 63 1 (.slice (some ⟨g6, 0, none⟩) 8 c6) (blocksS (padL s.data.toList) 0).l.length (kc .u32 (blocksS (padL s.data.toList) 0).l)) from by unfold Hid; rw [show blocksS (padL s.data.toList) 0 = beginS from rfl, hL6, hl8]; exact ho6
          have hmpos : 0 < mz := by
            have h1 := hMBl
            have h2 : MB.data.toList.length = mz := by rw [len_eq]; exact hmz
            rw [hMBl] at h2
            unfold padL fillB at h2
            simp at h2
            omega
          obtain ⟨mb, mo, rfl, hmlt, hx7⟩ := IsBytes.cellAt (s := MB) (by rw [hmz]; exact hI5) (i := 0) (by omega)
          clear hx7
          have hmc : mz ≤ c5 := by
            obtain ⟨_, _, e1, e2, _⟩ := hI5
            simp only [Value.slice.injEq] at e1
            omega
          have HMC := show Hid (∀ (wq : World) (k : Nat), Below w5.heap.size w5 wq → k < mz → wq.cell? ⟨mb, mo + k, none⟩ = some (.int .u8 (byL (padL s.data.toList) k : Int))) from fun wq k hbq hk => by
            obtain ⟨b', o', e, _, g⟩ := IsBytes.cellAt (s := MB) (by rw [hmz]; exact hI5.later hbq) (i := k) (by omega)
            simp only [Option.some.injEq, Addr.mk.injEq, and_true] at e
            rw [e.1, e.2, g, ← hMBl, byte_list]
            rfl
          have HKC := show Hid (∀ wq : World, Below w5.heap.size w5 wq → wq.cell? ⟨w.heap.size, 1, none⟩ = some (.slice av 64 cv) ∧ IsN .u32 wq (.slice av 64 cv) roundK) from fun wq hbq => ⟨(hbq.cell (p := ⟨w.heap.size, 1, none⟩) (block_lt hboxW)).trans (block_cell 1 hboxW rfl), (hV0.later (by rw [hz0]; exact hbW5)).later hbq⟩
          obtain ⟨hx8, kg, ko, hav, hx9, hx10⟩ := IsN.cellAt (HKC.out w6 hb56).2 (i := 0) (n := 0x428a2f98) rfl
          clear hx8 hx9 hx10
          subst hav
          have HMZ := show Hid (mz % 64 = 0 ∧ MB.data.toList = padL s.data.toList ∧ MB.size = mz) from ⟨hMz.1, hMBl, hmz⟩
          have HBW := show Hid (Below w.heap.size w w5) from hb0.trans (hbW5.mono (by omega))
          have hmz3 : mz ≤ 100300 := hMz.2
          clear hMz hMBl hmz hI5 hUa hUw5 hoe6 ho6 hb6 gH hboxW hbW5 hL6 HE6 hl8 hV hU hB hB0 hU0 hV0 hNb hb0 hW0 hz0
          go_loopw [10] (fun t wr => ∃ n at_ : Nat, Hid (at_ = 64 * n) ∧ at_ ≤ mz ∧ t = .int .i64 (at_ : Int) ∧ Hid (wr.ownsRow w5.heap.size 63 1 (.slice (some ⟨g6, 0, none⟩) 8 c6) (blocksS (padL s.data.toList) n).l.length (kc .u32 (blocksS (padL s.data.toList) n).l)) ∧ Below w5.heap.size w5 wr) (fun t _ => mz - (intOf t).toNat)
          case atStart => exact ⟨0, 0, rfl, by omega, rfl, HO6.out, hb56⟩
          case round =>
            obtain ⟨n, at_, hat, hatm, rfl, hHo, hbA⟩ := hrel
            by_cases hltA : at_ < mz
            · have hltA2 : (at_ : Int) < (mz : Int) := by omega
              have hroom : at_ + 64 ≤ mz := by have := HMZ.out.1; have := hat.out; omega
              obtain ⟨wa, hwa⟩ : ∃ wa, wa = wr := ⟨_, rfl⟩
              subst hwa
              obtain ⟨BK, hBK⟩ : ∃ BK, ((padL s.data.toList).drop (64 * n)).take 64 = BK := ⟨_, rfl⟩
              have HBK := show Hid (((padL s.data.toList).drop (64 * n)).take 64 = BK) from hBK
              have HBY := show Hid (∀ j, j < 64 → byL BK j = byL (padL s.data.toList) (at_ + j)) from fun j hj => by
                rw [← hBK, hat.out]
                unfold byL
                rw [List.getElem?_take_of_lt hj, List.getElem?_drop]
              clear hBK HO6
              go_wp2_with fail
              go_loopw [11, 12] (fun u t wq => ∃ (i c : Nat) (y : Option Addr), i ≤ 64 ∧ t = .int .i64 (i : Int) ∧ u = .slice y i c ∧ Hid (wq.ownsRow wa.heap.size 63 1 (.slice y i c) (schedN BK i).length (kc .u32 (schedN BK i))) ∧ Below wa.heap.size wa wq) (fun _ t _ => 64 - (intOf t).toNat)
              case atStart => exact ⟨0, 0, none, by omega, rfl, rfl, own_nil _ _ _, Below.refl _ _⟩
              case round =>
                obtain ⟨i, cw, yw, hi, rfl, rfl, hWo, hbQ⟩ := hrel
                by_cases hlti : i < 64
                · have hlti2 : (i : Int) < 64 := by omega
                  by_cases h16 : i < 16
                  · have h162 : (i : Int) < 16 := by omega
                    obtain ⟨lo, hlo⟩ : ∃ lo, at_ + 4 * i = lo := ⟨_, rfl⟩
                    obtain ⟨i4, hi4⟩ : ∃ i4, 4 * i = i4 := ⟨_, rfl⟩
                    obtain ⟨lo4, hlo4⟩ : ∃ lo4, lo + 4 = lo4 := ⟨_, rfl⟩
                    have e4 : (4 : Int) * (i : Int) = (i4 : Int) := by omega
                    have el : (at_ : Int) + (i4 : Int) = (lo : Int) := by omega
                    have el4 : (lo : Int) + 4 = (lo4 : Int) := by omega
                    have hl1 : (lo : Int) ≤ (lo4 : Int) := by omega
                    have hl2 : (lo4 : Int) ≤ (c5 : Int) := by omega
                    have hl3 : lo ≤ lo4 := by omega
                    have hl4 : lo4 ≤ c5 := by omega
                    have hl5 : ¬ c5 = lo := by omega
                    have hl6 : lo4 - lo = 4 := by omega
                    have hi4b : i4 ≤ 64 := by omega
                    have hlob : lo ≤ 100300 := by omega
                    have hlo4b : lo4 ≤ 100300 := by omega
                    have HLO := show Hid (lo = at_ + 4 * i) from hlo.symm
                    clear hlo hi4 hlo4
                    go_wp2_with fail
                    have hrow : ∀ k, (Value.slice yw i cw).ownBlock = some k → wa.heap.size ≤ k := own_ge hWo.out
                    have hbdr : Below wa.heap.size wa wr.drew := hbQ.drew
                    have HB23 := show Hid (∀ u, wr.drew.grownBy u (Value.slice yw i cw).ownBlock → Below wa.heap.size wa u) from fun u hg => hbdr.grown hg hbdr.size hrow
                    have hW0 := ownsRow_later hWo.out ((Below.refl wr.heap.size wr).drew)
                    have HRW := show Hid (∀ k, (Value.slice yw i cw).ownBlock = some k → k < wr.drew.heap.size) from fun k hk => (World.ownsRow.lt hW0 k hk).2
                    obtain ⟨b0, hb0e⟩ : ∃ b0, byL BK (4 * i) = b0 := ⟨_, rfl⟩
                    obtain ⟨b1, hb1e⟩ : ∃ b1, byL BK (4 * i + 1) = b1 := ⟨_, rfl⟩
                    obtain ⟨b2, hb2e⟩ : ∃ b2, byL BK (4 * i + 2) = b2 := ⟨_, rfl⟩
                    obtain ⟨b3, hb3e⟩ : ∃ b3, byL BK (4 * i + 3) = b3 := ⟨_, rfl⟩
                    have l0 := byL_lt BK (4 * i)
                    have l1 := byL_lt BK (4 * i + 1)
                    have l2 := byL_lt BK (4 * i + 2)
                    have l3 := byL_lt BK (4 * i + 3)
                    rw [hb0e] at l0
                    rw [hb1e] at l1
                    rw [hb2e] at l2
                    rw [hb3e] at l3
                    have HCB := show Hid (∀ u, wr.drew.grownBy u (Value.slice yw i cw).ownBlock → u.cell? ⟨mb, mo + lo, none⟩ = some (.int .u8 (b0 : Int)) ∧ u.cell? ⟨mb, mo + lo + 1, none⟩ = some (.int .u8 (b1 : Int)) ∧ u.cell? ⟨mb, mo + lo + 2, none⟩ = some (.int .u8 (b2 : Int)) ∧ u.cell? ⟨mb, mo + lo + 3, none⟩ = some (.int .u8 (b3 : Int))) from fun u hg => by
                      have hbu : Below w5.heap.size w5 u := hbA.trans ((HB23.out u hg).mono hbA.size)
                      have hl := HLO.out
                      refine ⟨?_, ?_, ?_, ?_⟩
                      · rw [HMC.out u lo hbu (by omega), ← hb0e, HBY.out (4 * i) (by omega), hl]
                      · rw [show mo + lo + 1 = mo + (lo + 1) by omega, HMC.out u (lo + 1) hbu (by omega), ← hb1e, HBY.out (4 * i + 1) (by omega), show at_ + (4 * i + 1) = lo + 1 by omega]
                      · rw [show mo + lo + 2 = mo + (lo + 2) by omega, HMC.out u (lo + 2) hbu (by omega), ← hb2e, HBY.out (4 * i + 2) (by omega), show at_ + (4 * i + 2) = lo + 2 by omega]
                      · rw [show mo + lo + 3 = mo + (lo + 3) by omega, HMC.out u (lo + 3) hbu (by omega), ← hb3e, HBY.out (4 * i + 3) (by omega), show at_ + (4 * i + 3) = lo + 3 by omega]
                    have hslen : (schedN BK i).length = i := schedN_length BK i
                    have HLS := show Hid (schedN BK i ++ [((b0 * 256 + b1) * 256 + b2) * 256 + b3] = schedN BK (i + 1)) from by
                      unfold Hid
                      rw [schedN, nextW, hslen, if_pos h16, wordAt, hb0e, hb1e, hb2e, hb3e]
                    obtain ⟨t0, ht0⟩ : ∃ t, b0 * 256 = t := ⟨_, rfl⟩
                    obtain ⟨t1, ht1⟩ : ∃ t, t0 + b1 = t := ⟨_, rfl⟩
                    obtain ⟨t2, ht2⟩ : ∃ t, t1 * 256 = t := ⟨_, rfl⟩
                    obtain ⟨t3, ht3⟩ : ∃ t, t2 + b2 = t := ⟨_, rfl⟩
                    obtain ⟨t4, ht4⟩ : ∃ t, t3 * 256 = t := ⟨_, rfl⟩
                    obtain ⟨X, hX⟩ : ∃ t, t4 + b3 = t := ⟨_, rfl⟩
                    have q0 : IntKind.u32.wrap ((b0 : Int) * 256) = (t0 : Int) := by rw [IntKind.wrap_u32]; omega
                    have q1 : IntKind.u32.wrap ((t0 : Int) + (b1 : Int)) = (t1 : Int) := by rw [IntKind.wrap_u32]; omega
                    have q2 : IntKind.u32.wrap ((t1 : Int) * 256) = (t2 : Int) := by rw [IntKind.wrap_u32]; omega
                    have q3 : IntKind.u32.wrap ((t2 : Int) + (b2 : Int)) = (t3 : Int) := by rw [IntKind.wrap_u32]; omega
                    have q4 : IntKind.u32.wrap ((t3 : Int) * 256) = (t4 : Int) := by rw [IntKind.wrap_u32]; omega
                    have q5 : IntKind.u32.wrap ((t4 : Int) + (b3 : Int)) = (X : Int) := by rw [IntKind.wrap_u32]; omega
                    have p0 : IntKind.u32.wrap (b0 : Int) = (b0 : Int) := by rw [IntKind.wrap_u32]; omega
                    have p1 : IntKind.u32.wrap (b1 : Int) = (b1 : Int) := by rw [IntKind.wrap_u32]; omega
                    have p2 : IntKind.u32.wrap (b2 : Int) = (b2 : Int) := by rw [IntKind.wrap_u32]; omega
                    have p3 : IntKind.u32.wrap (b3 : Int) = (b3 : Int) := by rw [IntKind.wrap_u32]; omega
                    have HLX := show Hid (schedN BK i ++ [X] = schedN BK (i + 1)) from by unfold Hid; rw [← HLS.out, ← hX, ← ht4, ← ht3, ← ht2, ← ht1, ← ht0]
                    clear ht0 ht1 ht2 ht3 ht4 hX HLS hslen hb0e hb1e hb2e hb3e hrow hbdr
                    refine semVR mb mo lo b0 b1 b2 b3 t0 t1 t2 t3 t4 X yw i cw c5 wa BK rfl rfl rfl hi hW0 HB23 HRW HCB q0 q1 q2 q3 q4 q5 p0 p1 p2 p3 HLX ?_
                    intro vs u hS hbu _
                    unfold semVO
                    have s25 := hS 25 11 rfl
                    simp only [putFrom, Act.put, List.setIfInBounds_toArray, List.set_cons_succ, List.set_cons_zero, Nat.reduceAdd]
                    clear hS
                    generalize vs 0 = z0
                    generalize vs 1 = z1
                    generalize vs 2 = z2
                    generalize vs 3 = z3
                    generalize vs 4 = z4
                    generalize vs 5 = z5
                    generalize vs 6 = z6
                    generalize vs 7 = z7
                    generalize vs 8 = z8
                    generalize vs 9 = z9
                    generalize vs 10 = z10
                    generalize vs 11 = z11
                    generalize vs 12 = z12
                    generalize vs 13 = z13
                    generalize vs 14 = z14
                    generalize vs 15 = z15
                    generalize vs 16 = z16
                    generalize vs 17 = z17
                    generalize vs 18 = z18
                    generalize vs 19 = z19
                    generalize vs 20 = z20
                    generalize vs 21 = z21
                    generalize vs 22 = z22
                    generalize vs 23 = z23
                    generalize vs 24 = z24
                    generalize vs 25 = z25 at *
                    have s25' : u.ownsRow wa.heap.size 63 1 z25 (schedN BK (i + 1)).length (kc .u32 (schedN BK (i + 1))) := s25
                    have hbN := HB23.out u hbu
                    clear s25
                    rw [schedN_length] at s25'
                    obtain ⟨yn, cn, rfl⟩ := own_shape s25'
                    clear q0 q1 q2 q3 q4 q5 p0 p1 p2 p3 HCB HRW HB23 HLX
                    go_wp2_with fail
                    go_roundw
                    case rel => exact ⟨i + 1, cn, yn, by omega, by go_num, rfl, by unfold Hid; rw [schedN_length]; exact s25', hbN⟩
                    case measure => simp [intOf]; omega
                  · have h162 : ¬ (i : Int) < 16 := by omega
                    have hslen : (schedN BK i).length = i := schedN_length BK i
                    have hat2 : ∀ j, j < i → (schedN BK i)[j]? = some (atN (schedN BK i) j) := fun j hj => atN_some (by rw [hslen]; exact hj)
                    obtain ⟨wg, cap0, hv0, hx1⟩ := own_setN hWo.out (hat2 0 (by omega))
                    clear hx1
                    simp only [Value.slice.injEq] at hv0
                    obtain ⟨rfl, hx2, rfl⟩ := hv0
                    clear hx2
                    obtain ⟨i15, hi15⟩ : ∃ j, i - 15 = j := ⟨_, rfl⟩
                    obtain ⟨i2, hi2⟩ : ∃ j, i - 2 = j := ⟨_, rfl⟩
                    obtain ⟨i7, hi7⟩ : ∃ j, i - 7 = j := ⟨_, rfl⟩
                    obtain ⟨i16, hi16⟩ : ∃ j, i - 16 = j := ⟨_, rfl⟩
                    have e15 : (i : Int) - 15 = (i15 : Int) := by omega
                    have e2 : (i : Int) - 2 = (i2 : Int) := by omega
                    have e7 : (i : Int) - 7 = (i7 : Int) := by omega
                    have e16 : (i : Int) - 16 = (i16 : Int) := by omega
                    have wi15 : IntKind.i64.wrap (i15 : Int) = (i15 : Int) := by rw [IntKind.wrap_i64]; omega
                    have wi2 : IntKind.i64.wrap (i2 : Int) = (i2 : Int) := by rw [IntKind.wrap_i64]; omega
                    have l15 : (i15 : Int) < (i : Int) := by omega
                    have l2 : (i2 : Int) < (i : Int) := by omega
                    have lA := schedN_lt BK i i15
                    have lC := schedN_lt BK i i2
                    have l7 := schedN_lt BK i i7
                    have l16 := schedN_lt BK i i16
                    have gA := (own_setG hWo.out (hat2 i15 (by omega))).2.2.2.2.1
                    have gC := (own_setG hWo.out (hat2 i2 (by omega))).2.2.2.2.1
                    have G7 := show Hid ((schedN BK i)[i7]? = some (atN (schedN BK i) i7) ∧ (schedN BK i)[i16]? = some (atN (schedN BK i) i16)) from ⟨hat2 i7 (by omega), hat2 i16 (by omega)⟩
                    have HLS := show Hid (schedN BK i ++ [(sgB (atN (schedN BK i) i2) + atN (schedN BK i) i7 + sgA (atN (schedN BK i) i15) + atN (schedN BK i) i16) % 4294967296] = schedN BK (i + 1)) from by
                      unfold Hid
                      rw [schedN, nextW, hslen, if_neg (by omega), hi2, hi7, hi15, hi16]
                    clear hat2 hslen hi15 hi2 hi7 hi16
                    generalize atN (schedN BK i) i15 = A at *
                    generalize atN (schedN BK i) i2 = C at *
                    generalize atN (schedN BK i) i7 = X7 at *
                    generalize atN (schedN BK i) i16 = X16 at *
                    have hrow : ∀ k, (Value.slice (some ⟨wg, 0, none⟩) i cw).ownBlock = some k → wa.heap.size ≤ k := own_ge hWo.out
                    have hbdr : Below wa.heap.size wa wr.drew := hbQ.drew
                    have HB23 := show Hid (∀ u, wr.drew.grownBy u (Value.slice (some ⟨wg, 0, none⟩) i cw).ownBlock → Below wa.heap.size wa u) from fun u hg => hbdr.grown hg hbdr.size hrow
                    have HW0 := show Hid (wr.drew.ownsRow wa.heap.size 63 1 (.slice (some ⟨wg, 0, none⟩) i cw) (schedN BK i).length (kc .u32 (schedN BK i))) from ownsRow_later hWo.out ((Below.refl wr.heap.size wr).drew)
                    have HRW := show Hid (∀ k, (Value.slice (some ⟨wg, 0, none⟩) i cw).ownBlock = some k → k < wr.drew.heap.size) from fun k hk => (World.ownsRow.lt HW0.out k hk).2
                    clear hrow hbdr
                    go_wp2_with fail
                    have lr17 := rotr_lt 17 C lC
                    have lr19 := rotr_lt 19 C lC
                    have ll10 : C / 2 ^ 10 < 4294967296 := Nat.lt_of_le_of_lt (Nat.div_le_self _ _) lC
                    have lr7 := rotr_lt 7 A lA
                    have lr18 := rotr_lt 18 A lA
                    have ll3 : A / 2 ^ 3 < 4294967296 := Nat.lt_of_le_of_lt (Nat.div_le_self _ _) lA
                    refine semWR A C X7 X16 (rotr 17 C) (rotr 19 C) (C / 2 ^ 10) (rotr 7 A) (rotr 18 A) (A / 2 ^ 3) (rotr 17 C ^^^ rotr 19 C) (rotr 17 C ^^^ rotr 19 C ^^^ C / 2 ^ 10) (rotr 7 A ^^^ rotr 18 A) (rotr 7 A ^^^ rotr 18 A ^^^ A / 2 ^ 3) ((sgB C + X7) % 4294967296) (((sgB C + X7) % 4294967296 + sgA A) % 4294967296) ((((sgB C + X7) % 4294967296 + sgA A) % 4294967296 + X16) % 4294967296) i i7 i16 cw wg wa BK rfl rfl rfl rfl rfl hi HW0.out HB23 HRW (fun u => vRot_any C 17 u lC (by omega)) (fun u => vRot_any C 19 u lC (by omega)) (fun u => vLow_any C 10 u lC (by omega)) (fun u => vRot_any A 7 u lA (by omega)) (fun u => vRot_any A 18 u lA (by omega)) (fun u => vLow_any A 3 u lA (by omega)) (xor32 _ _ lr17 lr19) (xor32 _ _ (xor_lt32 lr17 lr19) ll10) (xor32 _ _ lr7 lr18) (xor32 _ _ (xor_lt32 lr7 lr18) ll3) (wrap32 _ _) (wrap32 _ _) (wrap32 _ _) e7 e16 G7.out.1 G7.out.2 (by
                      unfold Hid
                      rw [← HLS.out]
                      congr 2
                      omega) ?_
                    intro vs u hS hbu _
                    unfold semWO
                    have s32 := hS 32 11 rfl
                    simp only [putFrom, Act.put, List.setIfInBounds_toArray, List.set_cons_succ, List.set_cons_zero, Nat.reduceAdd]
                    clear hS
                    generalize vs 0 = z0
                    generalize vs 1 = z1
                    generalize vs 2 = z2
                    generalize vs 3 = z3
                    generalize vs 4 = z4
                    generalize vs 5 = z5
                    generalize vs 6 = z6
                    generalize vs 7 = z7
                    generalize vs 8 = z8
                    generalize vs 9 = z9
                    generalize vs 10 = z10
                    generalize vs 11 = z11
                    generalize vs 12 = z12
                    generalize vs 13 = z13
                    generalize vs 14 = z14
                    generalize vs 15 = z15
                    generalize vs 16 = z16
                    generalize vs 17 = z17
                    generalize vs 18 = z18
                    generalize vs 19 = z19
                    generalize vs 20 = z20
                    generalize vs 21 = z21
                    generalize vs 22 = z22
                    generalize vs 23 = z23
                    generalize vs 24 = z24
                    generalize vs 25 = z25
                    generalize vs 26 = z26
                    generalize vs 27 = z27
                    generalize vs 28 = z28
                    generalize vs 29 = z29
                    generalize vs 30 = z30
                    generalize vs 31 = z31
                    generalize vs 32 = z32 at *
                    have s32' : u.ownsRow wa.heap.size 63 1 z32 (schedN BK (i + 1)).length (kc .u32 (schedN BK (i + 1))) := s32
                    have hbN := HB23.out u hbu
                    clear s32
                    rw [schedN_length] at s32'
                    obtain ⟨yn, cn, rfl⟩ := own_shape s32'
                    clear HRW HB23 HLS G7 HW0
                    go_wp2_with fail
                    go_roundw
                    case rel => exact ⟨i + 1, cn, yn, by omega, by go_num, rfl, by unfold Hid; rw [schedN_length]; exact s32', hbN⟩
                    case measure => simp [intOf]; omega
                · have hlti2 : ¬ (i : Int) < 64 := by omega
                  obtain rfl : i = 64 := by omega
                  have hslen : (schedN BK 64).length = 64 := schedN_length BK 64
                  have hat2 : ∀ j, j < 64 → (schedN BK 64)[j]? = some (atN (schedN BK 64) j) := fun j hj => atN_some (by rw [hslen]; exact hj)
                  obtain ⟨wg, cap0, hv0, hx1⟩ := own_setN hWo.out (hat2 0 (by omega))
                  clear hx1
                  simp only [Value.slice.injEq] at hv0
                  obtain ⟨rfl, hx2, rfl⟩ := hv0
                  clear hx2 hslen
                  obtain ⟨WL, hWL⟩ : ∃ WL, schedN BK 64 = WL := ⟨_, rfl⟩
                  obtain ⟨S0, hS0⟩ : ∃ S0, blocksS (padL s.data.toList) n = S0 := ⟨_, rfl⟩
                  have hok0 : S0.ok := by rw [← hS0]; exact blocksS_ok _ _
                  have hSn : blocksS (padL s.data.toList) (n + 1) = addS S0 (rounds WL S0 64) := by rw [blocksS, hS0, HBK.out, mixS, hWL]
                  have hWlt : ∀ j, atN WL j < 4294967296 := fun j => by rw [← hWL]; exact schedN_lt BK 64 j
                  rw [hWL] at hat2
                  have hWo2 := hWo.out
                  rw [hWL] at hWo2
                  have hHo2 := hHo.out
                  rw [hS0] at hHo2
                  have hg6 : g6 < wa.heap.size := (World.ownsRow.lt hHo2 g6 rfl).2
                  have hH1 := ownsRow_later hHo2 hbQ
                  have hHn := own_n hH1
                  have hbA2 : Below w5.heap.size w5 wr := hbA.trans (hbQ.mono hbA.size)
                  obtain ⟨V0, hV0⟩ : ∃ V0, S0.l = V0 := ⟨_, rfl⟩
                  have HE7 := show Hid ([] ++ S0.l = V0) from hV0
                  have hoe7 := own_emptyN wr wr.heap.size 63 (Nat.le_refl _)
                  have hHa := hHn.alloc (.cells #[] 63)
                  have HWO := show Hid (wr.ownsRow wa.heap.size 63 1 (.slice (some ⟨wg, 0, none⟩) 64 cw) WL.length (kc .u32 WL)) from hWo2
                  have HHO := show Hid (wr.ownsRow w5.heap.size 63 1 (.slice (some ⟨g6, 0, none⟩) 8 c6) S0.l.length (kc .u32 S0.l)) from hH1
                  have HAT := show Hid ((∀ j, j < 64 → WL[j]? = some (atN WL j)) ∧ (∀ j, atN WL j < 4294967296) ∧ blocksS (padL s.data.toList) (n + 1) = addS S0 (rounds WL S0 64)) from ⟨hat2, hWlt, hSn⟩
                  clear hWo2 hHo2 hWo hHo hat2 hWlt hSn hS0 hWL hH1 HBK HBY hHn
                  obtain ⟨wq, hwq⟩ : ∃ wq, wq = wr := ⟨_, rfl⟩
                  subst hwq
                  go_wp2_with (at_builtin; go_must (refine wpList_append_ns R32 rfl _ _ rfl wq.heap.size _ [] rfl hoe7 _ S0.l rfl hHa V0 HE7 (by simp [S8.l]) (by simp) ?_; intro v7 w7 ho7 hb7))
                  have hb77 : Below wq.heap.size wq w7 := ((Below.refl _ wq).alloc (Nat.le_refl _) _).trans hb7
                  obtain ⟨vg0, c70, hv7, hx71, hx72, hx73⟩ := own_setN ho7 (i := 0) (n := S0.a) (by rw [← hV0]; rfl)
                  subst hv7
                  have hl7 : V0.length = 8 := by rw [← hV0]; rfl
                  rw [hl7] at ho7 ⊢
                  have HV7 := show Hid (IsN .u32 w7 (.slice (some ⟨vg0, 0, none⟩) 8 c70) (rounds WL S0 0).l) from by
                    unfold Hid
                    rw [show rounds WL S0 0 = S0 from rfl, hV0]
                    have := own_n (k := .u32) (L := V0) (by rw [hl7]; exact ho7)
                    exact this
                  clear hx71 hx73 hoe7 hHa HE7 hb7 ho7 hl7
                  go_loopw [16, 17] (fun u t wz => ∃ k c vg vo : Nat, k ≤ 64 ∧ t = .int .i64 (k : Int) ∧ u = .slice (some ⟨vg, vo, none⟩) 8 c ∧ Hid (wq.heap.size ≤ vg) ∧ Hid (IsN .u32 wz (.slice (some ⟨vg, vo, none⟩) 8 c) (rounds WL S0 k).l) ∧ Below wq.heap.size wq wz) (fun _ t _ => 64 - (intOf t).toNat)
                  case atStart => exact ⟨0, c70, vg0, 0, by omega, rfl, rfl, hx72, HV7.out, hb77⟩
                  case round =>
                    obtain ⟨k, c8, vg, vo, hk, rfl, rfl, hvg, hVN, hbZ⟩ := hrel
                    by_cases hltk : k < 64
                    · have hltk2 : (k : Int) < 64 := by omega
                      have hok := rounds_ok (W := WL) hok0 k
                      have hnx : rounds WL S0 (k + 1) = rnd (atN roundK k) (atN WL k) (rounds WL S0 k) := rfl
                      obtain ⟨st, hst⟩ : ∃ st, rounds WL S0 k = st := ⟨_, rfl⟩
                      have hVN2 := hVN.out
                      rw [hst] at hok hVN2 hnx
                      obtain ⟨A, B, C, D, E, F, G, H⟩ := st
                      obtain ⟨lA, lB, lC, lD, lE, lF, lG, lH⟩ := hok
                      simp only at lA lB lC lD lE lF lG lH
                      obtain ⟨KK, hKK⟩ : ∃ KK, atN roundK k = KK := ⟨_, rfl⟩
                      obtain ⟨WK, hWK⟩ : ∃ WK, atN WL k = WK := ⟨_, rfl⟩
                      have gK : roundK[k]? = some KK := by rw [← hKK]; exact atN_some hltk
                      have gW : WL[k]? = some WK := by rw [← hWK]; exact HAT.out.1 k hltk
                      rw [hKK, hWK] at hnx
                      have HCV := show Hid (∀ u, Below wr.drew.heap.size wr.drew u → (u.cell? ⟨vg, vo, none⟩ = some (.int .u32 (A : Int)) ∧ u.cell? ⟨vg, vo + 1, none⟩ = some (.int .u32 (B : Int)) ∧ u.cell? ⟨vg, vo + 2, none⟩ = some (.int .u32 (C : Int)) ∧ u.cell? ⟨vg, vo + 3, none⟩ = some (.int .u32 (D : Int)) ∧ u.cell? ⟨vg, vo + 4, none⟩ = some (.int .u32 (E : Int)) ∧ u.cell? ⟨vg, vo + 5, none⟩ = some (.int .u32 (F : Int)) ∧ u.cell? ⟨vg, vo + 6, none⟩ = some (.int .u32 (G : Int)) ∧ u.cell? ⟨vg, vo + 7, none⟩ = some (.int .u32 (H : Int))) ∧ u.cell? ⟨w.heap.size, 1, none⟩ = some (.slice (some ⟨kg, ko, none⟩) 64 cv) ∧ u.cell? ⟨kg, ko + k, none⟩ = some (.int .u32 (KK : Int)) ∧ u.cell? ⟨wg, k, none⟩ = some (.int .u32 (WK : Int))) from fun u hbu => by
                        have hv := (hVN2.later ((Below.refl wr.heap.size wr).drew)).later hbu
                        have hbqu : Below wq.heap.size wq u := hbZ.drew.trans (hbu.mono hbZ.drew.size)
                        have hb5u : Below w5.heap.size w5 u := hbA2.trans (hbqu.mono hbA2.size)
                        refine ⟨⟨IsN.cellIn hv (i := 0) rfl, IsN.cellIn hv (i := 1) rfl, IsN.cellIn hv (i := 2) rfl, IsN.cellIn hv (i := 3) rfl, IsN.cellIn hv (i := 4) rfl, IsN.cellIn hv (i := 5) rfl, IsN.cellIn hv (i := 6) rfl, IsN.cellIn hv (i := 7) rfl⟩, (HKC.out u hb5u).1, IsN.cellIn (HKC.out u hb5u).2 gK, (own_setG (ownsRow_later HWO.out hbqu) gW).2.2.2.2.1⟩
                      have HNX := show Hid (rounds WL S0 (k + 1) = rnd KK WK ⟨A, B, C, D, E, F, G, H⟩) from hnx
                      clear hnx hVN2 hVN hst hKK hWK gK gW
                      go_wp2_with fail
                      have lr6 := rotr_lt 6 E lE
                      have lr11 := rotr_lt 11 E lE
                      have lr25 := rotr_lt 25 E lE
                      have ln2 : 4294967295 - E < 4294967296 := by omega
                      have hnot : bits .xor .u32 4294967295 (E : Int) = ((4294967295 - E : Nat) : Int) := not32 E lE
                      obtain ⟨T1, hT1⟩ : ∃ T1, ((((H + bgB E) % 4294967296 + chooN E F G) % 4294967296 + KK) % 4294967296 + WK) % 4294967296 = T1 := ⟨_, rfl⟩
                      refine semTR E F G H (rotr 6 E) (rotr 11 E) (rotr 25 E) (rotr 6 E ^^^ rotr 11 E) (rotr 6 E ^^^ rotr 11 E ^^^ rotr 25 E) ((H + bgB E) % 4294967296) (E &&& F) (4294967295 - E) ((4294967295 - E) &&& G) ((E &&& F) ^^^ ((4294967295 - E) &&& G)) (((H + bgB E) % 4294967296 + chooN E F G) % 4294967296) KK ((((H + bgB E) % 4294967296 + chooN E F G) % 4294967296 + KK) % 4294967296) WK T1 k vg vo c8 w.heap.size kg ko cv wg cw rfl rfl rfl rfl rfl hltk2 (fun u hb => ⟨(HCV.out u hb).1.2.2.2.2.2.2.2, (HCV.out u hb).1.2.2.2.2.1, (HCV.out u hb).1.2.2.2.2.2.1, (HCV.out u hb).1.2.2.2.2.2.2.1, (HCV.out u hb).2.1, (HCV.out u hb).2.2.1, (HCV.out u hb).2.2.2⟩) (fun u => vRot_any E 6 u lE (by omega)) (fun u => vRot_any E 11 u lE (by omega)) (fun u => vRot_any E 25 u lE (by omega)) (xor32 _ _ lr6 lr11) (xor32 _ _ (xor_lt32 lr6 lr11) lr25) (wrap32 _ _) (and32 _ _ lE lF) hnot (and32 _ _ ln2 lG) (xor32 _ _ (and_lt32 lF) (and_lt32 lG)) (wrap32 _ _) (wrap32 _ _) (by rw [← hT1]; exact wrap32 _ _) ?_
                      intro vs u hS hbu
                      unfold semTO
                      have e46 : vs 46 = .int .u32 (T1 : Int) := hS 46 18 rfl
                      simp only [putFrom, Act.put, List.setIfInBounds_toArray, List.set_cons_succ, List.set_cons_zero, Nat.reduceAdd]
                      rw [e46]
                      clear hS e46
                      generalize vs 0 = z0
                      generalize vs 1 = z1
                      generalize vs 2 = z2
                      generalize vs 3 = z3
                      generalize vs 4 = z4
                      generalize vs 5 = z5
                      generalize vs 6 = z6
                      generalize vs 7 = z7
                      generalize vs 8 = z8
                      generalize vs 9 = z9
                      generalize vs 10 = z10
                      generalize vs 11 = z11
                      generalize vs 12 = z12
                      generalize vs 13 = z13
                      generalize vs 14 = z14
                      generalize vs 15 = z15
                      generalize vs 16 = z16
                      generalize vs 17 = z17
                      generalize vs 18 = z18
                      generalize vs 19 = z19
                      generalize vs 20 = z20
                      generalize vs 21 = z21
                      generalize vs 22 = z22
                      generalize vs 23 = z23
                      generalize vs 24 = z24
                      generalize vs 25 = z25
                      generalize vs 26 = z26
                      generalize vs 27 = z27
                      generalize vs 28 = z28
                      generalize vs 29 = z29
                      generalize vs 30 = z30
                      generalize vs 31 = z31
                      generalize vs 32 = z32
                      generalize vs 33 = z33
                      generalize vs 34 = z34
                      generalize vs 35 = z35
                      generalize vs 36 = z36
                      generalize vs 37 = z37
                      generalize vs 38 = z38
                      generalize vs 39 = z39
                      generalize vs 40 = z40
                      generalize vs 41 = z41
                      generalize vs 42 = z42
                      generalize vs 43 = z43
                      generalize vs 44 = z44
                      generalize vs 45 = z45
                      have HT1 := show Hid (((((H + bgB E) % 4294967296 + chooN E F G) % 4294967296 + KK) % 4294967296 + WK) % 4294967296 = T1) from hT1
                      clear hT1 lr6 lr11 lr25 ln2 hnot
                      obtain ⟨u1, hu1⟩ : ∃ u1, u1 = u := ⟨_, rfl⟩
                      subst hu1
                      go_wp2_with fail
                      have lr2 := rotr_lt 2 A lA
                      have lr13 := rotr_lt 13 A lA
                      have lr22 := rotr_lt 22 A lA
                      obtain ⟨T2, hT2⟩ : ∃ T2, (bgA A + majN A B C) % 4294967296 = T2 := ⟨_, rfl⟩
                      have hbu1 : Below wr.drew.heap.size wr.drew u1.drew := hbu.drew
                      have lor : (A &&& B) ||| (A &&& C) < 4294967296 := Nat.or_lt_two_pow (n := 32) (and_lt32 lB) (and_lt32 lC)
                      refine semUR A B C (rotr 2 A) (rotr 13 A) (rotr 22 A) (rotr 2 A ^^^ rotr 13 A) (rotr 2 A ^^^ rotr 13 A ^^^ rotr 22 A) (A &&& B) (A &&& C) ((A &&& B) ||| (A &&& C)) (B &&& C) ((A &&& B) ||| (A &&& C) ||| (B &&& C)) T2 vg vo c8 rfl rfl (fun u hb => ⟨(HCV.out u (hbu1.trans (hb.mono hbu1.size))).1.1, (HCV.out u (hbu1.trans (hb.mono hbu1.size))).1.2.1, (HCV.out u (hbu1.trans (hb.mono hbu1.size))).1.2.2.1⟩) (fun u => vRot_any A 2 u lA (by omega)) (fun u => vRot_any A 13 u lA (by omega)) (fun u => vRot_any A 22 u lA (by omega)) (xor32 _ _ lr2 lr13) (xor32 _ _ (xor_lt32 lr2 lr13) lr22) (and32 _ _ lA lB) (and32 _ _ lA lC) (or32 _ _ (and_lt32 lB) (and_lt32 lC)) (and32 _ _ lB lC) (or32 _ _ lor (and_lt32 lC)) (by rw [← hT2, ← or_maj]; exact wrap32 _ _) ?_
                      intro vs u hS hbu2
                      unfold semUO
                      have e38 : vs 38 = .int .u32 (T2 : Int) := hS 38 19 rfl
                      simp only [putFrom, Act.put, List.setIfInBounds_toArray, List.set_cons_succ, List.set_cons_zero, Nat.reduceAdd]
                      rw [e38]
                      clear hS e38
                      generalize vs 0 = yy0
                      generalize vs 1 = yy1
                      generalize vs 2 = yy2
                      generalize vs 3 = yy3
                      generalize vs 4 = yy4
                      generalize vs 5 = yy5
                      generalize vs 6 = yy6
                      generalize vs 7 = yy7
                      generalize vs 8 = yy8
                      generalize vs 9 = yy9
                      generalize vs 10 = yy10
                      generalize vs 11 = yy11
                      generalize vs 12 = yy12
                      generalize vs 13 = yy13
                      generalize vs 14 = yy14
                      generalize vs 15 = yy15
                      generalize vs 16 = yy16
                      generalize vs 17 = yy17
                      generalize vs 18 = yy18
                      generalize vs 19 = yy19
                      generalize vs 20 = yy20
                      generalize vs 21 = yy21
                      generalize vs 22 = yy22
                      generalize vs 23 = yy23
                      generalize vs 24 = yy24
                      generalize vs 25 = yy25
                      generalize vs 26 = yy26
                      generalize vs 27 = yy27
                      generalize vs 28 = yy28
                      generalize vs 29 = yy29
                      generalize vs 30 = yy30
                      generalize vs 31 = yy31
                      generalize vs 32 = yy32
                      generalize vs 33 = yy33
                      generalize vs 34 = yy34
                      generalize vs 35 = yy35
                      generalize vs 36 = yy36
                      generalize vs 37 = yy37
                      have HT2 := show Hid ((bgA A + majN A B C) % 4294967296 = T2) from hT2
                      clear hT2 lr2 lr13 lr22 lor
                      obtain ⟨u2, hu2⟩ : ∃ u2, u2 = u := ⟨_, rfl⟩
                      subst hu2
                      go_wp2_with fail
                      have hbu3 : Below wr.drew.heap.size wr.drew u2.drew := (hbu1.trans (hbu2.mono hbu1.size)).drew
                      have hbq3 : Below wq.heap.size wq u2.drew := hbZ.drew.trans (hbu3.mono hbZ.drew.size)
                      refine semXR A B C D E F G T1 T2 ((T1 + T2) % 4294967296) ((D + T1) % 4294967296) vg vo c8 wq.heap.size rfl rfl rfl rfl (fun u hg => by
                        have hb := (HCV.out u (hbu3.trans ((grown_none hg).mono hbu3.size))).1
                        exact ⟨hb.1, hb.2.1, hb.2.2.1, hb.2.2.2.1, hb.2.2.2.2.1, hb.2.2.2.2.2.1, hb.2.2.2.2.2.2.1⟩) (wrap32 _ _) (wrap32 _ _) hbq3.size ?_
                      intro vs u hS hbu4 _
                      unfold semXO
                      have s27 := hS 27 16 rfl
                      simp only [putFrom, Act.put, List.setIfInBounds_toArray, List.set_cons_succ, List.set_cons_zero, Nat.reduceAdd]
                      clear hS
                      generalize vs 0 = xx0
                      generalize vs 1 = xx1
                      generalize vs 2 = xx2
                      generalize vs 3 = xx3
                      generalize vs 4 = xx4
                      generalize vs 5 = xx5
                      generalize vs 6 = xx6
                      generalize vs 7 = xx7
                      generalize vs 8 = xx8
                      generalize vs 9 = xx9
                      generalize vs 10 = xx10
                      generalize vs 11 = xx11
                      generalize vs 12 = xx12
                      generalize vs 13 = xx13
                      generalize vs 14 = xx14
                      generalize vs 15 = xx15
                      generalize vs 16 = xx16
                      generalize vs 17 = xx17
                      generalize vs 18 = xx18
                      generalize vs 19 = xx19
                      generalize vs 20 = xx20
                      generalize vs 21 = xx21
                      generalize vs 22 = xx22
                      generalize vs 23 = xx23
                      generalize vs 24 = xx24
                      generalize vs 25 = xx25
                      generalize vs 26 = xx26
                      generalize vs 27 = zN at *
                      obtain ⟨hN27, gN, rfl, hgN⟩ : IsN .u32 u zN [(T1 + T2) % 4294967296, A, B, C, (D + T1) % 4294967296, E, F, G] ∧ ∃ g, zN = .slice (some ⟨g, 0, none⟩) 8 8 ∧ wq.heap.size ≤ g := s27
                      have hbq4 : Below wq.heap.size wq u := hbq3.trans ((grown_none hbu4).mono hbq3.size)
                      have hL27 : (rounds WL S0 (k + 1)).l = [(T1 + T2) % 4294967296, A, B, C, (D + T1) % 4294967296, E, F, G] := by
                        rw [HNX.out, ← HT1.out, ← HT2.out]
                        unfold rnd S8.l
                        simp only
                        congr 1
                        · omega
                        · congr 4
                          omega
                      rw [← hL27] at hN27
                      have HN27 := show Hid (IsN .u32 u (.slice (some ⟨gN, 0, none⟩) 8 8) (rounds WL S0 (k + 1)).l) from hN27
                      clear hL27 HCV HNX HT1 HT2 hN27
                      go_wp2_with fail
                      go_roundw
                      case rel => exact ⟨k + 1, 8, gN, 0, by omega, by go_num, rfl, hgN, HN27.out, hbq4⟩
                      case measure => simp [intOf]; omega
                    · have hltk2 : ¬ (k : Int) < 64 := by omega
                      obtain rfl : k = 64 := by omega
                      obtain ⟨VR, hVR⟩ : ∃ VR, rounds WL S0 64 = VR := ⟨_, rfl⟩
                      have hVR2 := hVN.out
                      rw [hVR] at hVR2
                      have hSn := HAT.out.2.2
                      rw [hVR] at hSn
                      have HSN := show Hid (blocksS (padL s.data.toList) (n + 1) = addS S0 VR) from hSn
                      have HNE := show Hid (g6 < vg) from by have h1 := hvg.out; have h2 := hbQ.size; unfold Hid; omega
                      have HG5 := show Hid (w5.heap.size ≤ g6) from (World.ownsRow.lt HHO.out g6 rfl).1
                      have HO0 := show Hid (wr.ownsRow w5.heap.size 63 1 (.slice (some ⟨g6, 0, none⟩) 8 c6) (mixL S0.l VR.l 0).length (kc .u32 (mixL S0.l VR.l 0))) from ownsRow_later HHO.out hbZ
                      have HVI0 := show Hid (IsN .u32 wr (.slice (some ⟨vg, vo, none⟩) 8 c8) VR.l) from hVR2
                      have hbK0 : Below w5.heap.size w5 wr := hbA2.trans (hbZ.mono hbA2.size)
                      clear hVR2 hVN hSn hVR HAT HWO HHO hbZ hvg HV7
                      go_wp2_with fail
                      go_loopw [20] (fun t wz => ∃ k : Nat, k ≤ 8 ∧ t = .int .i64 (k : Int) ∧ Hid (wz.ownsRow w5.heap.size 63 1 (.slice (some ⟨g6, 0, none⟩) 8 c6) (mixL S0.l VR.l k).length (kc .u32 (mixL S0.l VR.l k))) ∧ Hid (IsN .u32 wz (.slice (some ⟨vg, vo, none⟩) 8 c8) VR.l) ∧ Below w5.heap.size w5 wz) (fun t _ => 8 - (intOf t).toNat)
                      case atStart => exact ⟨0, by omega, rfl, HO0.out, HVI0.out, hbK0⟩
                      case round =>
                        obtain ⟨k, hk, rfl, hO, hVI, hbK⟩ := hrel
                        by_cases hk8 : k < 8
                        · have hk82 : (k : Int) < 8 := by omega
                          have hLk : (mixL S0.l VR.l k)[k]? = some (atN S0.l k) := by rw [mixL_at _ _ k k (Nat.le_refl _)]; exact atN_some hk8
                          have gV : VR.l[k]? = some (atN VR.l k) := atN_some hk8
                          have HMX := show Hid (mixL S0.l VR.l (k + 1) = (mixL S0.l VR.l k).set k ((atN S0.l k + atN VR.l k) % 4294967296)) from rfl
                          generalize atN S0.l k = Hk at *
                          generalize atN VR.l k = Vk at *
                          go_wp2_with fail
                          refine semYR Hk Vk ((Hk + Vk) % 4294967296) k g6 c6 vg vo c8 w5.heap.size (mixL S0.l VR.l k) rfl rfl rfl rfl hk82 (ownsRow_later hO.out ((Below.refl wr.heap.size wr).drew)) hLk (fun u hg => hg.cell (IsN.cellIn ((hVI.out).later ((Below.refl wr.heap.size wr).drew)) gV) (by intro h; have h1 : vg = g6 := Option.some.inj h; have h2 := HNE.out; omega)) (wrap32 _ _) ?_
                          intro vs u hS hbu hZ
                          unfold semYO
                          simp only [putFrom, Act.put, List.setIfInBounds_toArray, List.set_cons_succ, List.set_cons_zero, Nat.reduceAdd]
                          clear hS
                          generalize vs 0 = qq0
                          generalize vs 1 = qq1
                          generalize vs 2 = qq2
                          generalize vs 3 = qq3
                          generalize vs 4 = qq4
                          generalize vs 5 = qq5
                          generalize vs 6 = qq6
                          generalize vs 7 = qq7
                          generalize vs 8 = qq8
                          generalize vs 9 = qq9
                          generalize vs 10 = qq10
                          generalize vs 11 = qq11
                          obtain ⟨vv, hO2, hx3⟩ : ∃ v, u.ownsRow w5.heap.size 63 1 (.slice (some ⟨g6, 0, none⟩) 8 c6) ((mixL S0.l VR.l k).set k ((Hk + Vk) % 4294967296)).length (kc .u32 ((mixL S0.l VR.l k).set k ((Hk + Vk) % 4294967296))) ∧ v = v := hZ
                          have HO2 := show Hid (u.ownsRow w5.heap.size 63 1 (.slice (some ⟨g6, 0, none⟩) 8 c6) (mixL S0.l VR.l (k + 1)).length (kc .u32 (mixL S0.l VR.l (k + 1)))) from by unfold Hid; rw [HMX.out]; exact hO2
                          have HVI2 := show Hid (IsN .u32 u (.slice (some ⟨vg, vo, none⟩) 8 c8) VR.l) from isN_grown (hVI.out.later ((Below.refl wr.heap.size wr).drew)) hbu (by intro h; have h1 : vg = g6 := Option.some.inj h; have h2 := HNE.out; omega)
                          have hbK2 : Below w5.heap.size w5 u := hbK.drew.grown hbu hbK.drew.size (fun k h => by have := Option.some.inj h; have := HG5.out; omega)
                          clear hO2 hx3 hO hVI hLk gV HMX
                          go_wp2_with fail
                          go_roundw
                          case rel => exact ⟨k + 1, by omega, by go_num, HO2.out, HVI2.out, hbK2⟩
                          case measure => simp [intOf]; omega
                        · have hk82 : ¬ (k : Int) < 8 := by omega
                          obtain rfl : k = 8 := by omega
                          obtain ⟨at2, hat2⟩ : ∃ at2, at_ + 64 = at2 := ⟨_, rfl⟩
                          have e64 : (at_ : Int) + 64 = (at2 : Int) := by omega
                          have hat3 : at2 ≤ mz := by omega
                          have HNX := show Hid (wr.ownsRow w5.heap.size 63 1 (.slice (some ⟨g6, 0, none⟩) 8 c6) (blocksS (padL s.data.toList) (n + 1)).l.length (kc .u32 (blocksS (padL s.data.toList) (n + 1)).l)) from by unfold Hid; rw [HSN.out, ← mixL_8]; exact hO.out
                          have HAT2 := show Hid (at2 = 64 * (n + 1)) from by unfold Hid; have := hat.out; omega
                          have hat4 : at_ < at2 := by omega
                          clear hO hVI hat2
                          go_wp2_with fail
                          go_roundw
                          case rel => exact ⟨n + 1, at2, HAT2.out, hat3, by go_num, HNX.out, hbK⟩
                          case measure => simp [intOf]; omega
            · have hltA2 : ¬ (at_ : Int) < (mz : Int) := by omega
              obtain rfl : at_ = mz := by omega
              obtain ⟨S, hS⟩ : ∃ S, blocksS (padL s.data.toList) n = S := ⟨_, rfl⟩
              have hokS : S.ok := by rw [← hS]; exact blocksS_ok _ _
              have HSHA := show Hid (shaL s.data.toList = stateB S) from by
                unfold Hid shaL
                have h1 : (padL s.data.toList).length = at_ := by rw [← HMZ.out.2.1, len_eq]; exact HMZ.out.2.2
                have h2 := hat.out
                rw [h1, show at_ / 64 = n by omega, hS]
              have hHo2 := hHo.out
              rw [hS] at hHo2
              have HH := show Hid (wr.ownsRow w5.heap.size 63 1 (.slice (some ⟨g6, 0, none⟩) 8 c6) S.l.length (kc .u32 S.l)) from hHo2
              have hg6 : g6 < wr.heap.size := (World.ownsRow.lt hHo2 g6 rfl).2
              have HBW2 := show Hid (Below w.heap.size w wr) from HBW.out.trans (hbA.mono HBW.out.size)
              clear hHo2 hHo hS
              obtain ⟨wo, hwo⟩ : ∃ wo, wo = wr := ⟨_, rfl⟩
              subst hwo
              go_wp2_with fail
              go_loopw [21, 22] (fun u t wz => ∃ (k m co : Nat) (yo : Option Addr), k ≤ 8 ∧ t = .int .i64 (k : Int) ∧ u = .slice yo m co ∧ Hid (m = 4 * k) ∧ m ≤ 32 ∧ Hid (wz.ownsRow wo.heap.size 5 1 (.slice yo m co) (outB S k).length (Lib.byteCells (outB S k))) ∧ Below wo.heap.size wo wz) (fun _ t _ => 8 - (intOf t).toNat)
              case atStart => exact ⟨0, 0, 0, none, by omega, rfl, rfl, rfl, by omega, ⟨rfl, .inl ⟨rfl, rfl⟩⟩, Below.refl _ _⟩
              case round =>
                obtain ⟨k, m, co, yo, hk, rfl, rfl, hm, hm32, hO, hbK⟩ := hrel
                by_cases hk8 : k < 8
                · have hk82 : (k : Int) < 8 := by omega
                  have hrow : ∀ j, (Value.slice yo m co).ownBlock = some j → wo.heap.size ≤ j := own_ge hO.out
                  have HRW := show Hid (∀ j, (Value.slice yo m co).ownBlock = some j → j < wr.drew.heap.size) from fun j hj => (World.ownsRow.lt hO.out j hj).2
                  have gX : S.l[k]? = some (atN S.l k) := atN_some hk8
                  have lX := atN_lt hokS k
                  have HOB := show Hid (outB S (k + 1) = outB S k ++ wordB (atN S.l k)) from outB_succ S k hk8
                  have HCX := show Hid (∀ u, wr.drew.grownBy u (Value.slice yo m co).ownBlock → u.cell? ⟨g6, k, none⟩ = some (.int .u32 (atN S.l k : Int))) from fun u hg => by
                    refine hg.cell (own_setG (ownsRow_later (ownsRow_later HH.out hbK) ((Below.refl wr.heap.size wr).drew)) gX).2.2.2.2.1 (fun h => ?_)
                    have := hrow g6 h.symm
                    omega
                  generalize atN S.l k = X at *
                  clear gX
                  go_wp2_with fail
                  refine semZR X (X / 16777216) (X / 65536) (X / 256) (X / 16777216 % 256) (X / 65536 % 256) (X / 256 % 256) (X % 256) k g6 c6 m co wo.heap.size yo (outB S k ++ wordB X) rfl rfl rfl rfl (outB S k) hk82 (by rw [IntKind.wrap_u32]; omega) (by rw [IntKind.wrap_u32]; omega) (by rw [IntKind.wrap_u32]; omega) (ownsRow_later hO.out ((Below.refl wr.heap.size wr).drew)) HRW hbK.drew.size (by rw [outB_length S k hk]; omega) HCX (by rw [Int.tdiv_eq_ediv_of_nonneg (by omega)]; omega) (by rw [Int.tdiv_eq_ediv_of_nonneg (by omega)]; omega) (by rw [Int.tdiv_eq_ediv_of_nonneg (by omega)]; omega) (by rw [IntKind.wrap_u8]; omega) (by rw [IntKind.wrap_u8]; omega) (by rw [IntKind.wrap_u8]; omega) (by rw [IntKind.wrap_u8]; omega) ⟨outB_cells _ X, by rw [List.length_append]; rfl⟩ ?_
                  intro vs u hS hbu _
                  unfold semZO
                  have s26 := hS 26 21 rfl
                  simp only [putFrom, Act.put, List.setIfInBounds_toArray, List.set_cons_succ, List.set_cons_zero, Nat.reduceAdd]
                  clear hS
                  generalize vs 0 = qq0
                  generalize vs 1 = qq1
                  generalize vs 2 = qq2
                  generalize vs 3 = qq3
                  generalize vs 4 = qq4
                  generalize vs 5 = qq5
                  generalize vs 6 = qq6
                  generalize vs 7 = qq7
                  generalize vs 8 = qq8
                  generalize vs 9 = qq9
                  generalize vs 10 = qq10
                  generalize vs 11 = qq11
                  generalize vs 12 = qq12
                  generalize vs 13 = qq13
                  generalize vs 14 = qq14
                  generalize vs 15 = qq15
                  generalize vs 16 = qq16
                  generalize vs 17 = qq17
                  generalize vs 18 = qq18
                  generalize vs 19 = qq19
                  generalize vs 20 = qq20
                  generalize vs 21 = qq21
                  generalize vs 22 = qq22
                  generalize vs 23 = qq23
                  generalize vs 24 = qq24
                  generalize vs 25 = qq25
                  generalize vs 26 = zN at *
                  have sN : u.ownsRow wo.heap.size 5 1 zN (outB S (k + 1)).length (Lib.byteCells (outB S (k + 1))) := by rw [HOB.out]; exact s26
                  clear s26
                  have hl1 : (outB S (k + 1)).length = 4 * (k + 1) := outB_length S (k + 1) (by omega)
                  have hbK2 : Below wo.heap.size wo u := hbK.drew.grown hbu hbK.drew.size hrow
                  have HSN := show Hid (u.ownsRow wo.heap.size 5 1 zN (outB S (k + 1)).length (Lib.byteCells (outB S (k + 1)))) from sN
                  obtain ⟨yN, cN, rfl⟩ := own_shape sN
                  rw [hl1] at HSN ⊢
                  clear sN HCX HRW hO hrow HOB
                  obtain ⟨m1, hm1⟩ : ∃ m1, 4 * (k + 1) = m1 := ⟨_, rfl⟩
                  rw [hm1] at HSN hl1 ⊢
                  go_wp2_with fail
                  go_roundw
                  case rel => exact ⟨k + 1, m1, cN, yN, by omega, by go_num, rfl, hm1.symm, by omega, by unfold Hid; rw [hl1]; exact HSN.out, hbK2⟩
                  case measure => simp [intOf]; omega
                · have hk82 : ¬ (k : Int) < 8 := by omega
                  obtain rfl : k = 8 := by omega
                  have hm2 : m = 32 := hm.out
                  subst hm2
                  have h8 : outB S 8 = shaL s.data.toList := by rw [HSHA.out]; rfl
                  have hO2 := hO.out
                  rw [h8, shaL_length] at hO2
                  have hb2 := HBW2.out
                  have hO3 := own_monoN hO2 hb2.size
                  have hbF : Below w.heap.size w wr := hb2.trans (hbK.mono hb2.size)
                  clear hO hO2 hm h8
                  go_wp2_with fail
                  go_ret
                  exact ⟨⟨_, _, rfl, hO3⟩, hbF⟩
end Go.Proofs.YtpcmpeeflnlkpaaGreatDoor
