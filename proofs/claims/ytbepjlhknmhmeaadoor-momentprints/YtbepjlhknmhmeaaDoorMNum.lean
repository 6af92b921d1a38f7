/-
  Package moment: digits, value, number.
-/
import Derived.Test.YtbepjlhknmhmeaaDoorMRd
import Derived.Test.YtbepjlhknmhmeaaDoorShelf
import Derived.Shelf.Strings.SlTrimAscii
namespace Go.Proofs.YtbepjlhknmhmeaaDoor
open Go.RowKit Ch
set_option maxRecDepth 100000

def tenB : ByteArray := ⟨#[48, 49, 50, 51, 52, 53, 54, 55, 56, 57]⟩
theorem tenB_ascii : ∀ (j : Nat) b, tenB.data.toList[j]? = some b → b.toNat < 128 := fun j b h => by
  have h2 := List.mem_of_getElem? h
  have h3 : ∀ x ∈ tenB.data.toList, x.toNat < 128 := by decide
  exact h3 b h2
theorem ten_fin : ∀ n : Fin 256, (tenB.data.toList.contains (UInt8.ofNat n.val)) = isDig (UInt8.ofNat n.val) := by decide +kernel
theorem ofNat_toNat8 (c : UInt8) : UInt8.ofNat c.toNat = c := UInt8.toNat_inj.1 (by rw [UInt8.toNat_ofNat']; have := c.toNat_lt; omega)
theorem ten_dig (c : UInt8) : tenB.data.toList.contains c = isDig c := by
  have := ten_fin ⟨c.toNat, c.toNat_lt⟩
  simpa only [ofNat_toNat8] using this
theorem trim_ten (l : List UInt8) : Lib.trimLeftS l tenB.data.toList = l.dropWhile isDig := by
  unfold Lib.trimLeftS
  congr 1
  funext c
  exact ten_dig c
theorem take_len (l : List UInt8) : l.take (l.length - (l.dropWhile isDig).length) = l.takeWhile isDig := by
  have h : l.takeWhile isDig ++ l.dropWhile isDig = l := List.takeWhile_append_dropWhile
  have h2 := congrArg List.length h
  rw [List.length_append] at h2
  rw [show l.length - (l.dropWhile isDig).length = (l.takeWhile isDig).length by omega]
  conv => lhs; arg 2; rw [← h]
  exact List.take_left
/-- The digits that are next, and what stands behind. -/
theorem mDigits_any (q : Nat) (R : ByteArray) (w : World) (h : Rd q R w) (hs : R.size ≤ 1000) :
    Calls Tryd.prog 70 #[.pointer (some ⟨q, 0, none⟩)] w fun e w' => (∃ D : ByteArray, e = .returned (.string D) ∧ D.data.toList = R.data.toList.takeWhile isDig) ∧ (∃ S : ByteArray, S.data.toList = R.data.toList.dropWhile isDig ∧ Rd q S w') ∧ KeptX [q] w w' := by
  obtain ⟨S, hS⟩ : ∃ S : ByteArray, (⟨(R.data.toList.dropWhile isDig).toArray⟩ : ByteArray) = S := ⟨_, rfl⟩
  have hSd : S.data.toList = R.data.toList.dropWhile isDig := by rw [← hS]
  have hSz : S.size ≤ R.size := by
    rw [← len_eq, ← len_eq, hSd]
    exact (List.dropWhile_suffix _).length_le
  have hT : ∀ u, Calls Tryd.prog 84 #[.string R, .string tenB] u fun e w' => e = .returned (.string S) ∧ Below u.heap.size u w' := fun u => by
    have h1 : Calls Tryd.prog 84 #[.string R, .string tenB] u fun e w' => e = .returned (.string ⟨(Lib.trimLeftS R.data.toList tenB.data.toList).toArray⟩) ∧ Below u.heap.size u w' := Any.strings_TrimLeft_laid Tryd.lays161 (by kernel_rfl) R tenB u (by decide) tenB_ascii
    rw [trim_ten, hS] at h1
    exact h1
  have hE : (R.extract 0 (R.size - S.size)).data.toList = R.data.toList.takeWhile isDig := by
    rw [Lib.extract_data]
    simp only [Nat.sub_zero, List.drop_zero]
    rw [← len_eq, ← len_eq, hSd]
    exact take_len _
  have g0 := block_cell (v := .string R) 0 h rfl
  have HR := show Hid (Rd q R w ∧ S.data.toList = R.data.toList.dropWhile isDig ∧ (R.extract 0 (R.size - S.size)).data.toList = R.data.toList.takeWhile isDig) from ⟨h, hSd, hE⟩
  have hT := hT w
  unfold tenB at hT
  have i1 : (S.size : Int) ≤ (R.size : Int) := by omega
  clear hS hSd hE h
  go_enter Tryd.func70, Tryd.ntmps70
  go_wp2_with fail
  refine hT.mono ?_
  rintro e w1 ⟨rfl, b1⟩
  have hB := HR.out.1.later b1
  have r0 := block_free 0 hB
  have g1 := block_cell (v := .string R) 0 hB rfl
  have g2 := block_cell (v := .string S) 0 (rd_set (S := S) hB) rfl
  have HK := show Hid (Rd q S (w1.setCell ⟨q, 0, none⟩ (.string S)) ∧ KeptX [q] w (w1.setCell ⟨q, 0, none⟩ (.string S))) from ⟨rd_set hB, (KeptX.of b1).trans (keptX_set w1 (by simp))⟩
  clear hT hB b1
  go_wp2_with fail
  go_ret
  exact ⟨⟨_, rfl, HR.out.2.2⟩, ⟨S, HR.out.2.1, HK.out.1⟩, HK.out.2⟩
/-- The number of a few digits. -/
theorem valL_snoc (l : List UInt8) (c : UInt8) : valL (l ++ [c]) = 10 * valL l + (c.toNat - 48) := by
  unfold valL
  rw [List.foldl_append]
  rfl
theorem valF_lt : ∀ (l : List UInt8) (n : Nat), (∀ c ∈ l, isDig c = true) → l.foldl (fun n c => 10 * n + (c.toNat - 48)) n < (n + 1) * 10 ^ l.length
  | [], n, _ => by simp
  | c :: l, n, h => by
    have h1 := valF_lt l (10 * n + (c.toNat - 48)) (fun x hx => h x (List.mem_cons_of_mem _ hx))
    have h2 := h c (List.mem_cons_self ..)
    unfold isDig at h2
    simp only [Bool.and_eq_true, decide_eq_true_eq] at h2
    rw [List.foldl_cons, List.length_cons, Nat.pow_succ, Nat.mul_comm (10 ^ l.length), ← Nat.mul_assoc]
    exact Nat.lt_of_lt_of_le h1 (Nat.mul_le_mul_right _ (by omega))
theorem valL_lt (l : List UInt8) (h : ∀ c ∈ l, isDig c = true) : valL l < 10 ^ l.length := by
  have := valF_lt l 0 h
  unfold valL
  omega
theorem take_dig : ∀ (l : List UInt8), ∀ c ∈ l.takeWhile isDig, isDig c = true
  | [], c, h => by simp at h
  | x :: l, c, h => by
    rw [List.takeWhile_cons] at h
    split at h
    · rename_i hx
      rcases List.mem_cons.1 h with rfl | h
      · exact hx
      · exact take_dig l c h
    · cases h
theorem valL_take (l : List UInt8) (i : Nat) (c : UInt8) (t : List UInt8) (h : l.drop i = c :: t) : valL (l.take (i + 1)) = 10 * valL (l.take i) + (c.toNat - 48) := by
  have h1 : l[i]? = some c := by
    have := congrArg (fun x => x[0]?) h
    simpa using this
  rw [List.take_add_one, h1]
  exact valL_snoc _ _
theorem valL_small (l : List UInt8) (h : ∀ c ∈ l, isDig c = true) (hl : l.length ≤ 9) (i : Nat) : valL (l.take i) < 1000000000 := by
  have h1 := valL_lt (l.take i) (fun c hc => h c (List.mem_of_mem_take hc))
  have h2 : 10 ^ (l.take i).length ≤ 10 ^ 9 := Nat.pow_le_pow_right (by decide) (by rw [List.length_take]; omega)
  omega
set_option maxHeartbeats 4000000 in
theorem mVal_any (D : ByteArray) (w : World) (hd : ∀ c ∈ D.data.toList, isDig c = true) (hs : D.size ≤ 9) :
    Calls Tryd.prog 61 #[.string D] w fun e w' => e = .returned (.int .i64 (valL D.data.toList : Int)) ∧ w' = w := by
  have HD := show Hid (∀ c ∈ D.data.toList, isDig c = true) from hd
  obtain ⟨n, hn⟩ : ∃ n, D.size = n := ⟨_, rfl⟩
  have HN := show Hid (D.size = n ∧ n ≤ 9) from ⟨hn, by omega⟩
  clear hd
  go_enter Tryd.func61, Tryd.ntmps61
  go_wp2_with fail
  go_loopw [3, 7] (fun a t wr => ∃ i v : Nat, i ≤ D.size ∧ a = .int .i64 (v : Int) ∧ t = .int .i64 (i : Int) ∧ Hid (v = valL (D.data.toList.take i) ∧ wr = w)) (fun _ t _ => D.size - (intOf t).toNat)
  case atStart => exact ⟨0, 0, Nat.zero_le _, rfl, rfl, rfl, rfl⟩
  case round =>
    obtain ⟨i, v, hi, rfl, rfl, hv⟩ := hrel
    by_cases hlt : i < D.size
    · obtain ⟨c, hc, hdr, hcc⟩ := byte_at8 D i hlt
      have hcd : isDig c = true := HD.out c (by
        have h9 : c ∈ D.data.toList.drop i := by rw [hdr]; exact List.mem_cons_self ..
        exact List.mem_of_mem_drop h9)
      unfold isDig at hcd
      simp only [Bool.and_eq_true, decide_eq_true_eq] at hcd
      have hsm := valL_small _ HD.out (by rw [len_eq]; exact hs) i
      rw [← hv.out.1] at hsm
      have hvn := valL_take D.data.toList i c _ hdr
      rw [← hv.out.1] at hvn
      obtain ⟨u, hu⟩ : ∃ u, 10 * v + (c.toNat - 48) = u := ⟨_, rfl⟩
      rw [hu] at hvn
      have hltI : (i : Int) < (D.size : Int) := by omega
      have w1 : IntKind.i64.wrap (10 * (v : Int)) = 10 * (v : Int) := by rw [IntKind.wrap_i64]; omega
      have w2 : IntKind.u8.wrap ((c.toNat : Int) - 48) = ((c.toNat - 48 : Nat) : Int) := by rw [IntKind.wrap_u8]; omega
      have w3 : IntKind.i64.wrap ((c.toNat - 48 : Nat) : Int) = ((c.toNat - 48 : Nat) : Int) := by rw [IntKind.wrap_i64]; omega
      have w4 : IntKind.i64.wrap (10 * (v : Int) + ((c.toNat - 48 : Nat) : Int)) = (u : Int) := by rw [IntKind.wrap_i64]; omega
      have HV := show Hid (u = valL (D.data.toList.take (i + 1)) ∧ wr = w) from ⟨hvn.symm, hv.out.2⟩
      have HS := show Hid (D.size ≤ 9) from hs
      clear hv hvn hsm hcd hdr hu hc
      go_wp2_with fail
      go_roundw
      case rel => exact ⟨i + 1, u, by omega, by first | rfl | go_num, by first | rfl | go_num, HV.out⟩
      case measure => simp [intOf]; omega
    · have hltI : ¬ (i : Int) < (D.size : Int) := by omega
      obtain ⟨hv1, hv2⟩ := hv.out
      have ht : D.data.toList.take i = D.data.toList := List.take_of_length_le (by rw [len_eq]; omega)
      rw [ht] at hv1
      have HV := show Hid (v = valL D.data.toList ∧ wr = w) from ⟨hv1, hv2⟩
      clear hv ht hv1 hv2
      go_wp2_with fail
      go_ret
      exact ⟨by rw [HV.out.1] <;> rfl, HV.out.2⟩
end Go.Proofs.YtbepjlhknmhmeaaDoor
