/-
  Package nat: Exp.
  Package nat: what is too long; Exp by 0.
-/
import Derived.Test.YtpcmpeeflnlkpaaDoorNSubEtc
namespace Go.Proofs.YtpcmpeeflnlkpaaDoor
open Go.RowKit Ch
set_option maxRecDepth 100000

theorem pow_sq (a m e : Nat) : (a ^ e % m * (a ^ e % m)) % m = a ^ (2 * e) % m := by
  rw [← Nat.mul_mod, ← Nat.pow_add]
  congr 2
  omega
theorem pow_more (a m e : Nat) : (a ^ e % m * (a % m)) % m = a ^ (e + 1) % m := by
  rw [← Nat.mul_mod, Nat.pow_succ]
theorem and8 (a : Nat) (ha : a < 256) : bits .and .u8 (a : Int) 1 = ((a % 2 : Nat) : Int) := by
  have := (bits_nat .u8 8 (by decide) wraps_u8 a 1 ha (by decide)).1
  rw [Nat.and_one_is_mod] at this
  exact this
theorem bit_of {x k : Nat} (hk : k < 8) : x / 2 ^ (8 - (k + 1)) = 2 * (x / 2 ^ (8 - k)) + x / 2 ^ (8 - (k + 1)) % 2 := by
  have e : 8 - k = 8 - (k + 1) + 1 := by omega
  rw [e, Nat.pow_succ, ← Nat.div_div_eq_div_mul]
  omega
set_option maxHeartbeats 4000000 in
theorem nExp_any (xa xe xm : Option Addr) (ca ce cm : Nat) (a e m : ByteArray) (w : World) (hSa : IsBytes w (.slice xa a.size ca) a) (hSe : IsBytes w (.slice xe e.size ce) e) (hSm : IsBytes w (.slice xm m.size cm) m) (ha : a.size ≤ 1024) (he : e.size ≤ 1024) (hm : m.size ≤ 1024) (h0 : numB m.data.toList ≠ 0) :
    Calls Tryd.prog 37 #[.slice xa a.size ca, .slice xe e.size ce, .slice xm m.size cm] w fun en w' => NumOk w w' (numB a.data.toList ^ numB e.data.toList % numB m.data.toList) en := by
  have hSl := IsSl.three hSa hSe hSm
  have hb0 : Below w.heap.size w (w.alloc (.cells #[.slice xa a.size ca, .slice xe e.size ce, .slice xm m.size cm] 22)) := (Below.refl _ w).alloc (Nat.le_refl _) _
  have hL := nAnyLong_any _ _ _ hSl (by simp)
  have hlo : longAny [a, e, m] = false := by simp [longAny]; omega
  rw [hlo] at hL
  generalize hW : w.alloc (.cells #[.slice xa a.size ca, .slice xe e.size ce, .slice xm m.size cm] 22) = W0 at *
  have HS := show Hid (IsBytes W0 (.slice xa a.size ca) a ∧ IsBytes W0 (.slice xe e.size ce) e ∧ IsBytes W0 (.slice xm m.size cm) m ∧ Below w.heap.size w W0) from ⟨hSa.later hb0, hSe.later hb0, hSm.later hb0, hb0⟩
  clear hSa hSe hSm hb0 hSl hlo
  obtain ⟨M, hM⟩ : ∃ x, numB m.data.toList = x := ⟨_, rfl⟩
  obtain ⟨A, hA⟩ : ∃ x, numB a.data.toList = x := ⟨_, rfl⟩
  have HN := show Hid (numB m.data.toList = M ∧ numB a.data.toList = A) from ⟨hM, hA⟩
  rw [hM] at h0 ⊢
  rw [hA]
  clear hM hA
  go_enter Tryd.func37, Tryd.ntmps37
  go_wp2_with fail
  refine hL.mono ?_
  rintro en w1 ⟨rfl, rfl⟩
  clear hL hW
  go_wp2_with fail
  refine (wFrom xm cm m w1 HS.out.2.2.1 hm).mono ?_
  rintro en w2 ⟨⟨vb, rfl, hvb⟩, hb2⟩
  rw [HN.out.1] at hvb
  obtain ⟨yb, lb, cb, rfl, hl0, _⟩ := id hvb.shape
  have hl1 : ((lb : Int) == 0) = false := by
    have : lb ≠ 0 := fun h => h0 (hl0.1 h)
    simp
    omega
  clear hl0
  have hNb := heap_push_at w2 (.cells #[.slice none 0 0] 61)
  have hfr := block_free 0 hNb
  have hcl := block_cell 0 hNb rfl
  have hNs := setCell_block (i := 0) (u := .slice yb lb cb) hNb
  obtain ⟨w3, hw3⟩ : ∃ x, (w2.alloc (.cells #[.slice none 0 0] 61)).setCell ⟨w2.heap.size, 0, none⟩ (.slice yb lb cb) = x := ⟨_, rfl⟩
  rw [hw3] at hNs
  have hg3 := block_cell 0 hNs rfl
  have hmf : ∀ (fn : Fn) (first cap : Array Value) (w : World), (Instr.makeFunc fn first cap).run Tryd.prog w = .ok (.func fn first cap) w := fun _ _ _ _ => rfl
  have hb23 : Below w2.heap.size w2 w3 := by
    rw [← hw3]
    exact ((Below.refl _ w2).alloc (Nat.le_refl _) _).grown (grown_cell _ ⟨w2.heap.size, 0, none⟩ _) (by simp) (fun b hb => by obtain rfl : w2.heap.size = b := Option.some.inj hb; exact Nat.le_refl _)
  have hpl : w2.heap.size < w3.heap.size := block_lt hNs
  have HK := show Hid (∀ u, Below w3.heap.size w3 u → u.cell? ⟨w2.heap.size, 0, none⟩ = some (.slice yb lb cb) ∧ IsW 128 u (.slice yb lb cb) M) from fun u hu => by
    exact ⟨(hu.cell (p := ⟨w2.heap.size, 0, none⟩) hpl).trans hg3, (hvb.later hb23).later hu⟩
  have HB3 := show Hid (Below w.heap.size w w3 ∧ Below w1.heap.size w1 w3) from ⟨HS.out.2.2.2.trans ((hb2.trans (hb23.mono hb2.size)).mono HS.out.2.2.2.size), hb2.trans (hb23.mono hb2.size)⟩
  go_wp2_with fail
  refine (wFrom xa ca a w3 (HS.out.1.later HB3.out.2) ha).mono ?_
  rintro en w4 ⟨⟨va, rfl, hva⟩, hb4⟩
  rw [HN.out.2] at hva
  obtain ⟨pb, hpb⟩ : ∃ x, w2.heap.size = x := ⟨_, rfl⟩
  rw [hpb] at HK ⊢
  clear hvb hb2 hNb hfr hcl hNs hw3 hg3 hb23 hpl hpb
  have hc4 := HK.out w4 hb4
  go_wp2_with fail
  refine (nExpR_any 128 128 pb va _ A M w4 hva hc4.1 hc4.2 (by omega) h0).mono ?_
  rintro en w5 ⟨⟨vbase, rfl, hbase⟩, hb5⟩
  have hb35 : Below w3.heap.size w3 w5 := hb4.trans (hb5.mono hb4.size)
  have hb6a : Below w5.heap.size w5 (w5.alloc (.cells #[.int .u64 1] 69)) := (Below.refl _ w5).alloc (Nat.le_refl _) _
  have hone : IsW 1 (w5.alloc (.cells #[.int .u64 1] 69)) (.slice (some ⟨w5.heap.size, 0, none⟩) 1 1) 1 := by
    refine ⟨_, 1, [1], rfl, ⟨_, 1, rfl, by simp, by unfold maxLen; omega, .inr ⟨_, rfl, .inr ⟨w5.heap.size, 0, rfl, by simp, fun i q hq => ?_⟩⟩⟩, by intro z hz; simp at hz; omega, rfl, rfl, by simp⟩
    rcases i with _ | i
    · simp only [List.getElem?_cons_zero, Option.some.injEq] at hq
      subst hq
      exact block_cell 0 (heap_push_at w5 _) rfl
    · cases hq
  have hc6 := HK.out _ (hb35.trans (hb6a.mono hb35.size))
  go_wp2_with fail
  refine (nExpR_any 1 128 pb _ _ 1 M _ hone hc6.1 hc6.2 (by omega) h0).mono ?_
  rintro en w6 ⟨⟨vpow, rfl, hpow⟩, hb6⟩
  have hb56 : Below w5.heap.size w5 w6 := hb6a.trans (hb6.mono hb6a.size)
  have hb36 : Below w3.heap.size w3 w6 := hb35.trans (hb56.mono hb35.size)
  obtain ⟨l, hl⟩ : ∃ l, bareL e.data.toList = l := ⟨_, rfl⟩
  have hBr := nBare_any xe ce e w6 (HS.out.2.1.later (HB3.out.2.trans (hb36.mono HB3.out.2.size))) (by omega)
  rw [hl] at hBr
  have HL := show Hid (numB l = numB e.data.toList ∧ l.length ≤ 1024) from by
    rw [← hl]
    refine ⟨numB_bare _, ?_⟩
    have := (List.dropWhile_sublist (fun (x : UInt8) => x == 0) (l := e.data.toList)).length_le
    rw [len_eq] at this
    unfold bareL
    omega
  have HBASE := show Hid (IsW 128 w6 vbase (A % M)) from hbase.later hb56
  have HPOW := show Hid (IsW 128 w6 vpow (1 % M) ∧ Below w3.heap.size w3 w6) from ⟨hpow, hb36⟩
  clear hl hbase hpow hb56 hb36 hb6 hb6a hb35 hb5 hb4 hc4 hc6 hone hva
  go_wp2_with fail
  refine hBr.mono ?_
  rintro en w7 ⟨⟨y, me, c, rfl, hml, hI⟩, rfl⟩
  clear hBr
  have HI := show Hid (IsBytes w7 (.slice y me c) ⟨l.toArray⟩ ∧ l.length = me) from ⟨hI, hml.symm⟩
  have hmel : me ≤ 1024 := by rw [hml]; exact HL.out.2
  clear hI hml
  go_wp2_with fail
  go_loopw [36, 11] (fun p q wr => ∃ i : Nat, i ≤ me ∧ p = .int .i64 (i : Int) ∧ Hid (IsW 128 wr q (A ^ numB (l.take i) % M)) ∧ Hid (Below w7.heap.size w7 wr)) (fun p _ _ => me - (intOf p).toNat)
  case atStart => exact ⟨0, by omega, rfl, by unfold Hid; simp only [List.take_zero]; exact HPOW.out.1, Below.refl _ _⟩
  case round =>
    obtain ⟨i, hi, rfl, hq, hb⟩ := hrel
    by_cases hin : i < me
    · have hin2 : (i : Int) < (me : Int) := by omega
      obtain ⟨bt, hbt⟩ : ∃ b, l[i]? = some b := ⟨_, List.getElem?_eq_getElem (by rw [HI.out.2]; exact hin)⟩
      have hIw := HI.out.1.later hb.out
      have hzl : (⟨l.toArray⟩ : ByteArray).size = me := by rw [size_of_list]; exact HI.out.2
      rw [← hzl] at hIw
      obtain ⟨bb, oo, rfl, _, gx⟩ := IsBytes.cellAt hIw (i := i) (by rw [hzl]; exact hin)
      rw [byte_list, List.toList_toArray, hbt] at gx
      have gx' : wr.cell? ⟨bb, oo + i, none⟩ = some (.int .u8 (bt.toNat : Int)) := gx
      obtain ⟨x, hx⟩ : ∃ x, bt.toNat = x := ⟨_, rfl⟩
      have hx256 : x < 256 := by rw [← hx]; exact bt.toNat_lt
      rw [hx] at gx'
      obtain ⟨E, hE⟩ : ∃ E, numB (l.take i) = E := ⟨_, rfl⟩
      have HE := show Hid (numB (l.take (i + 1)) = E * 256 + x) from by unfold Hid; rw [numB_take hbt, hE, hx]
      rw [hE] at hq
      clear gx hIw hzl hbt hx hE
      obtain ⟨w8, hw8⟩ : ∃ a, a = wr := ⟨_, rfl⟩
      subst hw8
      go_wp2_with fail
      go_loopw [14, 11] (fun p q wr => ∃ k : Nat, k ≤ 8 ∧ p = .int .i64 (7 - (k : Int)) ∧ Hid (IsW 128 wr q (A ^ (E * 2 ^ k + x / 2 ^ (8 - k)) % M)) ∧ Hid (Below w7.heap.size w7 wr)) (fun p _ _ => (intOf p + 1).toNat)
      case atStart => exact ⟨0, by omega, rfl, by unfold Hid; rw [Nat.pow_zero, Nat.mul_one, Nat.div_eq_of_lt (show x < 2 ^ (8 - 0) from hx256), Nat.add_zero]; exact hq.out, hb.out⟩
      case round =>
        obtain ⟨k, hk, rfl, hq, hb⟩ := hrel
        by_cases hk8 : k < 8
        · obtain ⟨b, hbk⟩ : ∃ b, 8 - (k + 1) = b := ⟨_, rfl⟩
          have hbI : (7 : Int) - (k : Int) = (b : Int) := by omega
          have hb0 : (0 : Int) ≤ (b : Int) := by omega
          have hP2 := wProduct 128 128 u11 u11 _ _ wr hq.out hq.out (by omega) (by omega)
          go_wp2_with fail
          refine hP2.mono ?_
          rintro en w9 ⟨⟨v9, rfl, h9⟩, hb9⟩
          clear hP2
          have hb39 : Below w3.heap.size w3 w9 := HPOW.out.2.trans ((hb.out.trans (hb9.mono hb.out.size)).mono HPOW.out.2.size)
          have hc9 := HK.out w9 hb39
          go_wp2_with fail
          refine (nExpR_any 256 128 pb v9 _ _ M w9 h9 hc9.1 hc9.2 (by omega) h0).mono ?_
          rintro en w10 ⟨⟨v10, rfl, h10⟩, hb10⟩
          rw [pow_sq] at h10
          have hb710 : Below w7.heap.size w7 w10 := hb.out.trans ((hb9.trans (hb10.mono hb9.size)).mono hb.out.size)
          obtain ⟨s, hs⟩ : ∃ s, x / 2 ^ b = s := ⟨_, rfl⟩
          have hsI : (x : Int) / 2 ^ b = (s : Int) := by rw [← hs]; simp
          have hsl : s < 256 := by rw [← hs]; exact Nat.lt_of_le_of_lt (Nat.div_le_self _ _) hx256
          have hand := and8 s hsl
          have hbit := bit_of (x := x) hk8
          rw [hbk, hs] at hbit
          have hexp : E * 2 ^ (k + 1) + x / 2 ^ (8 - (k + 1)) = 2 * (E * 2 ^ k + x / 2 ^ (8 - k)) + s % 2 := by
            rw [hbk, hs, Nat.pow_succ, ← Nat.mul_assoc]
            omega
          have hbl : (b : Int) ≤ 8 := by omega
          clear h9 hb9 hb10 hb39 hc9 hbit
          have hs2 : s % 2 = 1 ∨ s % 2 = 0 := by omega
          rcases hs2 with hs2 | hs2
          · rw [hs2] at hand hexp
            have hand' : bits .and .u8 (s : Int) 1 = 1 := hand
            have hP3 := wProduct 128 128 v10 vbase _ _ w10 h10 ((HBASE.out.later hb710)) (by omega) (by omega)
            clear hand hs hs2 hbk
            go_wp2_with fail
            refine hP3.mono ?_
            rintro en w11 ⟨⟨v11, rfl, h11⟩, hb11⟩
            clear hP3
            have hb311 : Below w3.heap.size w3 w11 := HPOW.out.2.trans ((hb710.trans (hb11.mono hb710.size)).mono HPOW.out.2.size)
            have hc11 := HK.out w11 hb311
            go_wp2_with fail
            refine (nExpR_any 256 128 pb v11 _ _ M w11 h11 hc11.1 hc11.2 (by omega) h0).mono ?_
            rintro en w12 ⟨⟨v12, rfl, h12⟩, hb12⟩
            rw [pow_more, ← hexp] at h12
            have HQ12 := show Hid (IsW 128 w12 v12 (A ^ (E * 2 ^ (k + 1) + x / 2 ^ (8 - (k + 1))) % M) ∧ Below w7.heap.size w7 w12) from ⟨h12, hb710.trans ((hb11.trans (hb12.mono hb11.size)).mono hb710.size)⟩
            clear h10 h11 h12 hb11 hb12 hb311 hc11 hexp hq
            go_wp2_with fail
            go_roundw
            case rel => exact ⟨k + 1, by omega, by congr 1; omega, HQ12.out.1, HQ12.out.2⟩
            case measure => simp [intOf]; omega
          · rw [hs2] at hand hexp
            have hand' : bits .and .u8 (s : Int) 1 = 0 := hand
            have hexp' := hexp.trans (Nat.add_zero _)
            rw [← hexp'] at h10
            have HQ12 := show Hid (IsW 128 w10 v10 (A ^ (E * 2 ^ (k + 1) + x / 2 ^ (8 - (k + 1))) % M) ∧ Below w7.heap.size w7 w10) from ⟨h10, hb710⟩
            clear hand hs hs2 hbk h10 hexp hexp' hq
            go_wp2_with fail
            go_roundw
            case rel => exact ⟨k + 1, by omega, by congr 1; omega, HQ12.out.1, HQ12.out.2⟩
            case measure => simp [intOf]; omega
        · have hkn : ¬ (0 : Int) ≤ 7 - (k : Int) := by omega
          obtain rfl : k = 8 := by omega
          have HQ8 := show Hid (IsW 128 wr u11 (A ^ numB (l.take (i + 1)) % M)) from by
            have h1 := hq.out
            rw [Nat.sub_self, Nat.pow_zero, Nat.div_one] at h1
            unfold Hid
            rw [HE.out]
            exact h1
          clear hq
          go_wp2_with fail
          go_roundw
          case rel => exact ⟨i + 1, by omega, by go_num, HQ8.out, hb.out⟩
          case measure => simp [intOf]; omega
    · have hin2 : ¬ (i : Int) < (me : Int) := by omega
      obtain rfl : i = me := by omega
      have HQ8 := show Hid (IsW 128 wr u11 (A ^ numB e.data.toList % M)) from by
        have h1 := hq.out
        rw [List.take_of_length_le (by rw [HI.out.2]; exact Nat.le_refl _), HL.out.1] at h1
        exact h1
      have hTo := wTo 128 u11 _ wr HQ8.out (by omega)
      clear hq
      go_wp2_with fail
      refine hTo.mono ?_
      rintro en w9 ⟨⟨v9, rfl, h9⟩, hb9⟩
      have HB9 := show Hid (Below w.heap.size w w9) from HB3.out.1.trans ((HPOW.out.2.trans ((hb.out.trans (hb9.mono hb.out.size)).mono HPOW.out.2.size)).mono HB3.out.1.size)
      clear hTo hb9
      go_wp2_with fail
      go_ret2
      exact numOk_mk h9 HB9.out
end Go.Proofs.YtpcmpeeflnlkpaaDoor

namespace Go.Proofs.YtpcmpeeflnlkpaaDoor
open Go.RowKit Ch
set_option maxRecDepth 100000

set_option maxHeartbeats 1000000 in
theorem nSub_long (x y : Option Addr) (cx cy : Nat) (s t : ByteArray) (w : World) (hS : IsBytes w (.slice x s.size cx) s) (hT : IsBytes w (.slice y t.size cy) t) (hl : longAny [s, t] = true) :
    Calls Tryd.prog 47 #[.slice x s.size cx, .slice y t.size cy] w fun e w' => e = .returned (.tuple #[.slice none 0 0, .int .i64 12]) ∧ Below w.heap.size w w' := by
  have hSl := IsSl.two hS hT
  have hb0 : Below w.heap.size w (w.alloc (.cells #[.slice x s.size cx, .slice y t.size cy] 22)) := (Below.refl _ w).alloc (Nat.le_refl _) _
  have hL := nAnyLong_any _ _ _ hSl (by simp)
  rw [hl] at hL
  go_enter Tryd.func47, Tryd.ntmps47
  go_wp2_with fail
  refine hL.mono ?_
  rintro e w1 ⟨rfl, rfl⟩
  clear hL
  go_wp2_with fail
  go_ret2
  exact ⟨rfl, hb0⟩
set_option maxHeartbeats 1000000 in
theorem nMul_long (x y : Option Addr) (cx cy : Nat) (s t : ByteArray) (w : World) (hS : IsBytes w (.slice x s.size cx) s) (hT : IsBytes w (.slice y t.size cy) t) (hl : longAny [s, t] = true) :
    Calls Tryd.prog 22 #[.slice x s.size cx, .slice y t.size cy] w fun e w' => e = .returned (.tuple #[.slice none 0 0, .int .i64 12]) ∧ Below w.heap.size w w' := by
  have hSl := IsSl.two hS hT
  have hb0 : Below w.heap.size w (w.alloc (.cells #[.slice x s.size cx, .slice y t.size cy] 22)) := (Below.refl _ w).alloc (Nat.le_refl _) _
  have hL := nAnyLong_any _ _ _ hSl (by simp)
  rw [hl] at hL
  go_enter Tryd.func22, Tryd.ntmps22
  go_wp2_with fail
  refine hL.mono ?_
  rintro e w1 ⟨rfl, rfl⟩
  clear hL
  go_wp2_with fail
  go_ret2
  exact ⟨rfl, hb0⟩
set_option maxHeartbeats 1000000 in
theorem nGcd_long (x y : Option Addr) (cx cy : Nat) (s t : ByteArray) (w : World) (hS : IsBytes w (.slice x s.size cx) s) (hT : IsBytes w (.slice y t.size cy) t) (hl : longAny [s, t] = true) :
    Calls Tryd.prog 45 #[.slice x s.size cx, .slice y t.size cy] w fun e w' => e = .returned (.tuple #[.slice none 0 0, .int .i64 12]) ∧ Below w.heap.size w w' := by
  have hSl := IsSl.two hS hT
  have hb0 : Below w.heap.size w (w.alloc (.cells #[.slice x s.size cx, .slice y t.size cy] 22)) := (Below.refl _ w).alloc (Nat.le_refl _) _
  have hL := nAnyLong_any _ _ _ hSl (by simp)
  rw [hl] at hL
  go_enter Tryd.func45, Tryd.ntmps45
  go_wp2_with fail
  refine hL.mono ?_
  rintro e w1 ⟨rfl, rfl⟩
  clear hL
  go_wp2_with fail
  go_ret2
  exact ⟨rfl, hb0⟩
set_option maxHeartbeats 1000000 in
theorem nInverse_long (x y : Option Addr) (cx cy : Nat) (s t : ByteArray) (w : World) (hS : IsBytes w (.slice x s.size cx) s) (hT : IsBytes w (.slice y t.size cy) t) (hl : longAny [s, t] = true) :
    Calls Tryd.prog 26 #[.slice x s.size cx, .slice y t.size cy] w fun e w' => e = .returned (.tuple #[.slice none 0 0, .int .i64 12]) ∧ Below w.heap.size w w' := by
  have hSl := IsSl.two hS hT
  have hb0 : Below w.heap.size w (w.alloc (.cells #[.slice x s.size cx, .slice y t.size cy] 22)) := (Below.refl _ w).alloc (Nat.le_refl _) _
  have hL := nAnyLong_any _ _ _ hSl (by simp)
  rw [hl] at hL
  go_enter Tryd.func26, Tryd.ntmps26
  go_wp2_with fail
  refine hL.mono ?_
  rintro e w1 ⟨rfl, rfl⟩
  clear hL
  go_wp2_with fail
  go_ret2
  exact ⟨rfl, hb0⟩
set_option maxHeartbeats 1000000 in
theorem nDiv_long (x y : Option Addr) (cx cy : Nat) (s t : ByteArray) (w : World) (hS : IsBytes w (.slice x s.size cx) s) (hT : IsBytes w (.slice y t.size cy) t) (hl : longAny [s, t] = true) :
    Calls Tryd.prog 46 #[.slice x s.size cx, .slice y t.size cy] w fun e w' => e = .returned (.tuple #[.slice none 0 0, .slice none 0 0, .int .i64 12]) ∧ Below w.heap.size w w' := by
  have hSl := IsSl.two hS hT
  have hb0 : Below w.heap.size w (w.alloc (.cells #[.slice x s.size cx, .slice y t.size cy] 22)) := (Below.refl _ w).alloc (Nat.le_refl _) _
  have hL := nAnyLong_any _ _ _ hSl (by simp)
  rw [hl] at hL
  go_enter Tryd.func46, Tryd.ntmps46
  go_wp2_with fail
  refine hL.mono ?_
  rintro e w1 ⟨rfl, rfl⟩
  clear hL
  go_wp2_with fail
  go_ret3
  exact ⟨rfl, hb0⟩
set_option maxHeartbeats 1000000 in
theorem nExp_long (xa xe xm : Option Addr) (ca ce cm : Nat) (a e m : ByteArray) (w : World) (hSa : IsBytes w (.slice xa a.size ca) a) (hSe : IsBytes w (.slice xe e.size ce) e) (hSm : IsBytes w (.slice xm m.size cm) m) (hl : longAny [a, e, m] = true) :
    Calls Tryd.prog 37 #[.slice xa a.size ca, .slice xe e.size ce, .slice xm m.size cm] w fun en w' => en = .returned (.tuple #[.slice none 0 0, .int .i64 12]) ∧ Below w.heap.size w w' := by
  have hSl := IsSl.three hSa hSe hSm
  have hb0 : Below w.heap.size w (w.alloc (.cells #[.slice xa a.size ca, .slice xe e.size ce, .slice xm m.size cm] 22)) := (Below.refl _ w).alloc (Nat.le_refl _) _
  have hL := nAnyLong_any _ _ _ hSl (by simp)
  rw [hl] at hL
  go_enter Tryd.func37, Tryd.ntmps37
  go_wp2_with fail
  refine hL.mono ?_
  rintro en w1 ⟨rfl, rfl⟩
  clear hL
  go_wp2_with fail
  go_ret2
  exact ⟨rfl, hb0⟩
set_option maxHeartbeats 1000000 in
theorem nExp_none (xa xe xm : Option Addr) (ca ce cm : Nat) (a e m : ByteArray) (w : World) (hSa : IsBytes w (.slice xa a.size ca) a) (hSe : IsBytes w (.slice xe e.size ce) e) (hSm : IsBytes w (.slice xm m.size cm) m) (ha : a.size ≤ 1024) (he : e.size ≤ 1024) (hm : m.size ≤ 1024) (h0 : numB m.data.toList = 0) :
    Calls Tryd.prog 37 #[.slice xa a.size ca, .slice xe e.size ce, .slice xm m.size cm] w fun en w' => en = .returned (.tuple #[.slice none 0 0, .int .i64 2]) ∧ Below w.heap.size w w' := by
  have hSl := IsSl.three hSa hSe hSm
  have hb0 : Below w.heap.size w (w.alloc (.cells #[.slice xa a.size ca, .slice xe e.size ce, .slice xm m.size cm] 22)) := (Below.refl _ w).alloc (Nat.le_refl _) _
  have hL := nAnyLong_any _ _ _ hSl (by simp)
  have hlo : longAny [a, e, m] = false := by simp [longAny]; omega
  rw [hlo] at hL
  generalize hW : w.alloc (.cells #[.slice xa a.size ca, .slice xe e.size ce, .slice xm m.size cm] 22) = W0 at *
  have HS := show Hid (IsBytes W0 (.slice xm m.size cm) m ∧ Below w.heap.size w W0) from ⟨hSm.later hb0, hb0⟩
  clear hSa hSe hSm hb0 hSl hlo
  go_enter Tryd.func37, Tryd.ntmps37
  go_wp2_with fail
  refine hL.mono ?_
  rintro en w1 ⟨rfl, rfl⟩
  clear hL hW
  go_wp2_with fail
  refine (wFrom xm cm m w1 HS.out.1 hm).mono ?_
  rintro en w2 ⟨⟨vb, rfl, hvb⟩, hb2⟩
  rw [h0] at hvb
  obtain ⟨yb, lb, cb, rfl, hl0, _⟩ := id hvb.shape
  obtain rfl := hl0.2 rfl
  have hNb := heap_push_at w2 (.cells #[.slice none 0 0] 61)
  have hfr := block_free 0 hNb
  have hcl := block_cell 0 hNb rfl
  have hNs := setCell_block (i := 0) (u := .slice yb 0 cb) hNb
  obtain ⟨w3, hw3⟩ : ∃ x, (w2.alloc (.cells #[.slice none 0 0] 61)).setCell ⟨w2.heap.size, 0, none⟩ (.slice yb 0 cb) = x := ⟨_, rfl⟩
  rw [hw3] at hNs
  have hg3 := block_cell 0 hNs rfl
  have HB := show Hid (Below w.heap.size w w3) from by
    have hb23 : Below w2.heap.size w2 w3 := by
      rw [← hw3]
      exact ((Below.refl _ w2).alloc (Nat.le_refl _) _).grown (grown_cell _ ⟨w2.heap.size, 0, none⟩ _) (by simp) (fun b hb => by obtain rfl : w2.heap.size = b := Option.some.inj hb; exact Nat.le_refl _)
    exact HS.out.2.trans ((hb2.trans (hb23.mono hb2.size)).mono HS.out.2.size)
  clear hvb hb2 hl0
  go_wp2_with fail
  go_ret2
  exact ⟨rfl, HB.out⟩
end Go.Proofs.YtpcmpeeflnlkpaaDoor
