/-
  FlateShort, walked.
-/
import Derived.Test.YtbhnlomppobbkaaHL3
import Derived.Test.YtbhnlomppobbkaaJDefl2
import Derived.Test.YtbhnlomppobbkaaJStor
namespace Go.Proofs.Ytbhnlomppobbkaa
open Go.RowKit Ch
set_option maxRecDepth 100000

/-- What is asked of a form of a text, whatever stands behind. -/
structure Form2 (s : ByteArray) (F : List UInt8) : Prop where
  most : F.length ≤ 1000
  full : ∀ t m, s.size ≤ m → ∃ q, (q + 7) / 8 = F.length ∧ inflL noOwn (F ++ t) m = .ok (q, s.data.toList)
  less : ∀ t m, m < s.size → inflL noOwn (F ++ t) m = .error 12
theorem form2_defl (s : ByteArray) (hs : s.size ≤ 600) : Form2 s (deflL s) := by
  have hI := fun t m => defl_infl noOwn s t m
  have hl : (deflL s).length = (([true, true, false] ++ deflB (byte s) s.size 0).length + 7) / 8 := pack_length _
  have hb := deflB_le (byte s) s.size _ 0 (Nat.le_refl _)
  have hl2 : ([true, true, false] ++ deflB (byte s) s.size 0).length = 3 + (deflB (byte s) s.size 0).length := by rw [List.length_append]; rfl
  refine ⟨by omega, fun t m hm => ⟨_, hl.symm, ?_⟩, fun t m hm => ?_⟩
  · rw [show deflL s = pack ([true, true, false] ++ deflB (byte s) s.size 0) from rfl, hI, if_pos hm]
  · rw [show deflL s = pack ([true, true, false] ++ deflB (byte s) s.size 0) from rfl, hI, if_neg (by omega)]
theorem form2_stored (s : ByteArray) (hs : s.size ≤ 600) : Form2 s (storedL s.data.toList) := by
  have hI := fun t m => stored_infl noOwn m s.data.toList t
  have hl := storedL_length s.data.toList.length s.data.toList (Nat.le_refl _)
  rw [len_eq] at hl hI
  refine ⟨by omega, fun t m hm => ⟨(storedL s.data.toList).length * 8, by omega, ?_⟩, fun t m hm => ?_⟩
  · rw [hI, if_pos hm]
  · rw [hI, if_neg (by omega)]
set_option maxHeartbeats 4000000 in
theorem lFlShort_any (x : Option Addr) (cap : Nat) (s : ByteArray) (y : Option Addr) (capt : Nat) (t : ByteArray) (most : Int) (w : World) (hB : IsBytes w (.slice x s.size cap) s) (hT : IsBytes w (.slice y t.size capt) t) (hm : (Lit.int .i64 most).wf = true) :
    Calls Try.prog 3 #[.slice x s.size cap, .slice y t.size capt, .int .i64 most] w fun e w' => e = .returned (.bool true) ∧ Below w.heap.size w w' := by
  have hm63 := bounds_i64 hm
  by_cases hs : s.size ≤ 600 ∧ t.size ≤ 200
  · obtain ⟨hs, ht⟩ := hs
    have hs0 : ¬ (600 : Int) < (s.size : Int) := by omega
    have hs1 : decide ((600 : Int) < (s.size : Int)) = false := decide_eq_false hs0
    have ht0 : ¬ (200 : Int) < (t.size : Int) := by omega
    have ht1 : decide ((200 : Int) < (t.size : Int)) = false := decide_eq_false ht0
    go_enter Try.func3, Try.ntmps3
    go_wp2_with fail
    refine (flAwake_any w).mono ?_
    rintro e w1 ⟨rfl, hb1⟩
    have hB1 := hB.later hb1
    have hT1 := hT.later hb1
    go_wp2_with (at_builtin; go_must (refine wpList_append_bytes rfl _ _ rfl w1.heap.size _ ByteArray.empty rfl (own_empty w1 _ (Nat.le_refl _)) _ s rfl (hB1.alloc _) (by simp; omega) (by simp) ?_; intro v2 w2 ho2 hb2))
    rw [cat_empty] at ho2
    have hb2' : Below w1.heap.size w1 w2 := ((Below.refl _ w1).alloc (Nat.le_refl _) _).trans hb2
    obtain ⟨a2, c2, rfl⟩ := own_shape ho2
    refine (hDeflate_any a2 c2 s w2 (by omega) (own_bytes ho2)).mono ?_
    rintro e w3 ⟨⟨v3, rfl, ho3⟩, hb3⟩
    obtain ⟨a3, c3, rfl⟩ := own_shape ho3
    have hb3' := below2 hb2' hb3
    go_wp2_with fail
    refine (hStored_any x cap s w3 (by omega) (hB1.later hb3')).mono ?_
    rintro e w4 ⟨⟨v4, rfl, ho4⟩, hb4⟩
    obtain ⟨a4, c4, rfl⟩ := own_shape ho4
    have hb4' := below2 hb3' hb4
    have hB4 := hB1.later hb4'
    have ho3' := ownsRow_later ho3 hb4
    have hBd := hB4.later ((Below.refl _ w4).drew)
    have o3d := ownsRow_later ho3' ((Below.refl _ w4).drew)
    have o4d := ownsRow_later ho4 ((Below.refl _ w4).drew)
    have cd3 := own_convert o3d
    have cd4 := own_convert o4d
    have hJD := jDeflate_any x cap s w4.drew (by omega) hBd
    have HJS : Hid (∀ W, IsBytes W (.slice x s.size cap) s → Calls Try.prog 13 #[.slice x s.size cap] W fun e w' => (∃ v', e = .returned v' ∧ w'.ownsRow W.heap.size 5 1 v' (storedL s.data.toList).length (Lib.byteCells (storedL s.data.toList))) ∧ Below W.heap.size W w') := fun W h => jStored_any x cap s W (by omega) h
    have HF1 := show Hid (Form2 s (deflL s)) from form2_defl s hs
    have HF2 := show Hid (Form2 s (storedL s.data.toList)) from form2_stored s hs
    have HB4 := show Hid (IsBytes w4.drew (.slice x s.size cap) s) from hBd
    have HT4 := show Hid (IsBytes w4.drew (.slice y t.size capt) t) from (hT1.later hb4').later ((Below.refl _ w4).drew)
    have HO3 := show Hid (w4.drew.ownsRow w2.heap.size 5 1 (.slice a3 (deflL s).length c3) (deflL s).length (Lib.byteCells (deflL s))) from o3d
    have HO4 := show Hid (w4.drew.ownsRow w3.heap.size 5 1 (.slice a4 (storedL s.data.toList).length c4) (storedL s.data.toList).length (Lib.byteCells (storedL s.data.toList))) from o4d
    have hbw : Below w.heap.size w w4.drew := (below2 hb1 hb4').drew
    generalize deflL s = D at *
    generalize storedL s.data.toList = SS at *
    have tD : ((⟨D.toArray⟩ : ByteArray).toList == (⟨D.toArray⟩ : ByteArray).toList) = true := by simp
    have tS : ((⟨SS.toArray⟩ : ByteArray).toList == (⟨SS.toArray⟩ : ByteArray).toList) = true := by simp
    clear ho2 ho3 ho4 ho3' o3d o4d hB hB1 hT hT1 hB4 hBd hb1 hb2 hb3 hb4 hb2' hb3' hb4'
    go_upto_region 5 with fail
    go_cut [54] from 37 to 54 (fun z wx => z = .bool false ∧ Below w4.drew.heap.size w4.drew wx)
    case first =>
     go_region_law (first
      | (go_simp
         go_wp2_with (go_at_call 12; refine hJD.mono ?_)
         rintro e w5 ⟨⟨v5, rfl, ho5⟩, hb5⟩
         have c5 := own_convert ho5
         have d5 := own_convert (ownsRow_later HO3.out hb5)
         have s5 := own_convert (ownsRow_later HO4.out hb5)
         have hB5 := HB4.out.later hb5)
      | (go_simp
         go_wp2_with (go_at_call 13; refine (HJS.out w5 hB5).mono ?_)
         rintro e w6 ⟨⟨v6, rfl, ho6⟩, hb6⟩
         have c6 := own_convert ho6
         have s6 := own_convert (ownsRow_later (ownsRow_later HO4.out hb5) hb6)))
     all_goals
      go_wp2_with fail
      go_meet
      case rel => exact ⟨rfl, below2 hb5 hb6⟩
    case rest =>
      obtain ⟨rfl, hbc⟩ := hcut
      have hB5 := show Hid (IsBytes wc (.slice x s.size cap) s) from HB4.out.later hbc
      have hT5 := show Hid (IsBytes wc (.slice y t.size capt) t) from HT4.out.later hbc
      have HO3c := show Hid (wc.ownsRow w2.heap.size 5 1 (.slice a3 D.length c3) D.length (Lib.byteCells D)) from ownsRow_later HO3.out hbc
      have HO4c := show Hid (wc.ownsRow w3.heap.size 5 1 (.slice a4 SS.length c4) SS.length (Lib.byteCells SS)) from ownsRow_later HO4.out hbc
      have hbw2 := below2 hbw hbc
      clear cd3 cd4 hJD HJS HB4 HT4 HO3 HO4 tD tS hbc hbw
      have HPK : Hid (∀ i, i < 2 → ∃ F a cc, Form2 s F ∧ ∀ wr, Below (wc.heap.size + 1) (wc.alloc (.cells #[.slice a3 D.length c3, .slice a4 SS.length c4] 22)) wr → wr.cell? ⟨wc.heap.size, i, none⟩ = some (.slice a F.length cc) ∧ IsBytes wr (.slice a F.length cc) ⟨F.toArray⟩) := by
        intro i hi
        have hN := heap_push_at wc (.cells #[.slice a3 D.length c3, .slice a4 SS.length c4] 22)
        have hb4 : Below wc.heap.size wc (wc.alloc (.cells #[.slice a3 D.length c3, .slice a4 SS.length c4] 22)) := (Below.refl _ wc).alloc (Nat.le_refl _) _
        have hsz : (wc.alloc (.cells #[.slice a3 D.length c3, .slice a4 SS.length c4] 22)).heap.size = wc.heap.size + 1 := by simp
        rcases (by omega : i = 0 ∨ i = 1) with rfl | rfl
        · refine ⟨D, a3, c3, HF1.out, fun wr hb => ⟨block_cell 0 ((hb.block wc.heap.size (by omega)).trans hN) rfl, own_text (ownsRow_later (ownsRow_later HO3c.out hb4) (by rw [hsz]; exact hb))⟩⟩
        · refine ⟨SS, a4, c4, HF2.out, fun wr hb => ⟨block_cell 1 ((hb.block wc.heap.size (by omega)).trans hN) rfl, own_text (ownsRow_later (ownsRow_later HO4c.out hb4) (by rw [hsz]; exact hb))⟩⟩
      have hb4 : Below wc.heap.size wc (wc.alloc (.cells #[.slice a3 D.length c3, .slice a4 SS.length c4] 22)) := (Below.refl _ wc).alloc (Nat.le_refl _) _
      have hbw4 := below2 hbw2 hb4
      have hws := hbw2.size
      have HT4 := show Hid (IsBytes (wc.alloc (.cells #[.slice a3 D.length c3, .slice a4 SS.length c4] 22)) (.slice y t.size capt) t) from hT5.out.later hb4
      have HB4 := show Hid (IsBytes (wc.alloc (.cells #[.slice a3 D.length c3, .slice a4 SS.length c4] 22)) (.slice x s.size cap) s) from hB5.out.later hb4
      have hz4 : (wc.alloc (.cells #[.slice a3 D.length c3, .slice a4 SS.length c4] 22)).heap.size = wc.heap.size + 1 := by simp
      clear HO3c HO4c HF1 HF2 hB5 hT5 hb4 hbw2
      go_wp2_with fail
      generalize D.length = n2 at *
      generalize SS.length = n3 at *
      generalize hw4 : wc.alloc (.cells #[.slice a3 n2 c3, .slice a4 n3 c4] 22) = W4 at *
      have HZ4 : Hid (W4.heap.size = wc.heap.size + 1) := hz4
      clear hz4 hw4
      go_loopw [11] (fun t wr => ∃ i : Nat, i ≤ 2 ∧ t = .int .i64 (i : Int) ∧ Below (wc.heap.size + 1) W4 wr) (fun t _ => 2 - (intOf t).toNat)
      case atStart => exact ⟨0, by omega, rfl, Below.refl _ _⟩
      case round =>
        obtain ⟨i, hi, rfl, hb⟩ := hrel
        by_cases hlt : i < 2
        · obtain ⟨F, a, cc, hF, hP⟩ := HPK.out i hlt
          have HF : Hid (Form2 s F) := hF
          have h1000 := hF.most
          obtain ⟨g1, hIB⟩ := hP wr hb
          have hTr := HT4.out.later (by rw [HZ4.out]; exact hb)
          have hBr := HB4.out.later (by rw [HZ4.out]; exact hb)
          have HP := show Hid (∀ wr, Below (wc.heap.size + 1) W4 wr → wr.cell? ⟨wc.heap.size, i, none⟩ = some (.slice a F.length cc) ∧ IsBytes wr (.slice a F.length cc) ⟨F.toArray⟩) from hP
          have hzF : (⟨F.toArray⟩ : ByteArray).size = F.length := size_of_list F
          have hi2 : (i : Int) < 2 := by omega
          have hbr0 : Below wr.heap.size wr (wr.alloc (.cells #[] 5)) := (Below.refl _ wr).alloc (Nat.le_refl _) _
          have g2 := (hbr0.cell (p := ⟨wc.heap.size, i, none⟩) (by have := hb.size; have := HZ4.out; show wc.heap.size < wr.heap.size; omega)).trans g1
          have HIB := show Hid (IsBytes wr (.slice a F.length cc) ⟨F.toArray⟩) from hIB
          have HTr := show Hid (IsBytes wr (.slice y t.size capt) t) from hTr
          have HBr := show Hid (IsBytes wr (.slice x s.size cap) s) from hBr
          clear hP hF hIB hTr hBr
          go_wp2_with (at_builtin; go_must (first
            | (refine wpList_append_bytes rfl _ _ rfl wr.heap.size _ ByteArray.empty rfl (own_empty wr _ (Nat.le_refl _)) _ ⟨F.toArray⟩ rfl (HIB.out.alloc _) (by rw [hzF]; simp; omega) (by simp) ?_; intro v5 w5 ho5 hb5; have hb5' := hbr0.trans hb5; have hsz5 := hb5'.size)
            | (refine wpList_append_bytes rfl _ _ rfl wr.heap.size _ (cat ByteArray.empty ⟨F.toArray⟩) rfl ho5 _ t rfl (HTr.out.later hb5') (by rw [cat_empty, hzF]; omega) hsz5 ?_; intro v6 w6 ho6 hb6)))
          rw [cat_empty] at ho6
          obtain ⟨a6, c6, rfl⟩ := own_shape ho6
          have hI6 := own_bytes ho6
          have hb6' : Below (wc.heap.size + 1) W4 w6 := hb.trans ((hb5'.trans hb6).mono (by have := hb.size; have := HZ4.out; omega))
          have hzC : (cat ⟨F.toArray⟩ t).size = F.length + t.size := by rw [cat_size, hzF]
          have hdC : (cat ⟨F.toArray⟩ t).data.toList = F ++ t.data.toList := by simp [cat]
          have hB6 := HBr.out.later (hb5'.trans hb6)
          obtain ⟨g6, _⟩ := HP.out w6 hb6'
          generalize hCg : cat ⟨F.toArray⟩ t = CC at *
          by_cases hneg : most < 0
          · refine (hInflate_neg (.slice a6 CC.size c6) most w6 hneg).mono ?_
            rintro e w7 ⟨rfl, hb7⟩
            go_wp2_with fail
            go_roundw
            case rel => exact ⟨i + 1, by omega, by go_num, hb6'.trans (hb7.mono (by have := hb6'.size; have := HZ4.out; omega))⟩
            case measure => simp [intOf]; omega
          · obtain ⟨m, rfl⟩ : ∃ m : Nat, most = (m : Int) := ⟨most.toNat, by omega⟩
            by_cases hless : m < s.size
            · have hq := HF.out.less t.data.toList m hless
              rw [← hdC] at hq
              have hI := hInflate_any noOwn a6 c6 CC m w6 (fun rb => noOwn_ok rb _ _) (by rw [hzC]; omega) hI6 (by omega) (by rw [hq]; intro e; cases e)
              rw [hq] at hI
              have hless2 : (m : Int) < (s.size : Int) := by omega
              refine hI.mono ?_
              rintro e w7 ⟨rfl, hb7⟩
              have e12 : ((12 : Nat) : Int) = 12 := rfl
              rw [e12]
              clear hI hq
              go_wp2_with fail
              go_roundw
              case rel => exact ⟨i + 1, by omega, by go_num, hb6'.trans (hb7.mono (by have := hb6'.size; have := HZ4.out; omega))⟩
              case measure => simp [intOf]; omega
            · obtain ⟨q, hq8, hq⟩ := HF.out.full t.data.toList m (by omega)
              rw [← hdC] at hq
              have hI := hInflate_any noOwn a6 c6 CC m w6 (fun rb => noOwn_ok rb _ _) (by rw [hzC]; omega) hI6 (by omega) (by rw [hq]; intro e; cases e)
              rw [hq] at hI
              have hless2 : ¬ (m : Int) < (s.size : Int) := by omega
              refine hI.mono ?_
              rintro e w7 ⟨⟨v7, rfl, ho7⟩, hb7⟩
              rw [hq8]
              have hb7' := hb6'.trans (hb7.mono (by have := hb6'.size; have := HZ4.out; omega))
              obtain ⟨g7, _⟩ := HP.out w7 hb7'
              obtain ⟨a7, c7, rfl⟩ := own_shape ho7
              have k7 := own_convert ho7
              rw [len_eq] at k7
              have k8 := (hB6.later hb7).convert
              have eB : (⟨s.data.toList.toArray⟩ : ByteArray) = s := rfl
              rw [eB] at k7
              have te : (s.toList == s.toList) = true := by simp
              have HSZF : Hid ((⟨F.toArray⟩ : ByteArray).size = F.length) := hzF
              generalize F.length = nF at *
              clear hI hq hI6 ho6 hq8 ho7 g6 g1 g2
              go_wp2_with fail
              go_roundw
              case rel => exact ⟨i + 1, by omega, by go_num, hb7'⟩
              case measure => simp [intOf]; omega
        · have hi2 : ¬ (i : Int) < 2 := by omega
          go_wp2_with fail
          go_ret
          exact ⟨rfl, hbw4.trans (hb.mono (by omega))⟩
  · have hd : (600 : Int) < (s.size : Int) ∨ ¬ (600 : Int) < (s.size : Int) ∧ (200 : Int) < (t.size : Int) := by omega
    rcases hd with hd | ⟨hd1, hd2⟩
    all_goals
      go_enter Try.func3, Try.ntmps3
      go_wp2_with fail
      refine (flAwake_any w).mono ?_
      rintro e w1 ⟨rfl, hb1⟩
      go_wp2_with fail
      refine (flAwake_any w1).mono ?_
      rintro e w2 ⟨rfl, hb2⟩
      go_wp2_with fail
      go_ret
      exact ⟨rfl, below2 hb1 hb2⟩
end Go.Proofs.Ytbhnlomppobbkaa
