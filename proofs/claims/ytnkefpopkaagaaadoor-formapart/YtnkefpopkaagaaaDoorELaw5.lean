/-
  The statement that unlike texts are coded unlike.
-/
import Derived.Test.YtnkefpopkaagaaaDoorELaw4
namespace Go.Proofs.YtnkefpopkaagaaaDoor
open Go.RowKit Ch
set_option maxRecDepth 100000

theorem coded_beq {f : List UInt8 → List UInt8} (hf : ∀ a b, f a = f b → a = b) (s t : ByteArray) : ((⟨(f s.data.toList).toArray⟩ : ByteArray).toList == (⟨(f t.data.toList).toArray⟩ : ByteArray).toList) = (s.toList == t.toList) := by
  rw [Lib.toList_data, Lib.toList_data, Lib.toList_data, Lib.toList_data]
  show (f s.data.toList == f t.data.toList) = _
  by_cases h : s.data.toList = t.data.toList
  · rw [h]; simp
  · rw [beq_eq_false_iff_ne.2 h, beq_eq_false_iff_ne.2 (fun e => h (hf _ _ e))]
theorem coded_sum {f : List UInt8 → List UInt8} (hf : ∀ a b, f (a ++ b) = f a ++ f b) (s t : ByteArray) : (⟨(f (s ++ t).data.toList).toArray⟩ : ByteArray) = ⟨(f s.data.toList).toArray⟩ ++ ⟨(f t.data.toList).toArray⟩ := by
  apply ByteArray.ext
  apply Array.toList_inj.1
  rw [cat_text]
  show f (s ++ t).data.toList = f s.data.toList ++ f t.data.toList
  rw [cat_text, hf]

set_option maxHeartbeats 4000000 in
theorem lFApart_any (s t : ByteArray) (w : World) (hG : MaxLenIs w) (hs : s.size ≤ 1000) (ht : t.size ≤ 1000) :
    Calls Tryd.prog 7 #[.string s, .string t] w fun e w' => e = .returned (.bool true) ∧ Below w.heap.size w w' := by
  obtain ⟨β, hβ⟩ : ∃ β, (s.toList == t.toList) = β := ⟨_, rfl⟩
  have hββ : (β != β) = false := by simp
  have hsum : (s ++ t).size = s.size + t.size := ByteArray.size_append
  have zz : (9223372036854775807 < s.size + t.size) = False := eq_false (by omega)
  have bP := coded_beq (f := percL) (fun a b h => perc_inj h) s t
  rw [hβ] at bP
  have sP := coded_sum (f := percL) (fun a b => percL_append a b) s t
  have nP1 := percL_length s.data.toList
  have nP2 := percL_length t.data.toList
  rw [len_eq] at nP1 nP2
  have hP1 := fun W => fPercent_any s W (by omega)
  have hP2 := fun W => fPercent_any t W (by omega)
  have hP3 := fun W => fPercent_any (s ++ t) W (by omega)
  rw [sP] at hP3
  obtain ⟨P1, eP1⟩ : ∃ X : ByteArray, ⟨(percL s.data.toList).toArray⟩ = X := ⟨_, rfl⟩
  obtain ⟨P2, eP2⟩ : ∃ X : ByteArray, ⟨(percL t.data.toList).toArray⟩ = X := ⟨_, rfl⟩
  have zP1 : P1.size ≤ 6000 := by rw [← eP1, size_of_list]; omega
  have zP2 : P2.size ≤ 6000 := by rw [← eP2, size_of_list]; omega
  rw [eP1, eP2] at bP hP3
  rw [eP1] at hP1
  rw [eP2] at hP2
  have tP := text_eq (P1 ++ P2)
  have yP : (9223372036854775807 < P1.size + P2.size) = False := eq_false (by omega)
  clear eP1 eP2 sP nP1 nP2
  have bA := coded_beq (f := turnL 1) (fun a b h => turn_inj 0 a b h) s t
  rw [hβ] at bA
  have sA := coded_sum (f := turnL 1) (fun a b => turnL_append 1 a b) s t
  have nA1 := turnL_len 1 s.data.toList
  have nA2 := turnL_len 1 t.data.toList
  rw [len_eq] at nA1 nA2
  have hA1 := fun W => fAttr_any s W (by omega)
  have hA2 := fun W => fAttr_any t W (by omega)
  have hA3 := fun W => fAttr_any (s ++ t) W (by omega)
  rw [sA] at hA3
  obtain ⟨A1, eA1⟩ : ∃ X : ByteArray, ⟨(turnL 1 s.data.toList).toArray⟩ = X := ⟨_, rfl⟩
  obtain ⟨A2, eA2⟩ : ∃ X : ByteArray, ⟨(turnL 1 t.data.toList).toArray⟩ = X := ⟨_, rfl⟩
  have zA1 : A1.size ≤ 6000 := by rw [← eA1, size_of_list]; omega
  have zA2 : A2.size ≤ 6000 := by rw [← eA2, size_of_list]; omega
  rw [eA1, eA2] at bA hA3
  rw [eA1] at hA1
  rw [eA2] at hA2
  have tA := text_eq (A1 ++ A2)
  have yA : (9223372036854775807 < A1.size + A2.size) = False := eq_false (by omega)
  clear eA1 eA2 sA nA1 nA2
  have bT := coded_beq (f := turnL 2) (fun a b h => turn_inj 1 a b h) s t
  rw [hβ] at bT
  have sT := coded_sum (f := turnL 2) (fun a b => turnL_append 2 a b) s t
  have nT1 := turnL_len 2 s.data.toList
  have nT2 := turnL_len 2 t.data.toList
  rw [len_eq] at nT1 nT2
  have hT1 := fun W => fText_any s W (by omega)
  have hT2 := fun W => fText_any t W (by omega)
  have hT3 := fun W => fText_any (s ++ t) W (by omega)
  rw [sT] at hT3
  obtain ⟨T1, eT1⟩ : ∃ X : ByteArray, ⟨(turnL 2 s.data.toList).toArray⟩ = X := ⟨_, rfl⟩
  obtain ⟨T2, eT2⟩ : ∃ X : ByteArray, ⟨(turnL 2 t.data.toList).toArray⟩ = X := ⟨_, rfl⟩
  have zT1 : T1.size ≤ 6000 := by rw [← eT1, size_of_list]; omega
  have zT2 : T2.size ≤ 6000 := by rw [← eT2, size_of_list]; omega
  rw [eT1, eT2] at bT hT3
  rw [eT1] at hT1
  rw [eT2] at hT2
  have tT := text_eq (T1 ++ T2)
  have yT : (9223372036854775807 < T1.size + T2.size) = False := eq_false (by omega)
  clear eT1 eT2 sT nT1 nT2
  have bG := coded_beq (f := turnL 3) (fun a b h => turn_inj 2 a b h) s t
  rw [hβ] at bG
  have sG := coded_sum (f := turnL 3) (fun a b => turnL_append 3 a b) s t
  have nG1 := turnL_len 3 s.data.toList
  have nG2 := turnL_len 3 t.data.toList
  rw [len_eq] at nG1 nG2
  have hG1 := fun W => fPage_any s W (by omega)
  have hG2 := fun W => fPage_any t W (by omega)
  have hG3 := fun W => fPage_any (s ++ t) W (by omega)
  rw [sG] at hG3
  obtain ⟨G1, eG1⟩ : ∃ X : ByteArray, ⟨(turnL 3 s.data.toList).toArray⟩ = X := ⟨_, rfl⟩
  obtain ⟨G2, eG2⟩ : ∃ X : ByteArray, ⟨(turnL 3 t.data.toList).toArray⟩ = X := ⟨_, rfl⟩
  have zG1 : G1.size ≤ 6000 := by rw [← eG1, size_of_list]; omega
  have zG2 : G2.size ≤ 6000 := by rw [← eG2, size_of_list]; omega
  rw [eG1, eG2] at bG hG3
  rw [eG1] at hG1
  rw [eG2] at hG2
  have tG := text_eq (G1 ++ G2)
  have yG : (9223372036854775807 < G1.size + G2.size) = False := eq_false (by omega)
  clear eG1 eG2 sG nG1 nG2
  go_enter Tryd.func7, Tryd.ntmps7
  go_wp2_with fail
  refine (awakeE_any w hG).mono ?_
  rintro e w1 ⟨rfl, hb1⟩
  go_wp2_with fail
  refine (hP1 w1).mono ?_
  rintro e w2 ⟨rfl, hb2⟩
  go_wp2_with fail
  refine (hP2 w2).mono ?_
  rintro e w3 ⟨rfl, hb3⟩
  go_wp2_with fail
  refine (hA1 w3).mono ?_
  rintro e w4 ⟨rfl, hb4⟩
  go_wp2_with fail
  refine (hA2 w4).mono ?_
  rintro e w5 ⟨rfl, hb5⟩
  go_wp2_with fail
  refine (hT1 w5).mono ?_
  rintro e w6 ⟨rfl, hb6⟩
  go_wp2_with fail
  refine (hT2 w6).mono ?_
  rintro e w7 ⟨rfl, hb7⟩
  go_wp2_with fail
  refine (hG1 w7).mono ?_
  rintro e w8 ⟨rfl, hb8⟩
  go_wp2_with fail
  refine (hG2 w8).mono ?_
  rintro e w9 ⟨rfl, hb9⟩
  go_wp2_with fail
  refine (hP3 w9).mono ?_
  rintro e w10 ⟨rfl, hb10⟩
  go_wp2_with fail
  refine (hP1 w10).mono ?_
  rintro e w11 ⟨rfl, hb11⟩
  go_wp2_with fail
  refine (hP2 w11).mono ?_
  rintro e w12 ⟨rfl, hb12⟩
  go_wp2_with fail
  refine (hA3 w12).mono ?_
  rintro e w13 ⟨rfl, hb13⟩
  go_wp2_with fail
  refine (hA1 w13).mono ?_
  rintro e w14 ⟨rfl, hb14⟩
  go_wp2_with fail
  refine (hA2 w14).mono ?_
  rintro e w15 ⟨rfl, hb15⟩
  go_wp2_with fail
  refine (hT3 w15).mono ?_
  rintro e w16 ⟨rfl, hb16⟩
  go_wp2_with fail
  refine (hT1 w16).mono ?_
  rintro e w17 ⟨rfl, hb17⟩
  go_wp2_with fail
  refine (hT2 w17).mono ?_
  rintro e w18 ⟨rfl, hb18⟩
  go_wp2_with fail
  refine (hG3 w18).mono ?_
  rintro e w19 ⟨rfl, hb19⟩
  go_wp2_with fail
  refine (hG1 w19).mono ?_
  rintro e w20 ⟨rfl, hb20⟩
  go_wp2_with fail
  refine (hG2 w20).mono ?_
  rintro e w21 ⟨rfl, hb21⟩
  go_wp2_with fail
  go_ret
  exact ⟨rfl, below2 hb1 (below2 hb2 (below2 hb3 (below2 hb4 (below2 hb5 (below2 hb6 (below2 hb7 (below2 hb8 (below2 hb9 (below2 hb10 (below2 hb11 (below2 hb12 (below2 hb13 (below2 hb14 (below2 hb15 (below2 hb16 (below2 hb17 (below2 hb18 (below2 hb19 (below2 hb20 hb21)))))))))))))))))))⟩

set_option maxHeartbeats 400000 in
theorem lFApart_long (s t : ByteArray) (w : World) (hG : MaxLenIs w) (hs : s.size ≤ 9223372036854775807) (ht : t.size ≤ 9223372036854775807) (h : 1000 < s.size ∨ 1000 < t.size) :
    Calls Tryd.prog 7 #[.string s, .string t] w fun e w' => e = .returned (.bool true) ∧ Below w.heap.size w w' := by
  by_cases h1 : 1000 < s.size
  · go_enter Tryd.func7, Tryd.ntmps7
    go_wp2_with fail
    refine (awakeE_any w hG).mono ?_
    rintro e w1 ⟨rfl, hb1⟩
    go_wp2_with fail
    refine (awakeE_any w1 (hG.later hb1)).mono ?_
    rintro e w2 ⟨rfl, hb2⟩
    go_wp2_with fail
    go_ret
    exact ⟨rfl, below2 hb1 hb2⟩
  · have h2 : 1000 < t.size := by omega
    clear h
    go_enter Tryd.func7, Tryd.ntmps7
    go_wp2_with fail
    refine (awakeE_any w hG).mono ?_
    rintro e w1 ⟨rfl, hb1⟩
    go_wp2_with fail
    refine (awakeE_any w1 (hG.later hb1)).mono ?_
    rintro e w2 ⟨rfl, hb2⟩
    go_wp2_with fail
    go_ret
    exact ⟨rfl, below2 hb1 hb2⟩
theorem lFApart_all (s t : ByteArray) (w : World) (hG : MaxLenIs w) (hs : s.size ≤ 9223372036854775807) (ht : t.size ≤ 9223372036854775807) :
    Calls Tryd.prog 7 #[.string s, .string t] w fun e w' => e = .returned (.bool true) ∧ Below w.heap.size w w' := by
  by_cases h : s.size ≤ 1000 ∧ t.size ≤ 1000
  · exact lFApart_any s t w hG h.1 h.2
  · exact lFApart_long s t w hG hs ht (by omega)
end Go.Proofs.YtnkefpopkaagaaaDoor
