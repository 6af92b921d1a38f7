/-
  The statement on texts within attributes, elements and pages.
-/
import Derived.Test.YtnkefpopkaagaaaDoorELaw
namespace Go.Proofs.YtnkefpopkaagaaaDoor
open Go.RowKit Ch
set_option maxRecDepth 100000

/-- No byte of the text is barred. -/
theorem clean_at {A : ByteArray} {l : List UInt8} (h : ∀ x ∈ A.data.toList, x ∉ l) (i : Nat) (hi : i < A.size) (b : UInt8) (hb : b ∈ l) : (((A[i]'hi).toNat : Int) == (b.toNat : Int)) = false := by
  refine beq_eq_false_iff_ne.2 (fun e => ?_)
  have hm : A[i]'hi ∈ A.data.toList := List.mem_of_getElem? (list_at A i hi)
  have : A[i]'hi = b := UInt8.toNat_inj.1 (by omega)
  rw [this] at hm
  exact h b hm hb
theorem turnL_len (how : Nat) (l : List UInt8) : (turnL how l).length ≤ 6 * l.length := by
  induction l with
  | nil => exact Nat.le_refl _
  | cons c r ih =>
    have : (turn8 how c).length ≤ 6 := by unfold turn8; repeat' split
                                          all_goals simp
    rw [turnL_cons, List.length_append, List.length_cons]
    omega

set_option maxHeartbeats 4000000 in
theorem lTurns_any (s : ByteArray) (w : World) (hG : MaxLenIs w) (hs : s.size ≤ 9223372036854775807) :
    Calls Tryd.prog 6 #[.string s] w fun e w' => e = .returned (.bool true) ∧ Below w.heap.size w w' := by
  by_cases h : s.size ≤ 2000
  · have h1 := fun W => fAttr_any s W (by omega)
    have h2 := fun W => fText_any s W (by omega)
    have h3 := fun W => fPage_any s W (by omega)
    have k1 := fun W => sTurned_1 s W (by omega)
    have k2 := fun W => sTurned_2 s W (by omega)
    have k3 := fun W => sTurned_3 s W (by omega)
    obtain ⟨A, hA⟩ : ∃ A : ByteArray, ⟨(turnL 1 s.data.toList).toArray⟩ = A := ⟨_, rfl⟩
    have zA : A.size ≤ 12000 := by have := turnL_len 1 s.data.toList; rw [len_eq] at this; rw [← hA, size_of_list]; omega
    have cA : Hid (∀ x ∈ A.data.toList, x ∉ barred 0) := by rw [← hA]; exact turn_clean 0 s.data.toList
    rw [hA] at h1 k1
    have tA := text_eq A
    clear hA
    obtain ⟨B, hB⟩ : ∃ B : ByteArray, ⟨(turnL 2 s.data.toList).toArray⟩ = B := ⟨_, rfl⟩
    have zB : B.size ≤ 12000 := by have := turnL_len 2 s.data.toList; rw [len_eq] at this; rw [← hB, size_of_list]; omega
    have cB : Hid (∀ x ∈ B.data.toList, x ∉ barred 1) := by rw [← hB]; exact turn_clean 1 s.data.toList
    rw [hB] at h2 k2
    have tB := text_eq B
    clear hB
    obtain ⟨C, hC⟩ : ∃ C : ByteArray, ⟨(turnL 3 s.data.toList).toArray⟩ = C := ⟨_, rfl⟩
    have zC : C.size ≤ 12000 := by have := turnL_len 3 s.data.toList; rw [len_eq] at this; rw [← hC, size_of_list]; omega
    have cC : Hid (∀ x ∈ C.data.toList, x ∉ barred 2) := by rw [← hC]; exact turn_clean 2 s.data.toList
    rw [hC] at h3 k3
    have tC := text_eq C
    clear hC
    go_enter Tryd.func6, Tryd.ntmps6
    go_wp2_with fail
    refine (awakeE_any w hG).mono ?_
    rintro e w1 ⟨rfl, hb1⟩
    go_wp2_with fail
    refine (h1 w1).mono ?_
    rintro e w2 ⟨rfl, hb2⟩
    go_wp2_with fail
    refine (h2 w2).mono ?_
    rintro e w3 ⟨rfl, hb3⟩
    go_wp2_with fail
    refine (h3 w3).mono ?_
    rintro e w4 ⟨rfl, hb4⟩
    go_wp2_with fail
    refine (k1 w4).mono ?_
    rintro e w5 ⟨rfl, hb5⟩
    go_wp2_with fail
    refine (k2 w5).mono ?_
    rintro e w6 ⟨rfl, hb6⟩
    go_wp2_with fail
    refine (k3 w6).mono ?_
    rintro e w7 ⟨rfl, hb7⟩
    have hB := below3 hb1 hb2 (below3 hb3 hb4 (below3 hb5 hb6 hb7))
    clear hb1 hb2 hb3 hb4 hb5 hb6 hb7 h1 h2 h3 k1 k2 k3 tA tB tC
    go_wp2_with fail
    go_loop [6] (fun t => ∃ i : Nat, t = .int .i64 (i : Int) ∧ i ≤ A.size) (fun t => A.size - (intOf t).toNat)
    case atStart => exact ⟨0, rfl, Nat.zero_le _⟩
    case round =>
      obtain ⟨i, rfl, hi⟩ := hrel
      by_cases hlt : i < A.size
      · have e60 : (((A[i]'hlt).toNat : Int) == 60) = false := clean_at cA.out i hlt 60 (by decide)
        have e34 : (((A[i]'hlt).toNat : Int) == 34) = false := clean_at cA.out i hlt 34 (by decide)
        have e10 : (((A[i]'hlt).toNat : Int) == 10) = false := clean_at cA.out i hlt 10 (by decide)
        go_wp2_with fail
        go_round
        case rel => exact ⟨i + 1, by go_num, by omega⟩
        case measure => simp [intOf]; omega
      · go_wp2_with fail
        go_loop [7] (fun t => ∃ i : Nat, t = .int .i64 (i : Int) ∧ i ≤ B.size) (fun t => B.size - (intOf t).toNat)
        case atStart => exact ⟨0, rfl, Nat.zero_le _⟩
        case round =>
          obtain ⟨i, rfl, hi⟩ := hrel
          by_cases hlt : i < B.size
          · have e60 : (((B[i]'hlt).toNat : Int) == 60) = false := clean_at cB.out i hlt 60 (by decide)
            have e62 : (((B[i]'hlt).toNat : Int) == 62) = false := clean_at cB.out i hlt 62 (by decide)
            have e13 : (((B[i]'hlt).toNat : Int) == 13) = false := clean_at cB.out i hlt 13 (by decide)
            go_wp2_with fail
            go_round
            case rel => exact ⟨i + 1, by go_num, by omega⟩
            case measure => simp [intOf]; omega
          · go_wp2_with fail
            go_loop [8] (fun t => ∃ i : Nat, t = .int .i64 (i : Int) ∧ i ≤ C.size) (fun t => C.size - (intOf t).toNat)
            case atStart => exact ⟨0, rfl, Nat.zero_le _⟩
            case round =>
              obtain ⟨i, rfl, hi⟩ := hrel
              by_cases hlt : i < C.size
              · have e60 : (((C[i]'hlt).toNat : Int) == 60) = false := clean_at cC.out i hlt 60 (by decide)
                have e62 : (((C[i]'hlt).toNat : Int) == 62) = false := clean_at cC.out i hlt 62 (by decide)
                have e34 : (((C[i]'hlt).toNat : Int) == 34) = false := clean_at cC.out i hlt 34 (by decide)
                have e39 : (((C[i]'hlt).toNat : Int) == 39) = false := clean_at cC.out i hlt 39 (by decide)
                go_wp2_with fail
                go_round
                case rel => exact ⟨i + 1, by go_num, by omega⟩
                case measure => simp [intOf]; omega
              · go_wp2_with fail
                go_ret
                exact ⟨rfl, hB⟩
  · go_enter Tryd.func6, Tryd.ntmps6
    go_wp2_with fail
    refine (awakeE_any w hG).mono ?_
    rintro e w1 ⟨rfl, hb1⟩
    go_wp2_with fail
    refine (awakeE_any w1 (hG.later hb1)).mono ?_
    rintro e w2 ⟨rfl, hb2⟩
    go_wp2_with fail
    go_ret
    exact ⟨rfl, below2 hb1 hb2⟩
end Go.Proofs.YtnkefpopkaagaaaDoor
