/-
  Layer 3's reference: texts within attributes, elements and pages.
-/
import Derived.Test.YtnkefpopkaagaaaDoorGen2
namespace Go.Proofs.YtnkefpopkaagaaaDoor
open Go.RowKit Ch
set_option maxRecDepth 100000

/-- What stands for a byte: 1 within an attribute, 2 within an element, 3 within a page. -/
def turn8 (how : Nat) (c : UInt8) : List UInt8 :=
  if c = 38 then [38, 97, 109, 112, 59] else if c = 60 then [38, 108, 116, 59] else if c = 62 ∧ 1 < how then [38, 103, 116, 59] else if c = 34 ∧ how ≠ 2 then [38, 113, 117, 111, 116, 59]
  else if c = 39 ∧ how = 3 then [38, 35, 51, 57, 59] else if c = 13 ∧ how < 3 then [38, 35, 120, 68, 59] else if c = 9 ∧ how = 1 then [38, 35, 120, 57, 59] else if c = 10 ∧ how = 1 then [38, 35, 120, 65, 59] else [c]
def turnL (how : Nat) (l : List UInt8) : List UInt8 := l.flatMap (turn8 how)
theorem turnL_cons (how : Nat) (c : UInt8) (l : List UInt8) : turnL how (c :: l) = turn8 how c ++ turnL how l := by simp [turnL]
theorem cat_text (A B : ByteArray) : (A ++ B).data.toList = A.data.toList ++ B.data.toList := by simp
theorem one_convert (w : World) (c : UInt8) : (convert 49 9 (.slice (some ⟨w.heap.size, 0, none⟩) 1 1)).run Tryd.prog (w.alloc (.cells #[.int .u8 (c.toNat : Int)] 5)) = .ok (.string ⟨#[c]⟩) (w.alloc (.cells #[.int .u8 (c.toNat : Int)] 5)) := by
  have h : IsBytes (w.alloc (.cells #[.int .u8 (c.toNat : Int)] 5)) (.slice (some ⟨w.heap.size, 0, none⟩) 1 1) ⟨#[c]⟩ := by
    refine ⟨_, _, rfl, Nat.le_refl _, by unfold maxLen; omega, .inr ⟨_, rfl, .inr ⟨w.heap.size, 0, rfl, by simp, ?_⟩⟩⟩
    intro i hi
    have : i = 0 := by
      have hs : (⟨#[c]⟩ : ByteArray).size = 1 := rfl
      omega
    subst this
    exact (cell_of_block (heap_push_at w (.cells #[.int .u8 (c.toNat : Int)] 5))).1
  exact h.convert
theorem ret_str {a b : ByteArray} (h : a = b) : Ending.returned (.string a) = .returned (.string b) := by rw [h]

set_option maxHeartbeats 4000000 in
theorem sTurned_1 (s : ByteArray) (w : World) (hs : s.size ≤ 1000000) :
    Calls Tryd.prog 23 #[.string s, .int .i64 1] w fun e w' => e = .returned (.string ⟨(turnL 1 s.data.toList).toArray⟩) ∧ Below w.heap.size w w' := by
  go_enter Tryd.func23, Tryd.ntmps23
  go_wp2_with fail
  go_loopw [5, 6] (fun o t wr => ∃ (i : Nat) (A : ByteArray), o = .string A ∧ t = .int .i64 (i : Int) ∧ i ≤ s.size ∧ Below w.heap.size w wr ∧ w.heap.size ≤ wr.heap.size ∧ A.size ≤ 6 * i ∧ Hid (A.data.toList ++ turnL 1 (s.data.toList.drop i) = turnL 1 s.data.toList)) (fun _ t _ => s.size - (intOf t).toNat)
  case atStart => exact ⟨0, ⟨#[]⟩, rfl, rfl, Nat.zero_le _, Below.refl _ _, Nat.le_refl _, Nat.le_refl _, rfl⟩
  case round =>
    obtain ⟨i, A, rfl, rfl, hi, hbw, hsz, hA, hacc⟩ := hrel
    by_cases hlt : i < s.size
    · obtain ⟨c, hc, hdr, hcc⟩ := byte_at8 s i hlt
      have hcv := one_convert wr c
      have hb2 := hbw.alloc hsz (.cells #[.int .u8 (c.toNat : Int)] 5)
      have hst : ∀ T : ByteArray, T.data.toList = turn8 1 c → Hid ((A ++ T).data.toList ++ turnL 1 (s.data.toList.drop (i + 1)) = turnL 1 s.data.toList) := fun T hT => by
        have := hacc.out
        rw [hdr, turnL_cons] at this
        unfold Hid
        rw [cat_text, hT, List.append_assoc]
        exact this
      have hne : ∀ k : UInt8, c ≠ k → ((c.toNat : Int) == (k.toNat : Int)) = false := fun k h => beq_eq_false_iff_ne.2 (fun e => h (UInt8.toNat_inj.1 (by omega)))
      have heq : ∀ k : UInt8, c = k → ((c.toNat : Int) == (k.toNat : Int)) = true := fun k h => by rw [h]; exact beq_self_eq_true _
      clear hacc hdr hc
      by_cases h38 : c = 38
      · have hW := hst ⟨#[38, 97, 109, 112, 59]⟩ (by rw [h38]; rfl)
        have e38 : ((c.toNat : Int) == 38) = true := heq 38 h38
        have e60 : ((c.toNat : Int) == 60) = false := hne 60 (by rw [h38]; decide)
        have e62 : ((c.toNat : Int) == 62) = false := hne 62 (by rw [h38]; decide)
        have e34 : ((c.toNat : Int) == 34) = false := hne 34 (by rw [h38]; decide)
        have e39 : ((c.toNat : Int) == 39) = false := hne 39 (by rw [h38]; decide)
        have e13 : ((c.toNat : Int) == 13) = false := hne 13 (by rw [h38]; decide)
        have e9 : ((c.toNat : Int) == 9) = false := hne 9 (by rw [h38]; decide)
        have e10 : ((c.toNat : Int) == 10) = false := hne 10 (by rw [h38]; decide)
        clear hst hne heq
        clear h38
        have hzT : (A ++ (⟨#[38, 97, 109, 112, 59]⟩ : ByteArray)).size = A.size + 5 := by rw [ByteArray.size_append]; rfl
        go_wp2_with fail
        go_roundw
        case rel => exact ⟨i + 1, A ++ ⟨#[38, 97, 109, 112, 59]⟩, rfl, by go_num, by omega, hb2, by simp; omega, by omega, hW⟩
        case measure => simp [intOf]; omega
      by_cases h60 : c = 60
      · have hW := hst ⟨#[38, 108, 116, 59]⟩ (by rw [h60]; rfl)
        have e38 : ((c.toNat : Int) == 38) = false := hne 38 (by rw [h60]; decide)
        have e60 : ((c.toNat : Int) == 60) = true := heq 60 h60
        have e62 : ((c.toNat : Int) == 62) = false := hne 62 (by rw [h60]; decide)
        have e34 : ((c.toNat : Int) == 34) = false := hne 34 (by rw [h60]; decide)
        have e39 : ((c.toNat : Int) == 39) = false := hne 39 (by rw [h60]; decide)
        have e13 : ((c.toNat : Int) == 13) = false := hne 13 (by rw [h60]; decide)
        have e9 : ((c.toNat : Int) == 9) = false := hne 9 (by rw [h60]; decide)
        have e10 : ((c.toNat : Int) == 10) = false := hne 10 (by rw [h60]; decide)
        clear hst hne heq
        clear h60
        have hzT : (A ++ (⟨#[38, 108, 116, 59]⟩ : ByteArray)).size = A.size + 4 := by rw [ByteArray.size_append]; rfl
        go_wp2_with fail
        go_roundw
        case rel => exact ⟨i + 1, A ++ ⟨#[38, 108, 116, 59]⟩, rfl, by go_num, by omega, hb2, by simp; omega, by omega, hW⟩
        case measure => simp [intOf]; omega
      by_cases h62 : c = 62
      · have hW := hst ⟨#[c]⟩ (by rw [h62]; rfl)
        have e38 : ((c.toNat : Int) == 38) = false := hne 38 (by rw [h62]; decide)
        have e60 : ((c.toNat : Int) == 60) = false := hne 60 (by rw [h62]; decide)
        have e62 : ((c.toNat : Int) == 62) = true := heq 62 h62
        have e34 : ((c.toNat : Int) == 34) = false := hne 34 (by rw [h62]; decide)
        have e39 : ((c.toNat : Int) == 39) = false := hne 39 (by rw [h62]; decide)
        have e13 : ((c.toNat : Int) == 13) = false := hne 13 (by rw [h62]; decide)
        have e9 : ((c.toNat : Int) == 9) = false := hne 9 (by rw [h62]; decide)
        have e10 : ((c.toNat : Int) == 10) = false := hne 10 (by rw [h62]; decide)
        clear hst hne heq
        clear h62
        have hzT : (A ++ (⟨#[c]⟩ : ByteArray)).size = A.size + 1 := by rw [ByteArray.size_append]; rfl
        go_wp2_with fail
        go_roundw
        case rel => exact ⟨i + 1, A ++ ⟨#[c]⟩, rfl, by go_num, by omega, hb2, by simp; omega, by omega, hW⟩
        case measure => simp [intOf]; omega
      by_cases h34 : c = 34
      · have hW := hst ⟨#[38, 113, 117, 111, 116, 59]⟩ (by rw [h34]; rfl)
        have e38 : ((c.toNat : Int) == 38) = false := hne 38 (by rw [h34]; decide)
        have e60 : ((c.toNat : Int) == 60) = false := hne 60 (by rw [h34]; decide)
        have e62 : ((c.toNat : Int) == 62) = false := hne 62 (by rw [h34]; decide)
        have e34 : ((c.toNat : Int) == 34) = true := heq 34 h34
        have e39 : ((c.toNat : Int) == 39) = false := hne 39 (by rw [h34]; decide)
        have e13 : ((c.toNat : Int) == 13) = false := hne 13 (by rw [h34]; decide)
        have e9 : ((c.toNat : Int) == 9) = false := hne 9 (by rw [h34]; decide)
        have e10 : ((c.toNat : Int) == 10) = false := hne 10 (by rw [h34]; decide)
        clear hst hne heq
        clear h34
        have hzT : (A ++ (⟨#[38, 113, 117, 111, 116, 59]⟩ : ByteArray)).size = A.size + 6 := by rw [ByteArray.size_append]; rfl
        go_wp2_with fail
        go_roundw
        case rel => exact ⟨i + 1, A ++ ⟨#[38, 113, 117, 111, 116, 59]⟩, rfl, by go_num, by omega, hb2, by simp; omega, by omega, hW⟩
        case measure => simp [intOf]; omega
      by_cases h39 : c = 39
      · have hW := hst ⟨#[c]⟩ (by rw [h39]; rfl)
        have e38 : ((c.toNat : Int) == 38) = false := hne 38 (by rw [h39]; decide)
        have e60 : ((c.toNat : Int) == 60) = false := hne 60 (by rw [h39]; decide)
        have e62 : ((c.toNat : Int) == 62) = false := hne 62 (by rw [h39]; decide)
        have e34 : ((c.toNat : Int) == 34) = false := hne 34 (by rw [h39]; decide)
        have e39 : ((c.toNat : Int) == 39) = true := heq 39 h39
        have e13 : ((c.toNat : Int) == 13) = false := hne 13 (by rw [h39]; decide)
        have e9 : ((c.toNat : Int) == 9) = false := hne 9 (by rw [h39]; decide)
        have e10 : ((c.toNat : Int) == 10) = false := hne 10 (by rw [h39]; decide)
        clear hst hne heq
        clear h39
        have hzT : (A ++ (⟨#[c]⟩ : ByteArray)).size = A.size + 1 := by rw [ByteArray.size_append]; rfl
        go_wp2_with fail
        go_roundw
        case rel => exact ⟨i + 1, A ++ ⟨#[c]⟩, rfl, by go_num, by omega, hb2, by simp; omega, by omega, hW⟩
        case measure => simp [intOf]; omega
      by_cases h13 : c = 13
      · have hW := hst ⟨#[38, 35, 120, 68, 59]⟩ (by rw [h13]; rfl)
        have e38 : ((c.toNat : Int) == 38) = false := hne 38 (by rw [h13]; decide)
        have e60 : ((c.toNat : Int) == 60) = false := hne 60 (by rw [h13]; decide)
        have e62 : ((c.toNat : Int) == 62) = false := hne 62 (by rw [h13]; decide)
        have e34 : ((c.toNat : Int) == 34) = false := hne 34 (by rw [h13]; decide)
        have e39 : ((c.toNat : Int) == 39) = false := hne 39 (by rw [h13]; decide)
        have e13 : ((c.toNat : Int) == 13) = true := heq 13 h13
        have e9 : ((c.toNat : Int) == 9) = false := hne 9 (by rw [h13]; decide)
        have e10 : ((c.toNat : Int) == 10) = false := hne 10 (by rw [h13]; decide)
        clear hst hne heq
        clear h13
        have hzT : (A ++ (⟨#[38, 35, 120, 68, 59]⟩ : ByteArray)).size = A.size + 5 := by rw [ByteArray.size_append]; rfl
        go_wp2_with fail
        go_roundw
        case rel => exact ⟨i + 1, A ++ ⟨#[38, 35, 120, 68, 59]⟩, rfl, by go_num, by omega, hb2, by simp; omega, by omega, hW⟩
        case measure => simp [intOf]; omega
      by_cases h9 : c = 9
      · have hW := hst ⟨#[38, 35, 120, 57, 59]⟩ (by rw [h9]; rfl)
        have e38 : ((c.toNat : Int) == 38) = false := hne 38 (by rw [h9]; decide)
        have e60 : ((c.toNat : Int) == 60) = false := hne 60 (by rw [h9]; decide)
        have e62 : ((c.toNat : Int) == 62) = false := hne 62 (by rw [h9]; decide)
        have e34 : ((c.toNat : Int) == 34) = false := hne 34 (by rw [h9]; decide)
        have e39 : ((c.toNat : Int) == 39) = false := hne 39 (by rw [h9]; decide)
        have e13 : ((c.toNat : Int) == 13) = false := hne 13 (by rw [h9]; decide)
        have e9 : ((c.toNat : Int) == 9) = true := heq 9 h9
        have e10 : ((c.toNat : Int) == 10) = false := hne 10 (by rw [h9]; decide)
        clear hst hne heq
        clear h9
        have hzT : (A ++ (⟨#[38, 35, 120, 57, 59]⟩ : ByteArray)).size = A.size + 5 := by rw [ByteArray.size_append]; rfl
        go_wp2_with fail
        go_roundw
        case rel => exact ⟨i + 1, A ++ ⟨#[38, 35, 120, 57, 59]⟩, rfl, by go_num, by omega, hb2, by simp; omega, by omega, hW⟩
        case measure => simp [intOf]; omega
      by_cases h10 : c = 10
      · have hW := hst ⟨#[38, 35, 120, 65, 59]⟩ (by rw [h10]; rfl)
        have e38 : ((c.toNat : Int) == 38) = false := hne 38 (by rw [h10]; decide)
        have e60 : ((c.toNat : Int) == 60) = false := hne 60 (by rw [h10]; decide)
        have e62 : ((c.toNat : Int) == 62) = false := hne 62 (by rw [h10]; decide)
        have e34 : ((c.toNat : Int) == 34) = false := hne 34 (by rw [h10]; decide)
        have e39 : ((c.toNat : Int) == 39) = false := hne 39 (by rw [h10]; decide)
        have e13 : ((c.toNat : Int) == 13) = false := hne 13 (by rw [h10]; decide)
        have e9 : ((c.toNat : Int) == 9) = false := hne 9 (by rw [h10]; decide)
        have e10 : ((c.toNat : Int) == 10) = true := heq 10 h10
        clear hst hne heq
        clear h10
        have hzT : (A ++ (⟨#[38, 35, 120, 65, 59]⟩ : ByteArray)).size = A.size + 5 := by rw [ByteArray.size_append]; rfl
        go_wp2_with fail
        go_roundw
        case rel => exact ⟨i + 1, A ++ ⟨#[38, 35, 120, 65, 59]⟩, rfl, by go_num, by omega, hb2, by simp; omega, by omega, hW⟩
        case measure => simp [intOf]; omega
      have hT : turn8 1 c = [c] := by unfold turn8; rw [if_neg (by simp [h38]), if_neg (by simp [h60]), if_neg (by simp [h62]), if_neg (by simp [h34]), if_neg (by simp [h39]), if_neg (by simp [h13]), if_neg (by simp [h9]), if_neg (by simp [h10])]
      have hW := hst ⟨#[c]⟩ hT.symm
      have e38 : ((c.toNat : Int) == 38) = false := hne 38 h38
      have e60 : ((c.toNat : Int) == 60) = false := hne 60 h60
      have e62 : ((c.toNat : Int) == 62) = false := hne 62 h62
      have e34 : ((c.toNat : Int) == 34) = false := hne 34 h34
      have e39 : ((c.toNat : Int) == 39) = false := hne 39 h39
      have e13 : ((c.toNat : Int) == 13) = false := hne 13 h13
      have e9 : ((c.toNat : Int) == 9) = false := hne 9 h9
      have e10 : ((c.toNat : Int) == 10) = false := hne 10 h10
      clear hst hne heq hT h38 h60 h62 h34 h39 h13 h9 h10
      have hzT : (A ++ (⟨#[c]⟩ : ByteArray)).size = A.size + 1 := by rw [ByteArray.size_append]; rfl
      go_wp2_with fail
      go_roundw
      case rel => exact ⟨i + 1, A ++ ⟨#[c]⟩, rfl, by go_num, by omega, hb2, by simp; omega, by omega, hW⟩
      case measure => simp [intOf]; omega
    · have hW : Hid (A = ⟨(turnL 1 s.data.toList).toArray⟩) := by
        have := hacc.out
        rw [List.drop_of_length_le (by rw [len_eq]; omega)] at this
        have e0 : turnL 1 [] = [] := rfl
        rw [e0, List.append_nil] at this
        exact ByteArray.ext (Array.toList_inj.1 this)
      clear hacc
      go_wp2_with fail
      go_ret
      exact ⟨ret_str hW.out, hbw⟩
set_option maxHeartbeats 4000000 in
theorem sTurned_2 (s : ByteArray) (w : World) (hs : s.size ≤ 1000000) :
    Calls Tryd.prog 23 #[.string s, .int .i64 2] w fun e w' => e = .returned (.string ⟨(turnL 2 s.data.toList).toArray⟩) ∧ Below w.heap.size w w' := by
  go_enter Tryd.func23, Tryd.ntmps23
  go_wp2_with fail
  go_loopw [5, 6] (fun o t wr => ∃ (i : Nat) (A : ByteArray), o = .string A ∧ t = .int .i64 (i : Int) ∧ i ≤ s.size ∧ Below w.heap.size w wr ∧ w.heap.size ≤ wr.heap.size ∧ A.size ≤ 6 * i ∧ Hid (A.data.toList ++ turnL 2 (s.data.toList.drop i) = turnL 2 s.data.toList)) (fun _ t _ => s.size - (intOf t).toNat)
  case atStart => exact ⟨0, ⟨#[]⟩, rfl, rfl, Nat.zero_le _, Below.refl _ _, Nat.le_refl _, Nat.le_refl _, rfl⟩
  case round =>
    obtain ⟨i, A, rfl, rfl, hi, hbw, hsz, hA, hacc⟩ := hrel
    by_cases hlt : i < s.size
    · obtain ⟨c, hc, hdr, hcc⟩ := byte_at8 s i hlt
      have hcv := one_convert wr c
      have hb2 := hbw.alloc hsz (.cells #[.int .u8 (c.toNat : Int)] 5)
      have hst : ∀ T : ByteArray, T.data.toList = turn8 2 c → Hid ((A ++ T).data.toList ++ turnL 2 (s.data.toList.drop (i + 1)) = turnL 2 s.data.toList) := fun T hT => by
        have := hacc.out
        rw [hdr, turnL_cons] at this
        unfold Hid
        rw [cat_text, hT, List.append_assoc]
        exact this
      have hne : ∀ k : UInt8, c ≠ k → ((c.toNat : Int) == (k.toNat : Int)) = false := fun k h => beq_eq_false_iff_ne.2 (fun e => h (UInt8.toNat_inj.1 (by omega)))
      have heq : ∀ k : UInt8, c = k → ((c.toNat : Int) == (k.toNat : Int)) = true := fun k h => by rw [h]; exact beq_self_eq_true _
      clear hacc hdr hc
      by_cases h38 : c = 38
      · have hW := hst ⟨#[38, 97, 109, 112, 59]⟩ (by rw [h38]; rfl)
        have e38 : ((c.toNat : Int) == 38) = true := heq 38 h38
        have e60 : ((c.toNat : Int) == 60) = false := hne 60 (by rw [h38]; decide)
        have e62 : ((c.toNat : Int) == 62) = false := hne 62 (by rw [h38]; decide)
        have e34 : ((c.toNat : Int) == 34) = false := hne 34 (by rw [h38]; decide)
        have e39 : ((c.toNat : Int) == 39) = false := hne 39 (by rw [h38]; decide)
        have e13 : ((c.toNat : Int) == 13) = false := hne 13 (by rw [h38]; decide)
        have e9 : ((c.toNat : Int) == 9) = false := hne 9 (by rw [h38]; decide)
        have e10 : ((c.toNat : Int) == 10) = false := hne 10 (by rw [h38]; decide)
        clear hst hne heq
        clear h38
        have hzT : (A ++ (⟨#[38, 97, 109, 112, 59]⟩ : ByteArray)).size = A.size + 5 := by rw [ByteArray.size_append]; rfl
        go_wp2_with fail
        go_roundw
        case rel => exact ⟨i + 1, A ++ ⟨#[38, 97, 109, 112, 59]⟩, rfl, by go_num, by omega, hb2, by simp; omega, by omega, hW⟩
        case measure => simp [intOf]; omega
      by_cases h60 : c = 60
      · have hW := hst ⟨#[38, 108, 116, 59]⟩ (by rw [h60]; rfl)
        have e38 : ((c.toNat : Int) == 38) = false := hne 38 (by rw [h60]; decide)
        have e60 : ((c.toNat : Int) == 60) = true := heq 60 h60
        have e62 : ((c.toNat : Int) == 62) = false := hne 62 (by rw [h60]; decide)
        have e34 : ((c.toNat : Int) == 34) = false := hne 34 (by rw [h60]; decide)
        have e39 : ((c.toNat : Int) == 39) = false := hne 39 (by rw [h60]; decide)
        have e13 : ((c.toNat : Int) == 13) = false := hne 13 (by rw [h60]; decide)
        have e9 : ((c.toNat : Int) == 9) = false := hne 9 (by rw [h60]; decide)
        have e10 : ((c.toNat : Int) == 10) = false := hne 10 (by rw [h60]; decide)
        clear hst hne heq
        clear h60
        have hzT : (A ++ (⟨#[38, 108, 116, 59]⟩ : ByteArray)).size = A.size + 4 := by rw [ByteArray.size_append]; rfl
        go_wp2_with fail
        go_roundw
        case rel => exact ⟨i + 1, A ++ ⟨#[38, 108, 116, 59]⟩, rfl, by go_num, by omega, hb2, by simp; omega, by omega, hW⟩
        case measure => simp [intOf]; omega
      by_cases h62 : c = 62
      · have hW := hst ⟨#[38, 103, 116, 59]⟩ (by rw [h62]; rfl)
        have e38 : ((c.toNat : Int) == 38) = false := hne 38 (by rw [h62]; decide)
        have e60 : ((c.toNat : Int) == 60) = false := hne 60 (by rw [h62]; decide)
        have e62 : ((c.toNat : Int) == 62) = true := heq 62 h62
        have e34 : ((c.toNat : Int) == 34) = false := hne 34 (by rw [h62]; decide)
        have e39 : ((c.toNat : Int) == 39) = false := hne 39 (by rw [h62]; decide)
        have e13 : ((c.toNat : Int) == 13) = false := hne 13 (by rw [h62]; decide)
        have e9 : ((c.toNat : Int) == 9) = false := hne 9 (by rw [h62]; decide)
        have e10 : ((c.toNat : Int) == 10) = false := hne 10 (by rw [h62]; decide)
        clear hst hne heq
        clear h62
        have hzT : (A ++ (⟨#[38, 103, 116, 59]⟩ : ByteArray)).size = A.size + 4 := by rw [ByteArray.size_append]; rfl
        go_wp2_with fail
        go_roundw
        case rel => exact ⟨i + 1, A ++ ⟨#[38, 103, 116, 59]⟩, rfl, by go_num, by omega, hb2, by simp; omega, by omega, hW⟩
        case measure => simp [intOf]; omega
      by_cases h34 : c = 34
      · have hW := hst ⟨#[c]⟩ (by rw [h34]; rfl)
        have e38 : ((c.toNat : Int) == 38) = false := hne 38 (by rw [h34]; decide)
        have e60 : ((c.toNat : Int) == 60) = false := hne 60 (by rw [h34]; decide)
        have e62 : ((c.toNat : Int) == 62) = false := hne 62 (by rw [h34]; decide)
        have e34 : ((c.toNat : Int) == 34) = true := heq 34 h34
        have e39 : ((c.toNat : Int) == 39) = false := hne 39 (by rw [h34]; decide)
        have e13 : ((c.toNat : Int) == 13) = false := hne 13 (by rw [h34]; decide)
        have e9 : ((c.toNat : Int) == 9) = false := hne 9 (by rw [h34]; decide)
        have e10 : ((c.toNat : Int) == 10) = false := hne 10 (by rw [h34]; decide)
        clear hst hne heq
        clear h34
        have hzT : (A ++ (⟨#[c]⟩ : ByteArray)).size = A.size + 1 := by rw [ByteArray.size_append]; rfl
        go_wp2_with fail
        go_roundw
        case rel => exact ⟨i + 1, A ++ ⟨#[c]⟩, rfl, by go_num, by omega, hb2, by simp; omega, by omega, hW⟩
        case measure => simp [intOf]; omega
      by_cases h39 : c = 39
      · have hW := hst ⟨#[c]⟩ (by rw [h39]; rfl)
        have e38 : ((c.toNat : Int) == 38) = false := hne 38 (by rw [h39]; decide)
        have e60 : ((c.toNat : Int) == 60) = false := hne 60 (by rw [h39]; decide)
        have e62 : ((c.toNat : Int) == 62) = false := hne 62 (by rw [h39]; decide)
        have e34 : ((c.toNat : Int) == 34) = false := hne 34 (by rw [h39]; decide)
        have e39 : ((c.toNat : Int) == 39) = true := heq 39 h39
        have e13 : ((c.toNat : Int) == 13) = false := hne 13 (by rw [h39]; decide)
        have e9 : ((c.toNat : Int) == 9) = false := hne 9 (by rw [h39]; decide)
        have e10 : ((c.toNat : Int) == 10) = false := hne 10 (by rw [h39]; decide)
        clear hst hne heq
        clear h39
        have hzT : (A ++ (⟨#[c]⟩ : ByteArray)).size = A.size + 1 := by rw [ByteArray.size_append]; rfl
        go_wp2_with fail
        go_roundw
        case rel => exact ⟨i + 1, A ++ ⟨#[c]⟩, rfl, by go_num, by omega, hb2, by simp; omega, by omega, hW⟩
        case measure => simp [intOf]; omega
      by_cases h13 : c = 13
      · have hW := hst ⟨#[38, 35, 120, 68, 59]⟩ (by rw [h13]; rfl)
        have e38 : ((c.toNat : Int) == 38) = false := hne 38 (by rw [h13]; decide)
        have e60 : ((c.toNat : Int) == 60) = false := hne 60 (by rw [h13]; decide)
        have e62 : ((c.toNat : Int) == 62) = false := hne 62 (by rw [h13]; decide)
        have e34 : ((c.toNat : Int) == 34) = false := hne 34 (by rw [h13]; decide)
        have e39 : ((c.toNat : Int) == 39) = false := hne 39 (by rw [h13]; decide)
        have e13 : ((c.toNat : Int) == 13) = true := heq 13 h13
        have e9 : ((c.toNat : Int) == 9) = false := hne 9 (by rw [h13]; decide)
        have e10 : ((c.toNat : Int) == 10) = false := hne 10 (by rw [h13]; decide)
        clear hst hne heq
        clear h13
        have hzT : (A ++ (⟨#[38, 35, 120, 68, 59]⟩ : ByteArray)).size = A.size + 5 := by rw [ByteArray.size_append]; rfl
        go_wp2_with fail
        go_roundw
        case rel => exact ⟨i + 1, A ++ ⟨#[38, 35, 120, 68, 59]⟩, rfl, by go_num, by omega, hb2, by simp; omega, by omega, hW⟩
        case measure => simp [intOf]; omega
      by_cases h9 : c = 9
      · have hW := hst ⟨#[c]⟩ (by rw [h9]; rfl)
        have e38 : ((c.toNat : Int) == 38) = false := hne 38 (by rw [h9]; decide)
        have e60 : ((c.toNat : Int) == 60) = false := hne 60 (by rw [h9]; decide)
        have e62 : ((c.toNat : Int) == 62) = false := hne 62 (by rw [h9]; decide)
        have e34 : ((c.toNat : Int) == 34) = false := hne 34 (by rw [h9]; decide)
        have e39 : ((c.toNat : Int) == 39) = false := hne 39 (by rw [h9]; decide)
        have e13 : ((c.toNat : Int) == 13) = false := hne 13 (by rw [h9]; decide)
        have e9 : ((c.toNat : Int) == 9) = true := heq 9 h9
        have e10 : ((c.toNat : Int) == 10) = false := hne 10 (by rw [h9]; decide)
        clear hst hne heq
        clear h9
        have hzT : (A ++ (⟨#[c]⟩ : ByteArray)).size = A.size + 1 := by rw [ByteArray.size_append]; rfl
        go_wp2_with fail
        go_roundw
        case rel => exact ⟨i + 1, A ++ ⟨#[c]⟩, rfl, by go_num, by omega, hb2, by simp; omega, by omega, hW⟩
        case measure => simp [intOf]; omega
      by_cases h10 : c = 10
      · have hW := hst ⟨#[c]⟩ (by rw [h10]; rfl)
        have e38 : ((c.toNat : Int) == 38) = false := hne 38 (by rw [h10]; decide)
        have e60 : ((c.toNat : Int) == 60) = false := hne 60 (by rw [h10]; decide)
        have e62 : ((c.toNat : Int) == 62) = false := hne 62 (by rw [h10]; decide)
        have e34 : ((c.toNat : Int) == 34) = false := hne 34 (by rw [h10]; decide)
        have e39 : ((c.toNat : Int) == 39) = false := hne 39 (by rw [h10]; decide)
        have e13 : ((c.toNat : Int) == 13) = false := hne 13 (by rw [h10]; decide)
        have e9 : ((c.toNat : Int) == 9) = false := hne 9 (by rw [h10]; decide)
        have e10 : ((c.toNat : Int) == 10) = true := heq 10 h10
        clear hst hne heq
        clear h10
        have hzT : (A ++ (⟨#[c]⟩ : ByteArray)).size = A.size + 1 := by rw [ByteArray.size_append]; rfl
        go_wp2_with fail
        go_roundw
        case rel => exact ⟨i + 1, A ++ ⟨#[c]⟩, rfl, by go_num, by omega, hb2, by simp; omega, by omega, hW⟩
        case measure => simp [intOf]; omega
      have hT : turn8 2 c = [c] := by unfold turn8; rw [if_neg (by simp [h38]), if_neg (by simp [h60]), if_neg (by simp [h62]), if_neg (by simp [h34]), if_neg (by simp [h39]), if_neg (by simp [h13]), if_neg (by simp [h9]), if_neg (by simp [h10])]
      have hW := hst ⟨#[c]⟩ hT.symm
      have e38 : ((c.toNat : Int) == 38) = false := hne 38 h38
      have e60 : ((c.toNat : Int) == 60) = false := hne 60 h60
      have e62 : ((c.toNat : Int) == 62) = false := hne 62 h62
      have e34 : ((c.toNat : Int) == 34) = false := hne 34 h34
      have e39 : ((c.toNat : Int) == 39) = false := hne 39 h39
      have e13 : ((c.toNat : Int) == 13) = false := hne 13 h13
      have e9 : ((c.toNat : Int) == 9) = false := hne 9 h9
      have e10 : ((c.toNat : Int) == 10) = false := hne 10 h10
      clear hst hne heq hT h38 h60 h62 h34 h39 h13 h9 h10
      have hzT : (A ++ (⟨#[c]⟩ : ByteArray)).size = A.size + 1 := by rw [ByteArray.size_append]; rfl
      go_wp2_with fail
      go_roundw
      case rel => exact ⟨i + 1, A ++ ⟨#[c]⟩, rfl, by go_num, by omega, hb2, by simp; omega, by omega, hW⟩
      case measure => simp [intOf]; omega
    · have hW : Hid (A = ⟨(turnL 2 s.data.toList).toArray⟩) := by
        have := hacc.out
        rw [List.drop_of_length_le (by rw [len_eq]; omega)] at this
        have e0 : turnL 2 [] = [] := rfl
        rw [e0, List.append_nil] at this
        exact ByteArray.ext (Array.toList_inj.1 this)
      clear hacc
      go_wp2_with fail
      go_ret
      exact ⟨ret_str hW.out, hbw⟩
set_option maxHeartbeats 4000000 in
theorem sTurned_3 (s : ByteArray) (w : World) (hs : s.size ≤ 1000000) :
    Calls Tryd.prog 23 #[.string s, .int .i64 3] w fun e w' => e = .returned (.string ⟨(turnL 3 s.data.toList).toArray⟩) ∧ Below w.heap.size w w' := by
  go_enter Tryd.func23, Tryd.ntmps23
  go_wp2_with fail
  go_loopw [5, 6] (fun o t wr => ∃ (i : Nat) (A : ByteArray), o = .string A ∧ t = .int .i64 (i : Int) ∧ i ≤ s.size ∧ Below w.heap.size w wr ∧ w.heap.size ≤ wr.heap.size ∧ A.size ≤ 6 * i ∧ Hid (A.data.toList ++ turnL 3 (s.data.toList.drop i) = turnL 3 s.data.toList)) (fun _ t _ => s.size - (intOf t).toNat)
  case atStart => exact ⟨0, ⟨#[]⟩, rfl, rfl, Nat.zero_le _, Below.refl _ _, Nat.le_refl _, Nat.le_refl _, rfl⟩
  case round =>
    obtain ⟨i, A, rfl, rfl, hi, hbw, hsz, hA, hacc⟩ := hrel
    by_cases hlt : i < s.size
    · obtain ⟨c, hc, hdr, hcc⟩ := byte_at8 s i hlt
      have hcv := one_convert wr c
      have hb2 := hbw.alloc hsz (.cells #[.int .u8 (c.toNat : Int)] 5)
      have hst : ∀ T : ByteArray, T.data.toList = turn8 3 c → Hid ((A ++ T).data.toList ++ turnL 3 (s.data.toList.drop (i + 1)) = turnL 3 s.data.toList) := fun T hT => by
        have := hacc.out
        rw [hdr, turnL_cons] at this
        unfold Hid
        rw [cat_text, hT, List.append_assoc]
        exact this
      have hne : ∀ k : UInt8, c ≠ k → ((c.toNat : Int) == (k.toNat : Int)) = false := fun k h => beq_eq_false_iff_ne.2 (fun e => h (UInt8.toNat_inj.1 (by omega)))
      have heq : ∀ k : UInt8, c = k → ((c.toNat : Int) == (k.toNat : Int)) = true := fun k h => by rw [h]; exact beq_self_eq_true _
      clear hacc hdr hc
      by_cases h38 : c = 38
      · have hW := hst ⟨#[38, 97, 109, 112, 59]⟩ (by rw [h38]; rfl)
        have e38 : ((c.toNat : Int) == 38) = true := heq 38 h38
        have e60 : ((c.toNat : Int) == 60) = false := hne 60 (by rw [h38]; decide)
        have e62 : ((c.toNat : Int) == 62) = false := hne 62 (by rw [h38]; decide)
        have e34 : ((c.toNat : Int) == 34) = false := hne 34 (by rw [h38]; decide)
        have e39 : ((c.toNat : Int) == 39) = false := hne 39 (by rw [h38]; decide)
        have e13 : ((c.toNat : Int) == 13) = false := hne 13 (by rw [h38]; decide)
        have e9 : ((c.toNat : Int) == 9) = false := hne 9 (by rw [h38]; decide)
        have e10 : ((c.toNat : Int) == 10) = false := hne 10 (by rw [h38]; decide)
        clear hst hne heq
        clear h38
        have hzT : (A ++ (⟨#[38, 97, 109, 112, 59]⟩ : ByteArray)).size = A.size + 5 := by rw [ByteArray.size_append]; rfl
        go_wp2_with fail
        go_roundw
        case rel => exact ⟨i + 1, A ++ ⟨#[38, 97, 109, 112, 59]⟩, rfl, by go_num, by omega, hb2, by simp; omega, by omega, hW⟩
        case measure => simp [intOf]; omega
      by_cases h60 : c = 60
      · have hW := hst ⟨#[38, 108, 116, 59]⟩ (by rw [h60]; rfl)
        have e38 : ((c.toNat : Int) == 38) = false := hne 38 (by rw [h60]; decide)
        have e60 : ((c.toNat : Int) == 60) = true := heq 60 h60
        have e62 : ((c.toNat : Int) == 62) = false := hne 62 (by rw [h60]; decide)
        have e34 : ((c.toNat : Int) == 34) = false := hne 34 (by rw [h60]; decide)
        have e39 : ((c.toNat : Int) == 39) = false := hne 39 (by rw [h60]; decide)
        have e13 : ((c.toNat : Int) == 13) = false := hne 13 (by rw [h60]; decide)
        have e9 : ((c.toNat : Int) == 9) = false := hne 9 (by rw [h60]; decide)
        have e10 : ((c.toNat : Int) == 10) = false := hne 10 (by rw [h60]; decide)
        clear hst hne heq
        clear h60
        have hzT : (A ++ (⟨#[38, 108, 116, 59]⟩ : ByteArray)).size = A.size + 4 := by rw [ByteArray.size_append]; rfl
        go_wp2_with fail
        go_roundw
        case rel => exact ⟨i + 1, A ++ ⟨#[38, 108, 116, 59]⟩, rfl, by go_num, by omega, hb2, by simp; omega, by omega, hW⟩
        case measure => simp [intOf]; omega
      by_cases h62 : c = 62
      · have hW := hst ⟨#[38, 103, 116, 59]⟩ (by rw [h62]; rfl)
        have e38 : ((c.toNat : Int) == 38) = false := hne 38 (by rw [h62]; decide)
        have e60 : ((c.toNat : Int) == 60) = false := hne 60 (by rw [h62]; decide)
        have e62 : ((c.toNat : Int) == 62) = true := heq 62 h62
        have e34 : ((c.toNat : Int) == 34) = false := hne 34 (by rw [h62]; decide)
        have e39 : ((c.toNat : Int) == 39) = false := hne 39 (by rw [h62]; decide)
        have e13 : ((c.toNat : Int) == 13) = false := hne 13 (by rw [h62]; decide)
        have e9 : ((c.toNat : Int) == 9) = false := hne 9 (by rw [h62]; decide)
        have e10 : ((c.toNat : Int) == 10) = false := hne 10 (by rw [h62]; decide)
        clear hst hne heq
        clear h62
        have hzT : (A ++ (⟨#[38, 103, 116, 59]⟩ : ByteArray)).size = A.size + 4 := by rw [ByteArray.size_append]; rfl
        go_wp2_with fail
        go_roundw
        case rel => exact ⟨i + 1, A ++ ⟨#[38, 103, 116, 59]⟩, rfl, by go_num, by omega, hb2, by simp; omega, by omega, hW⟩
        case measure => simp [intOf]; omega
      by_cases h34 : c = 34
      · have hW := hst ⟨#[38, 113, 117, 111, 116, 59]⟩ (by rw [h34]; rfl)
        have e38 : ((c.toNat : Int) == 38) = false := hne 38 (by rw [h34]; decide)
        have e60 : ((c.toNat : Int) == 60) = false := hne 60 (by rw [h34]; decide)
        have e62 : ((c.toNat : Int) == 62) = false := hne 62 (by rw [h34]; decide)
        have e34 : ((c.toNat : Int) == 34) = true := heq 34 h34
        have e39 : ((c.toNat : Int) == 39) = false := hne 39 (by rw [h34]; decide)
        have e13 : ((c.toNat : Int) == 13) = false := hne 13 (by rw [h34]; decide)
        have e9 : ((c.toNat : Int) == 9) = false := hne 9 (by rw [h34]; decide)
        have e10 : ((c.toNat : Int) == 10) = false := hne 10 (by rw [h34]; decide)
        clear hst hne heq
        clear h34
        have hzT : (A ++ (⟨#[38, 113, 117, 111, 116, 59]⟩ : ByteArray)).size = A.size + 6 := by rw [ByteArray.size_append]; rfl
        go_wp2_with fail
        go_roundw
        case rel => exact ⟨i + 1, A ++ ⟨#[38, 113, 117, 111, 116, 59]⟩, rfl, by go_num, by omega, hb2, by simp; omega, by omega, hW⟩
        case measure => simp [intOf]; omega
      by_cases h39 : c = 39
      · have hW := hst ⟨#[38, 35, 51, 57, 59]⟩ (by rw [h39]; rfl)
        have e38 : ((c.toNat : Int) == 38) = false := hne 38 (by rw [h39]; decide)
        have e60 : ((c.toNat : Int) == 60) = false := hne 60 (by rw [h39]; decide)
        have e62 : ((c.toNat : Int) == 62) = false := hne 62 (by rw [h39]; decide)
        have e34 : ((c.toNat : Int) == 34) = false := hne 34 (by rw [h39]; decide)
        have e39 : ((c.toNat : Int) == 39) = true := heq 39 h39
        have e13 : ((c.toNat : Int) == 13) = false := hne 13 (by rw [h39]; decide)
        have e9 : ((c.toNat : Int) == 9) = false := hne 9 (by rw [h39]; decide)
        have e10 : ((c.toNat : Int) == 10) = false := hne 10 (by rw [h39]; decide)
        clear hst hne heq
        clear h39
        have hzT : (A ++ (⟨#[38, 35, 51, 57, 59]⟩ : ByteArray)).size = A.size + 5 := by rw [ByteArray.size_append]; rfl
        go_wp2_with fail
        go_roundw
        case rel => exact ⟨i + 1, A ++ ⟨#[38, 35, 51, 57, 59]⟩, rfl, by go_num, by omega, hb2, by simp; omega, by omega, hW⟩
        case measure => simp [intOf]; omega
      by_cases h13 : c = 13
      · have hW := hst ⟨#[c]⟩ (by rw [h13]; rfl)
        have e38 : ((c.toNat : Int) == 38) = false := hne 38 (by rw [h13]; decide)
        have e60 : ((c.toNat : Int) == 60) = false := hne 60 (by rw [h13]; decide)
        have e62 : ((c.toNat : Int) == 62) = false := hne 62 (by rw [h13]; decide)
        have e34 : ((c.toNat : Int) == 34) = false := hne 34 (by rw [h13]; decide)
        have e39 : ((c.toNat : Int) == 39) = false := hne 39 (by rw [h13]; decide)
        have e13 : ((c.toNat : Int) == 13) = true := heq 13 h13
        have e9 : ((c.toNat : Int) == 9) = false := hne 9 (by rw [h13]; decide)
        have e10 : ((c.toNat : Int) == 10) = false := hne 10 (by rw [h13]; decide)
        clear hst hne heq
        clear h13
        have hzT : (A ++ (⟨#[c]⟩ : ByteArray)).size = A.size + 1 := by rw [ByteArray.size_append]; rfl
        go_wp2_with fail
        go_roundw
        case rel => exact ⟨i + 1, A ++ ⟨#[c]⟩, rfl, by go_num, by omega, hb2, by simp; omega, by omega, hW⟩
        case measure => simp [intOf]; omega
      by_cases h9 : c = 9
      · have hW := hst ⟨#[c]⟩ (by rw [h9]; rfl)
        have e38 : ((c.toNat : Int) == 38) = false := hne 38 (by rw [h9]; decide)
        have e60 : ((c.toNat : Int) == 60) = false := hne 60 (by rw [h9]; decide)
        have e62 : ((c.toNat : Int) == 62) = false := hne 62 (by rw [h9]; decide)
        have e34 : ((c.toNat : Int) == 34) = false := hne 34 (by rw [h9]; decide)
        have e39 : ((c.toNat : Int) == 39) = false := hne 39 (by rw [h9]; decide)
        have e13 : ((c.toNat : Int) == 13) = false := hne 13 (by rw [h9]; decide)
        have e9 : ((c.toNat : Int) == 9) = true := heq 9 h9
        have e10 : ((c.toNat : Int) == 10) = false := hne 10 (by rw [h9]; decide)
        clear hst hne heq
        clear h9
        have hzT : (A ++ (⟨#[c]⟩ : ByteArray)).size = A.size + 1 := by rw [ByteArray.size_append]; rfl
        go_wp2_with fail
        go_roundw
        case rel => exact ⟨i + 1, A ++ ⟨#[c]⟩, rfl, by go_num, by omega, hb2, by simp; omega, by omega, hW⟩
        case measure => simp [intOf]; omega
      by_cases h10 : c = 10
      · have hW := hst ⟨#[c]⟩ (by rw [h10]; rfl)
        have e38 : ((c.toNat : Int) == 38) = false := hne 38 (by rw [h10]; decide)
        have e60 : ((c.toNat : Int) == 60) = false := hne 60 (by rw [h10]; decide)
        have e62 : ((c.toNat : Int) == 62) = false := hne 62 (by rw [h10]; decide)
        have e34 : ((c.toNat : Int) == 34) = false := hne 34 (by rw [h10]; decide)
        have e39 : ((c.toNat : Int) == 39) = false := hne 39 (by rw [h10]; decide)
        have e13 : ((c.toNat : Int) == 13) = false := hne 13 (by rw [h10]; decide)
        have e9 : ((c.toNat : Int) == 9) = false := hne 9 (by rw [h10]; decide)
        have e10 : ((c.toNat : Int) == 10) = true := heq 10 h10
        clear hst hne heq
        clear h10
        have hzT : (A ++ (⟨#[c]⟩ : ByteArray)).size = A.size + 1 := by rw [ByteArray.size_append]; rfl
        go_wp2_with fail
        go_roundw
        case rel => exact ⟨i + 1, A ++ ⟨#[c]⟩, rfl, by go_num, by omega, hb2, by simp; omega, by omega, hW⟩
        case measure => simp [intOf]; omega
      have hT : turn8 3 c = [c] := by unfold turn8; rw [if_neg (by simp [h38]), if_neg (by simp [h60]), if_neg (by simp [h62]), if_neg (by simp [h34]), if_neg (by simp [h39]), if_neg (by simp [h13]), if_neg (by simp [h9]), if_neg (by simp [h10])]
      have hW := hst ⟨#[c]⟩ hT.symm
      have e38 : ((c.toNat : Int) == 38) = false := hne 38 h38
      have e60 : ((c.toNat : Int) == 60) = false := hne 60 h60
      have e62 : ((c.toNat : Int) == 62) = false := hne 62 h62
      have e34 : ((c.toNat : Int) == 34) = false := hne 34 h34
      have e39 : ((c.toNat : Int) == 39) = false := hne 39 h39
      have e13 : ((c.toNat : Int) == 13) = false := hne 13 h13
      have e9 : ((c.toNat : Int) == 9) = false := hne 9 h9
      have e10 : ((c.toNat : Int) == 10) = false := hne 10 h10
      clear hst hne heq hT h38 h60 h62 h34 h39 h13 h9 h10
      have hzT : (A ++ (⟨#[c]⟩ : ByteArray)).size = A.size + 1 := by rw [ByteArray.size_append]; rfl
      go_wp2_with fail
      go_roundw
      case rel => exact ⟨i + 1, A ++ ⟨#[c]⟩, rfl, by go_num, by omega, hb2, by simp; omega, by omega, hW⟩
      case measure => simp [intOf]; omega
    · have hW : Hid (A = ⟨(turnL 3 s.data.toList).toArray⟩) := by
        have := hacc.out
        rw [List.drop_of_length_le (by rw [len_eq]; omega)] at this
        have e0 : turnL 3 [] = [] := rfl
        rw [e0, List.append_nil] at this
        exact ByteArray.ext (Array.toList_inj.1 this)
      clear hacc
      go_wp2_with fail
      go_ret
      exact ⟨ret_str hW.out, hbw⟩
end Go.Proofs.YtnkefpopkaagaaaDoor
