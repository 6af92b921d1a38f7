/-
  Layer 3's reference: percent coding.
-/
import Derived.Test.YtnkefpopkaagaaaDoorETurn
namespace Go.Proofs.YtnkefpopkaagaaaDoor
open Go.RowKit Ch
set_option maxRecDepth 100000

/-- Does a byte stand for itself? -/
def plain8 (c : UInt8) : Bool := decide ((65 ≤ c.toNat ∧ c.toNat ≤ 90) ∨ (97 ≤ c.toNat ∧ c.toNat ≤ 122) ∨ (48 ≤ c.toNat ∧ c.toNat ≤ 57) ∨ c.toNat = 45 ∨ c.toNat = 46 ∨ c.toNat = 95 ∨ c.toNat = 126)
/-- A half as a great digit. -/
def bigN (n : Nat) : Nat := if n < 10 then 48 + n else 55 + n
def big8 (n : Nat) : UInt8 := UInt8.ofNat (bigN n)
def perc8 (c : UInt8) : List UInt8 := if plain8 c = true then [c] else [37, big8 (c.toNat / 16), big8 (c.toNat % 16)]
def percL (l : List UInt8) : List UInt8 := l.flatMap perc8
theorem percL_cons (c : UInt8) (l : List UInt8) : percL (c :: l) = perc8 c ++ percL l := by simp [percL]
def bigs16 : ByteArray := ⟨#[48, 49, 50, 51, 52, 53, 54, 55, 56, 57, 65, 66, 67, 68, 69, 70]⟩
theorem bigs16_fin : ∀ y : Fin 16, bigs16[y.val]'(by have := y.isLt; exact this) = big8 y.val := by decide +kernel
theorem bigs16_at (y : Nat) (h : y < bigs16.size) : bigs16[y]'h = big8 y := bigs16_fin ⟨y, h⟩

theorem two_convert (w : World) (a b : UInt8) : (convert 49 9 (.slice (some ⟨w.heap.size, 0, none⟩) 2 2)).run Tryd.prog (w.alloc (.cells #[.int .u8 (a.toNat : Int), .int .u8 (b.toNat : Int)] 5)).drew = .ok (.string ⟨#[a, b]⟩) (w.alloc (.cells #[.int .u8 (a.toNat : Int), .int .u8 (b.toNat : Int)] 5)).drew := by
  have h : IsBytes (w.alloc (.cells #[.int .u8 (a.toNat : Int), .int .u8 (b.toNat : Int)] 5)).drew (.slice (some ⟨w.heap.size, 0, none⟩) 2 2) ⟨#[a, b]⟩ := by
    refine ⟨_, _, rfl, Nat.le_refl _, by unfold maxLen; omega, .inr ⟨_, rfl, .inr ⟨w.heap.size, 0, rfl, by simp, ?_⟩⟩⟩
    intro i hi
    have hs : (⟨#[a, b]⟩ : ByteArray).size = 2 := rfl
    have hb := heap_push_at w (.cells #[.int .u8 (a.toNat : Int), .int .u8 (b.toNat : Int)] 5)
    show (w.alloc (.cells #[.int .u8 (a.toNat : Int), .int .u8 (b.toNat : Int)] 5)).cell? _ = _
    rw [cell_of_row _ _ _ _ _ _ hb]
    rcases (show i = 0 ∨ i = 1 by omega) with rfl | rfl <;> rfl
  exact h.convert
theorem wrap_u8 {n : Int} (h0 : 0 ≤ n) (h1 : n < 256) : IntKind.u8.wrap n = n := by rw [IntKind.wrap_u8]; omega
theorem plain_true {c : UInt8} (h : (65 ≤ c.toNat ∧ c.toNat ≤ 90) ∨ (97 ≤ c.toNat ∧ c.toNat ≤ 122) ∨ (48 ≤ c.toNat ∧ c.toNat ≤ 57) ∨ c.toNat = 45 ∨ c.toNat = 46 ∨ c.toNat = 95 ∨ c.toNat = 126) : perc8 c = [c] := by
  unfold perc8
  rw [if_pos (show plain8 c = true from decide_eq_true h)]
theorem plain_false {c : UInt8} (h : ¬ ((65 ≤ c.toNat ∧ c.toNat ≤ 90) ∨ (97 ≤ c.toNat ∧ c.toNat ≤ 122) ∨ (48 ≤ c.toNat ∧ c.toNat ≤ 57) ∨ c.toNat = 45 ∨ c.toNat = 46 ∨ c.toNat = 95 ∨ c.toNat = 126)) : perc8 c = [37, big8 (c.toNat / 16), big8 (c.toNat % 16)] := by
  unfold perc8
  rw [if_neg (by unfold plain8; simpa using h)]

set_option maxHeartbeats 4000000 in
theorem sPercent_any (s : ByteArray) (w : World) (hs : s.size ≤ 1000000) :
    Calls Tryd.prog 12 #[.string s] w fun e w' => e = .returned (.string ⟨(percL s.data.toList).toArray⟩) ∧ Below w.heap.size w w' := by
  go_enter Tryd.func12, Tryd.ntmps12
  go_wp2_with fail
  go_loopw [3, 5] (fun o t wr => ∃ (i : Nat) (A : ByteArray), o = .string A ∧ t = .int .i64 (i : Int) ∧ i ≤ s.size ∧ Below w.heap.size w wr ∧ w.heap.size ≤ wr.heap.size ∧ A.size ≤ 3 * i ∧ Hid (A.data.toList ++ percL (s.data.toList.drop i) = percL s.data.toList)) (fun _ t _ => s.size - (intOf t).toNat)
  case atStart => exact ⟨0, ⟨#[]⟩, rfl, rfl, Nat.zero_le _, Below.refl _ _, Nat.le_refl _, Nat.le_refl _, rfl⟩
  case round =>
    obtain ⟨i, A, rfl, rfl, hi, hbw, hsz, hA, hacc⟩ := hrel
    by_cases hlt : i < s.size
    · obtain ⟨c, hc, hdr, hcc⟩ := byte_at8 s i hlt
      have hst : ∀ T : List UInt8, T = perc8 c → ∀ B : ByteArray, B.data.toList = A.data.toList ++ T → Hid (B.data.toList ++ percL (s.data.toList.drop (i + 1)) = percL s.data.toList) := fun T hT B hB => by
        have := hacc.out
        rw [hdr, percL_cons, ← hT] at this
        unfold Hid
        rw [hB, List.append_assoc]
        exact this
      have hne : ∀ k : Nat, c.toNat ≠ k → ((c.toNat : Int) == (k : Int)) = false := fun k h => beq_eq_false_iff_ne.2 (fun e => h (by omega))
      have heq : ∀ k : Nat, c.toNat = k → ((c.toNat : Int) == (k : Int)) = true := fun k h => by rw [h]; exact beq_self_eq_true _
      have hc256 := c.toNat_lt
      have hcv := one_convert wr c
      have hb2 := hbw.alloc hsz (.cells #[.int .u8 (c.toNat : Int)] 5)
      have hzT : (A ++ (⟨#[c]⟩ : ByteArray)).size = A.size + 1 := by rw [ByteArray.size_append]; rfl
      clear hacc hdr hc
      by_cases r1 : 65 ≤ c.toNat ∧ c.toNat ≤ 90
      · have r1a := r1.1
        have r1b := r1.2
        clear r1
        have e45 : ((c.toNat : Int) == 45) = false := hne 45 (by omega)
        have e46 : ((c.toNat : Int) == 46) = false := hne 46 (by omega)
        have e95 : ((c.toNat : Int) == 95) = false := hne 95 (by omega)
        have e126 : ((c.toNat : Int) == 126) = false := hne 126 (by omega)
        have hW := hst _ (plain_true (by omega)).symm (A ++ ⟨#[c]⟩) (cat_text _ _)
        clear hst hne heq
        go_wp2_with fail
        go_roundw
        case rel => exact ⟨i + 1, A ++ ⟨#[c]⟩, rfl, by go_num, by omega, hb2, by simp; omega, by omega, hW⟩
        case measure => simp [intOf]; omega
      by_cases r2 : 97 ≤ c.toNat ∧ c.toNat ≤ 122
      · have r2a := r2.1
        have r2b := r2.2
        clear r2
        have e45 : ((c.toNat : Int) == 45) = false := hne 45 (by omega)
        have e46 : ((c.toNat : Int) == 46) = false := hne 46 (by omega)
        have e95 : ((c.toNat : Int) == 95) = false := hne 95 (by omega)
        have e126 : ((c.toNat : Int) == 126) = false := hne 126 (by omega)
        have hW := hst _ (plain_true (by omega)).symm (A ++ ⟨#[c]⟩) (cat_text _ _)
        clear hst hne heq
        go_wp2_with fail
        go_roundw
        case rel => exact ⟨i + 1, A ++ ⟨#[c]⟩, rfl, by go_num, by omega, hb2, by simp; omega, by omega, hW⟩
        case measure => simp [intOf]; omega
      by_cases r3 : 48 ≤ c.toNat ∧ c.toNat ≤ 57
      · have r3a := r3.1
        have r3b := r3.2
        clear r3
        have e45 : ((c.toNat : Int) == 45) = false := hne 45 (by omega)
        have e46 : ((c.toNat : Int) == 46) = false := hne 46 (by omega)
        have e95 : ((c.toNat : Int) == 95) = false := hne 95 (by omega)
        have e126 : ((c.toNat : Int) == 126) = false := hne 126 (by omega)
        have hW := hst _ (plain_true (by omega)).symm (A ++ ⟨#[c]⟩) (cat_text _ _)
        clear hst hne heq
        go_wp2_with fail
        go_roundw
        case rel => exact ⟨i + 1, A ++ ⟨#[c]⟩, rfl, by go_num, by omega, hb2, by simp; omega, by omega, hW⟩
        case measure => simp [intOf]; omega
      by_cases q45 : c.toNat = 45
      · have hW := hst _ (plain_true (by omega)).symm (A ++ ⟨#[c]⟩) (cat_text _ _)
        have e45 : ((c.toNat : Int) == 45) = true := heq 45 (by omega)
        have e46 : ((c.toNat : Int) == 46) = false := hne 46 (by omega)
        have e95 : ((c.toNat : Int) == 95) = false := hne 95 (by omega)
        have e126 : ((c.toNat : Int) == 126) = false := hne 126 (by omega)
        have l1 : c.toNat ≤ 45 := by omega
        have l2 : 45 ≤ c.toNat := by omega
        clear hst hne heq r1 r2 r3 q45
        go_wp2_with fail
        go_roundw
        case rel => exact ⟨i + 1, A ++ ⟨#[c]⟩, rfl, by go_num, by omega, hb2, by simp; omega, by omega, hW⟩
        case measure => simp [intOf]; omega
      by_cases q46 : c.toNat = 46
      · have hW := hst _ (plain_true (by omega)).symm (A ++ ⟨#[c]⟩) (cat_text _ _)
        have e45 : ((c.toNat : Int) == 45) = false := hne 45 (by omega)
        have e46 : ((c.toNat : Int) == 46) = true := heq 46 (by omega)
        have e95 : ((c.toNat : Int) == 95) = false := hne 95 (by omega)
        have e126 : ((c.toNat : Int) == 126) = false := hne 126 (by omega)
        have l1 : c.toNat ≤ 46 := by omega
        have l2 : 46 ≤ c.toNat := by omega
        clear hst hne heq r1 r2 r3 q45 q46
        go_wp2_with fail
        go_roundw
        case rel => exact ⟨i + 1, A ++ ⟨#[c]⟩, rfl, by go_num, by omega, hb2, by simp; omega, by omega, hW⟩
        case measure => simp [intOf]; omega
      by_cases q95 : c.toNat = 95
      · have hW := hst _ (plain_true (by omega)).symm (A ++ ⟨#[c]⟩) (cat_text _ _)
        have e45 : ((c.toNat : Int) == 45) = false := hne 45 (by omega)
        have e46 : ((c.toNat : Int) == 46) = false := hne 46 (by omega)
        have e95 : ((c.toNat : Int) == 95) = true := heq 95 (by omega)
        have e126 : ((c.toNat : Int) == 126) = false := hne 126 (by omega)
        have l1 : c.toNat ≤ 95 := by omega
        have l2 : 95 ≤ c.toNat := by omega
        clear hst hne heq r1 r2 r3 q45 q46 q95
        go_wp2_with fail
        go_roundw
        case rel => exact ⟨i + 1, A ++ ⟨#[c]⟩, rfl, by go_num, by omega, hb2, by simp; omega, by omega, hW⟩
        case measure => simp [intOf]; omega
      by_cases q126 : c.toNat = 126
      · have hW := hst _ (plain_true (by omega)).symm (A ++ ⟨#[c]⟩) (cat_text _ _)
        have e45 : ((c.toNat : Int) == 45) = false := hne 45 (by omega)
        have e46 : ((c.toNat : Int) == 46) = false := hne 46 (by omega)
        have e95 : ((c.toNat : Int) == 95) = false := hne 95 (by omega)
        have e126 : ((c.toNat : Int) == 126) = true := heq 126 (by omega)
        have l1 : c.toNat ≤ 126 := by omega
        have l2 : 126 ≤ c.toNat := by omega
        clear hst hne heq r1 r2 r3 q45 q46 q95 q126
        go_wp2_with fail
        go_roundw
        case rel => exact ⟨i + 1, A ++ ⟨#[c]⟩, rfl, by go_num, by omega, hb2, by simp; omega, by omega, hW⟩
        case measure => simp [intOf]; omega
      have hP := plain_false (c := c) (by omega)
      obtain ⟨y1, hy1⟩ : ∃ y, c.toNat / 16 = y := ⟨_, rfl⟩
      obtain ⟨y2, hy2⟩ : ∃ y, c.toNat % 16 = y := ⟨_, rfl⟩
      rw [hy1, hy2] at hP
      have hW := hst _ hP.symm (A ++ ⟨#[37]⟩ ++ ⟨#[big8 y1, big8 y2]⟩) (by rw [cat_text, cat_text, List.append_assoc]; rfl)
      have e45 : ((c.toNat : Int) == 45) = false := hne 45 q45
      have e46 : ((c.toNat : Int) == 46) = false := hne 46 q46
      have e95 : ((c.toNat : Int) == 95) = false := hne 95 q95
      have e126 : ((c.toNat : Int) == 126) = false := hne 126 q126
      have t1 : (c.toNat : Int).tdiv 16 = (y1 : Int) := by rw [Int.tdiv_eq_ediv_of_nonneg (by omega)]; omega
      have t1' : (c.toNat : Int) / 16 = (y1 : Int) := by omega
      have t2 : (c.toNat : Int).tmod 16 = (y2 : Int) := by rw [Int.tmod_eq_emod_of_nonneg (by omega)]; omega
      have t2' : (c.toNat : Int) % 16 = (y2 : Int) := by omega
      have b1 : y1 < 16 := by omega
      have b2 : y2 < 16 := by omega
      have x1 : bigs16[y1]'b1 = big8 y1 := bigs16_at y1 b1
      have x2 : bigs16[y2]'b2 = big8 y2 := bigs16_at y2 b2
      have hcv2 := two_convert wr (big8 y1) (big8 y2)
      have hb3 := (hbw.alloc hsz (.cells #[.int .u8 ((big8 y1).toNat : Int), .int .u8 ((big8 y2).toNat : Int)] 5)).drew
      have hz1 : (A ++ (⟨#[37]⟩ : ByteArray)).size = A.size + 1 := by rw [ByteArray.size_append]; rfl
      have hz3 : (A ++ (⟨#[37]⟩ : ByteArray) ++ (⟨#[big8 y1, big8 y2]⟩ : ByteArray)).size = A.size + 3 := by rw [ByteArray.size_append, hz1]; rfl
      have w1 : IntKind.u8.wrap ((c.toNat : Int).tdiv 16) = (y1 : Int) := by rw [t1]; exact wrap_u8 (by omega) (by omega)
      have w2 : IntKind.u8.wrap ((c.toNat : Int).tmod 16) = (y2 : Int) := by rw [t2]; exact wrap_u8 (by omega) (by omega)
      have w3 : IntKind.u8.wrap (y1 : Int) = (y1 : Int) := wrap_u8 (by omega) (by omega)
      have w4 : IntKind.u8.wrap (y2 : Int) = (y2 : Int) := wrap_u8 (by omega) (by omega)
      have p1 : (0 : Int) ≤ (y1 : Int) := by omega
      have p2 : (0 : Int) ≤ (y2 : Int) := by omega
      have p3 : (y1 : Int) < 16 := by omega
      have p4 : (y2 : Int) < 16 := by omega
      have s1 : (9223372036854775807 < A.size + 1) = False := eq_false (by omega)
      have s2 : (9223372036854775807 < (A ++ (⟨#[37]⟩ : ByteArray)).size + 2) = False := eq_false (by omega)
      have s3 : (9223372036854775807 < A.size + 1 + 2) = False := eq_false (by omega)
      unfold bigs16 at x1 x2
      clear hst hne heq hcv hb2 hP hy1 hy2 hzT q45 q46 q95 q126
      by_cases g1 : c.toNat < 48
      · clear r1 r2 r3
        go_wp2_with fail
        go_region
        all_goals
          go_wp2
          go_roundw
          case rel => exact ⟨i + 1, A ++ ⟨#[37]⟩ ++ ⟨#[big8 y1, big8 y2]⟩, rfl, by go_num, by omega, hb3, by simp; omega, by omega, hW⟩
          case measure => simp [intOf]; omega
      by_cases g2 : c.toNat < 65
      · have g3 : 58 ≤ c.toNat := by omega
        clear r1 r2 r3 g1
        go_wp2_with fail
        go_region
        all_goals
          go_wp2
          go_roundw
          case rel => exact ⟨i + 1, A ++ ⟨#[37]⟩ ++ ⟨#[big8 y1, big8 y2]⟩, rfl, by go_num, by omega, hb3, by simp; omega, by omega, hW⟩
          case measure => simp [intOf]; omega
      by_cases g4 : c.toNat < 97
      · have g5 : 91 ≤ c.toNat := by omega
        clear r1 r2 r3 g1 g2
        go_wp2_with fail
        go_region
        all_goals
          go_wp2
          go_roundw
          case rel => exact ⟨i + 1, A ++ ⟨#[37]⟩ ++ ⟨#[big8 y1, big8 y2]⟩, rfl, by go_num, by omega, hb3, by simp; omega, by omega, hW⟩
          case measure => simp [intOf]; omega
      have g6 : 123 ≤ c.toNat := by omega
      clear r1 r2 r3 g1 g2 g4
      go_wp2_with fail
      go_region
      all_goals
        go_wp2
        go_roundw
        case rel => exact ⟨i + 1, A ++ ⟨#[37]⟩ ++ ⟨#[big8 y1, big8 y2]⟩, rfl, by go_num, by omega, hb3, by simp; omega, by omega, hW⟩
        case measure => simp [intOf]; omega
    · have hW : Hid (A = ⟨(percL s.data.toList).toArray⟩) := by
        have := hacc.out
        rw [List.drop_of_length_le (by rw [len_eq]; omega)] at this
        have e0 : percL [] = [] := rfl
        rw [e0, List.append_nil] at this
        exact ByteArray.ext (Array.toList_inj.1 this)
      clear hacc
      go_wp2_with fail
      go_ret
      exact ⟨ret_str hW.out, hbw⟩
end Go.Proofs.YtnkefpopkaagaaaDoor
