/-
  Lines and Flat of the program, and the document's, for every text.
-/
import Derived.Test.YtmhbdckgejcdhaaDoorSwF
import Derived.Test.YtmhbdckgejcdhaaDoorLBad
namespace Go.Proofs.YtmhbdckgejcdhaaDoor
open Go.RowKit Ch

set_option maxHeartbeats 400000 in
theorem cLines_any (s : ByteArray) (w : World) (hs : s.size ≤ 1000000) :
    Calls Tryd.prog 13 #[.string s] w fun e w' => e = .returned (.string ⟨(linesL s.data.toList).toArray⟩) ∧ Below w.heap.size w w' := by
  have hq := (cell_of_block (heap_push_at w (.cells #[.string s] 9))).1
  go_enter Tryd.func13, Tryd.ntmps13
  go_wp2_with fail
  refine (swapped_lines s w.heap.size _ hs (by simp) hq).mono ?_
  rintro e w' ⟨rfl, h⟩
  go_wp2_with fail
  go_ret
  exact ⟨rfl, below_alloc h⟩
set_option maxHeartbeats 400000 in
theorem cFlat_any (s : ByteArray) (w : World) (hs : s.size ≤ 1000000) :
    Calls Tryd.prog 15 #[.string s] w fun e w' => e = .returned (.string ⟨(flatL s.data.toList).toArray⟩) ∧ Below w.heap.size w w' := by
  go_enter Tryd.func15, Tryd.ntmps15
  go_wp2_with fail
  refine (swapped_flat s w hs).mono ?_
  rintro e w' ⟨rfl, h⟩
  go_wp2_with fail
  go_ret
  exact ⟨rfl, h⟩

theorem own_convert {w : World} {base : Nat} {v : Value} {l : List UInt8} (h : w.ownsRow base 5 1 v l.length (Lib.byteCells l)) : (convert 22 9 v).run Tryd.prog w = .ok (.string ⟨l.toArray⟩) w := by
  refine IsBytes.convert (own_bytes (base := base) ?_)
  have e : (⟨l.toArray⟩ : ByteArray).size = l.length := size_of_list l
  rw [e]
  exact h
theorem cells_snoc (l : List UInt8) (c : UInt8) : Lib.byteCells l ++ [.int .u8 (c.toNat : Int)] = Lib.byteCells (l ++ [c]) := by
  rw [Lib.byteCells_append]; rfl
theorem own_snoc {w : World} {base : Nat} {v : Value} {l : List UInt8} {c : UInt8} (h : w.ownsRow base 5 1 v (l.length + 1) (Lib.byteCells l ++ [.int .u8 (c.toNat : Int)])) : w.ownsRow base 5 1 v (l ++ [c]).length (Lib.byteCells (l ++ [c])) := by
  rw [cells_snoc] at h
  simpa using h
theorem byte_at8 (s : ByteArray) (i : Nat) (h : i < s.size) : ∃ c : UInt8, c.toNat = byte s i ∧ s.data.toList.drop i = c :: s.data.toList.drop (i + 1) ∧ ((s[i]'h).toNat : Int) = (c.toNat : Int) := by
  obtain ⟨c, e1, e2⟩ := drop_at s h
  exact ⟨c, e2, e1, by rw [e2, byte_eq s i h]⟩
theorem flatL_cons (c : UInt8) (r : List UInt8) : flatL (c :: r) = flat8 c :: flatL r := rfl
theorem step_char {F : List UInt8 → List UInt8} {acc l r : List UInt8} {x : List UInt8} (h : acc ++ F (r) = F l) (hr : F r = x ++ F (r.drop 1)) : (acc ++ x) ++ F (r.drop 1) = F l := by
  rw [List.append_assoc, ← hr]; exact h

set_option maxHeartbeats 2000000 in
theorem rLines_any (s : ByteArray) (w : World) (hs : s.size ≤ 1000000) :
    Calls Tryd.prog 14 #[.string s] w fun e w' => e = .returned (.string ⟨(linesL s.data.toList).toArray⟩) ∧ Below w.heap.size w w' := by
  obtain ⟨i0, hi, hz0, hz1, hz2⟩ := info5
  go_enter Tryd.func14, Tryd.ntmps14
  go_wp2
  go_loopw [3, 4] (fun v t wr => ∃ (i : Nat) (acc : List UInt8), i ≤ s.size ∧ t = .int .i64 i ∧ wr.ownsRow w.heap.size 5 1 v acc.length (Lib.byteCells acc) ∧ Below w.heap.size w wr ∧ Hid (acc ++ linesL (s.data.toList.drop i) = linesL s.data.toList) ∧ acc.length ≤ i) (fun _ t _ => s.size - (intOf t).toNat)
  case atStart => exact ⟨0, [], Nat.zero_le _, rfl, World.ownsRow_nil _ _ _ _, Below.refl _ _, rfl, Nat.le_refl _⟩
  case round =>
    obtain ⟨i, acc, hi0, rfl, hown, hb, hacc, hal⟩ := hrel
    by_cases hlt : i < s.size
    · obtain ⟨c, hc, hdr, hcc⟩ := byte_at8 s i hlt
      by_cases h13 : byte s i = 13
      · have e13 : (((s[i]'hlt).toNat : Int) == 13) = true := by rw [hcc, hc, h13]; rfl
        by_cases h1 : i + 1 < s.size
        · by_cases h2 : byte s (i + 1) = 10
          · have e10 : (((s[i + 1]'h1).toNat : Int) != 10) = false := by rw [← byte_eq s (i + 1) h1, h2]; rfl
            have hW : Hid (acc ++ linesL (s.data.toList.drop (i + 1)) = linesL s.data.toList) := by
              have := hacc.out
              rw [lines_both hlt h13 ⟨h1, h2⟩] at this
              exact this
            clear hacc h13 h2 hc hdr hcc
            go_wp2
            go_roundw
            case rel => exact ⟨i + 1, acc, by omega, by go_num, hown, hb, hW, by omega⟩
            case measure => simp [intOf]; omega
          · have e10 : (((s[i + 1]'h1).toNat : Int) != 10) = true := by rw [← byte_eq s (i + 1) h1]; simp; omega
            have hW : Hid ((acc ++ [10]) ++ linesL (s.data.toList.drop (i + 1)) = linesL s.data.toList) := by
              have := hacc.out
              rw [lines_lone hlt h13 (fun e => h2 e.2), ← List.append_assoc] at this
              exact this
            clear hacc h13 h2 hc hdr hcc
            go_wp2_with ((at_builtin; refine wpList_append_own _ rfl _ _ 22 rfl w.heap.size 5 i0 (.int .u8 0) 1 1 Tryd.underlying22 hi hz0 hz1 hz2 rfl (by decide) _ _ _ rfl (hown.alloc _) ⟨wr.heap.size, 0, none⟩ 1 1 [_] rfl rfl (cell_one_new _ _ _) (by intro u hu; simp at hu; subst hu; rfl) (by unfold maxLen; omega) (by omega) (by have := hb.size; simp; omega) ?_))
            intro v' w2 hown2 hgrow _
            have hb2 : Below w.heap.size w w2 := (hb.alloc hb.size _).grown hgrow (by have := hb.size; simp; omega) (own_ge hown)
            have hown3 := own_snoc (c := 10) hown2
            clear hgrow hown2 hown
            go_wp2_with fail
            go_roundw
            case rel => exact ⟨i + 1, acc ++ [10], by omega, by go_num, hown3, hb2, hW, by simp; omega⟩
            case measure => simp [intOf]; omega
        · have hW : Hid ((acc ++ [10]) ++ linesL (s.data.toList.drop (i + 1)) = linesL s.data.toList) := by
            have := hacc.out
            rw [lines_lone hlt h13 (fun e => h1 e.1), ← List.append_assoc] at this
            exact this
          have h1' : s.size ≤ i + 1 := by omega
          clear hacc h13 hc hdr hcc h1
          go_wp2_with ((at_builtin; refine wpList_append_own _ rfl _ _ 22 rfl w.heap.size 5 i0 (.int .u8 0) 1 1 Tryd.underlying22 hi hz0 hz1 hz2 rfl (by decide) _ _ _ rfl (hown.alloc _) ⟨wr.heap.size, 0, none⟩ 1 1 [_] rfl rfl (cell_one_new _ _ _) (by intro u hu; simp at hu; subst hu; rfl) (by unfold maxLen; omega) (by omega) (by have := hb.size; simp; omega) ?_))
          intro v' w2 hown2 hgrow _
          have hb2 : Below w.heap.size w w2 := (hb.alloc hb.size _).grown hgrow (by have := hb.size; simp; omega) (own_ge hown)
          have hown3 := own_snoc (c := 10) hown2
          clear hgrow hown2 hown
          go_wp2_with fail
          go_roundw
          case rel => exact ⟨i + 1, acc ++ [10], by omega, by go_num, hown3, hb2, hW, by simp; omega⟩
          case measure => simp [intOf]; omega
      · have e13 : (((s[i]'hlt).toNat : Int) == 13) = false := by rw [hcc, hc]; exact beq_eq_false_iff_ne.2 (by omega)
        have hW : Hid ((acc ++ [c]) ++ linesL (s.data.toList.drop (i + 1)) = linesL s.data.toList) := by
          have := hacc.out
          rw [hdr, linesL, if_neg (by intro e; rw [e] at hc; exact h13 hc.symm)] at this
          unfold Hid
          rw [List.append_assoc]
          exact this
        have hcv : Hid ((((s[i]'hlt).toNat : Nat) : Int) = (c.toNat : Int)) := hcc
        clear hacc h13 hc hdr hcc
        go_wp2_with ((at_builtin; refine wpList_append_own _ rfl _ _ 22 rfl w.heap.size 5 i0 (.int .u8 0) 1 1 Tryd.underlying22 hi hz0 hz1 hz2 rfl (by decide) _ _ _ rfl (hown.alloc _) ⟨wr.heap.size, 0, none⟩ 1 1 [_] rfl rfl (cell_one_new _ _ _) (by intro u hu; simp at hu; subst hu; rfl) (by unfold maxLen; omega) (by omega) (by have := hb.size; simp; omega) ?_))
        intro v' w2 hown2 hgrow _
        have hb2 : Below w.heap.size w w2 := (hb.alloc hb.size _).grown hgrow (by have := hb.size; simp; omega) (own_ge hown)
        rw [hcv.out] at hown2
        have hown3 := own_snoc (c := c) hown2
        clear hgrow hown2 hown
        go_wp2_with fail
        go_roundw
        case rel => exact ⟨i + 1, acc ++ [c], by omega, by go_num, hown3, hb2, hW, by simp; omega⟩
        case measure => simp [intOf]; omega
    · have hW : Hid (acc = linesL s.data.toList) := by
        have := hacc.out
        rw [List.drop_of_length_le (by rw [len_eq]; omega)] at this
        have e0 : linesL [] = [] := rfl
        rw [e0, List.append_nil] at this
        exact this
      have hcv := own_convert hown
      clear hown hacc
      go_wp2
      go_ret
      rw [hW.out]
      exact ⟨rfl, hb⟩

set_option maxHeartbeats 2000000 in
theorem rFlat_any (s : ByteArray) (w : World) (hs : s.size ≤ 1000000) :
    Calls Tryd.prog 16 #[.string s] w fun e w' => e = .returned (.string ⟨(flatL s.data.toList).toArray⟩) ∧ Below w.heap.size w w' := by
  obtain ⟨i0, hi, hz0, hz1, hz2⟩ := info5
  go_enter Tryd.func16, Tryd.ntmps16
  go_wp2
  go_loopw [3, 4] (fun v t wr => ∃ (i : Nat) (acc : List UInt8), i ≤ s.size ∧ t = .int .i64 i ∧ wr.ownsRow w.heap.size 5 1 v acc.length (Lib.byteCells acc) ∧ Below w.heap.size w wr ∧ Hid (acc ++ flatL (s.data.toList.drop i) = flatL s.data.toList) ∧ acc.length ≤ i) (fun _ t _ => s.size - (intOf t).toNat)
  case atStart => exact ⟨0, [], Nat.zero_le _, rfl, World.ownsRow_nil _ _ _ _, Below.refl _ _, rfl, Nat.le_refl _⟩
  case round =>
    obtain ⟨i, acc, hi0, rfl, hown, hb, hacc, hal⟩ := hrel
    by_cases hlt : i < s.size
    · obtain ⟨c, hc, hdr, hcc⟩ := byte_at8 s i hlt
      by_cases hbl : blank8 c = true
      · have e1 : blankB ((s[i]'hlt).toNat : Int) = true := by rw [hcc]; exact hbl
        have hW : Hid ((acc ++ [32]) ++ flatL (s.data.toList.drop (i + 1)) = flatL s.data.toList) := by
          have := hacc.out
          rw [hdr, flatL_cons] at this
          rw [show flat8 c = 32 by unfold flat8; first | rw [if_pos hbl] | rw [if_neg hbl]] at this
          unfold Hid
          rw [List.append_assoc]
          exact this
        clear hacc hbl hc hdr hcc
        go_wp2_with (first | (go_at_call 32; refine (rBlank_any _ _).mono ?_; rintro e w' ⟨rfl, hw'⟩; rw [hw']; clear hw' w') | (at_builtin; refine wpList_append_own _ rfl _ _ 22 rfl w.heap.size 5 i0 (.int .u8 0) 1 1 Tryd.underlying22 hi hz0 hz1 hz2 rfl (by decide) _ _ _ rfl (hown.alloc _) ⟨wr.heap.size, 0, none⟩ 1 1 [_] rfl rfl (cell_one_new _ _ _) (by intro u hu; simp at hu; subst hu; rfl) (by unfold maxLen; omega) (by omega) (by have := hb.size; simp; omega) ?_))
        intro v' w2 hown2 hgrow _
        have hb2 : Below w.heap.size w w2 := (hb.alloc hb.size _).grown hgrow (by have := hb.size; simp; omega) (own_ge hown)
        have hown3 := own_snoc (c := 32) hown2
        clear hgrow hown2 hown
        go_wp2_with fail
        go_roundw
        case rel => exact ⟨i + 1, acc ++ [32], by omega, by go_num, hown3, hb2, hW, by simp; omega⟩
        case measure => simp [intOf]; omega
      · have e1 : blankB ((s[i]'hlt).toNat : Int) = false := by rw [hcc]; exact Bool.eq_false_iff.2 hbl
        have hW : Hid ((acc ++ [c]) ++ flatL (s.data.toList.drop (i + 1)) = flatL s.data.toList) := by
          have := hacc.out
          rw [hdr, flatL_cons] at this
          rw [show flat8 c = c by unfold flat8; first | rw [if_pos hbl] | rw [if_neg hbl]] at this
          unfold Hid
          rw [List.append_assoc]
          exact this
        have hcv : Hid ((((s[i]'hlt).toNat : Nat) : Int) = (c.toNat : Int)) := hcc
        clear hacc hbl hc hdr hcc
        go_wp2_with (first | (go_at_call 32; refine (rBlank_any _ _).mono ?_; rintro e w' ⟨rfl, hw'⟩; rw [hw']; clear hw' w') | (at_builtin; refine wpList_append_own _ rfl _ _ 22 rfl w.heap.size 5 i0 (.int .u8 0) 1 1 Tryd.underlying22 hi hz0 hz1 hz2 rfl (by decide) _ _ _ rfl (hown.alloc _) ⟨wr.heap.size, 0, none⟩ 1 1 [_] rfl rfl (cell_one_new _ _ _) (by intro u hu; simp at hu; subst hu; rfl) (by unfold maxLen; omega) (by omega) (by have := hb.size; simp; omega) ?_))
        intro v' w2 hown2 hgrow _
        have hb2 : Below w.heap.size w w2 := (hb.alloc hb.size _).grown hgrow (by have := hb.size; simp; omega) (own_ge hown)
        rw [hcv.out] at hown2
        have hown3 := own_snoc (c := c) hown2
        clear hgrow hown2 hown
        go_wp2_with fail
        go_roundw
        case rel => exact ⟨i + 1, acc ++ [c], by omega, by go_num, hown3, hb2, hW, by simp; omega⟩
        case measure => simp [intOf]; omega
    · have hW : Hid (acc = flatL s.data.toList) := by
        have := hacc.out
        rw [List.drop_of_length_le (by rw [len_eq]; omega)] at this
        have e0 : flatL [] = [] := rfl
        rw [e0, List.append_nil] at this
        exact this
      have hcv := own_convert hown
      clear hown hacc
      go_wp2
      go_ret
      rw [hW.out]
      exact ⟨rfl, hb⟩

end Go.Proofs.YtmhbdckgejcdhaaDoor
