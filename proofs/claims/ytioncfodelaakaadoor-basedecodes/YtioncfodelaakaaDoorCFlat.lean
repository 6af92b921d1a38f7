/-
  The program's blank and Flat of layer 1, for every text.
-/
import Derived.Test.YtioncfodelaakaaDoorGen2
import Derived.Test.YtioncfodelaakaaDoorGRune
import Derived.Test.YtioncfodelaakaaDoorShelf
import Derived.Shelf.Strings.BuilderK
import Derived.ShutString
namespace Go.Proofs.YtioncfodelaakaaDoor
open Go.RowKit Ch

set_option maxHeartbeats 400000 in
theorem cBlank_any (r : Int) (w : World) :
    Calls Tryd.prog 47 #[.int .i32 r] w fun e w' => e = .returned (.bool (blankB r)) ∧ w' = w := by
  by_cases h1 : r = 32
  · subst h1
    go_enter Tryd.func47, Tryd.ntmps47
    go_wp2
    go_ret
    exact ⟨rfl, rfl⟩
  by_cases h2 : r = 9
  · subst h2
    go_enter Tryd.func47, Tryd.ntmps47
    go_wp2
    go_ret
    exact ⟨rfl, rfl⟩
  by_cases h3 : r = 10
  · subst h3
    go_enter Tryd.func47, Tryd.ntmps47
    go_wp2
    go_ret
    exact ⟨rfl, rfl⟩
  by_cases h4 : r = 13
  · subst h4
    go_enter Tryd.func47, Tryd.ntmps47
    go_wp2
    go_ret
    exact ⟨rfl, rfl⟩
  have e1 : (r == 32) = false := beq_eq_false_iff_ne.2 h1
  have e2 : (r == 9) = false := beq_eq_false_iff_ne.2 h2
  have e3 : (r == 10) = false := beq_eq_false_iff_ne.2 h3
  have e4 : (r == 13) = false := beq_eq_false_iff_ne.2 h4
  have hf : Hid (blankB r = false) := decide_eq_false (by omega)
  go_enter Tryd.func47, Tryd.ntmps47
  go_wp2
  go_ret
  exact ⟨ret_bool hf.out.symm, rfl⟩

theorem two_str {a b : ByteArray} {c d : Bool} (h1 : a = b) (h2 : c = d) : Ending.returned (.tuple #[.string a, .bool c]) = .returned (.tuple #[.string b, .bool d]) := by rw [h1, h2]

theorem flatF_any (i c : Int) (w : World) :
    Calls Tryd.prog 46 #[.int .i64 i, .int .i32 c] w fun e w' => e = .returned (.tuple #[.string ⟨#[32]⟩, .bool (blankB c)]) ∧ w' = w := by
  go_enter Tryd.func46, Tryd.ntmps46
  go_wp2_with (go_at_call 47; refine (cBlank_any _ _).mono ?_; rintro e w' ⟨rfl, rfl⟩)
  go_ret2
  exact ⟨rfl, rfl⟩

theorem seg_cells (s : ByteArray) (a b : Nat) : Lib.strCells (s.extract a b) = Lib.byteCells (seg s a b) := by
  rw [extract_seg]; rfl
theorem text_cells (l : List UInt8) : Lib.strCells ⟨l.toArray⟩ = Lib.byteCells l := rfl

set_option maxHeartbeats 4000000 in
set_option maxRecDepth 100000 in
theorem swapped_flat (s : ByteArray) (w : World) (hs : s.size ≤ 1000000) :
    Calls Tryd.prog 45 #[.string s, .func (Fn.func 46) #[] #[]] w fun e w' => e = .returned (.string ⟨(flatL s.data.toList).toArray⟩) ∧ Below w.heap.size w w' := by
  go_enter Tryd.func45, Tryd.ntmps45
  go_wp2_with fail
  go_loopw [6] (fun i wr => ∃ (pos start : Nat) (acc : List UInt8), i = .int .i64 start ∧ Lib.IsBuilderF 37 5 w.heap.size w.heap.size (Lib.byteCells acc) wr ∧ wr.heap[w.heap.size + 1]? = some (.stringIter s pos) ∧ Below w.heap.size w wr ∧ Hid (acc ++ (seg s start pos ++ flatL (s.data.toList.drop pos)) = flatL s.data.toList) ∧ start ≤ pos ∧ pos ≤ s.size ∧ acc.length ≤ start) (fun _ wr => s.size - wr.iterPos (w.heap.size + 1))
  case atStart =>
    refine ⟨0, 0, [], rfl, (Lib.IsBuilderF.of (Lib.fresh_isBuilder 37 5 w)).alloc _, ?_, ((Below.refl _ w).alloc (Nat.le_refl _) _).alloc (by simp) _, ?_, Nat.le_refl _, Nat.zero_le _, Nat.le_refl _⟩
    · have := World.iter_heap (w.alloc (.cells #[.pointer none, .slice none 0 0] 37)) s 0
      simpa using this
    · unfold Hid; rw [seg_nil]; rfl
  case round =>
    obtain ⟨pos, start, acc, rfl, hI, hit, hbw, hacc, hsp, hps, hal⟩ := hrel
    have hsz : w.heap.size + 1 < wr.heap.size := (Array.getElem?_eq_some_iff.1 hit).1
    by_cases hp : pos < s.size
    · have hnx : ∀ ty, (Instr.next (.pointer (some ⟨w.heap.size + 1, 0, none⟩)) true ty).run Tryd.prog wr = _ := fun ty => Lib.run_next_any_at wr (w.heap.size + 1) s pos ty hit hp
      obtain ⟨c, n, hd, hn0, hpn, hc, hcase⟩ := rune_cases s pos hp
      simp only [hd] at hnx
      have hI2 := hI.iterAt hit (pos + n)
      have hit2 := Lib.iterAt_heap wr (w.heap.size + 1) s pos (pos + n) hit
      have hbw2 := Lib.below_iterAt hbw (k := w.heap.size + 1) (by omega) s (pos + n)
      have hsz2 : w.heap.size ≤ (wr.iterAt (w.heap.size + 1) s (pos + n)).heap.size := by rw [Lib.iterAt_size]; omega
      clear hd hI
      have hcall0 := flatF_any (pos : Int) (c : Int) (wr.iterAt (w.heap.size + 1) s (pos + n))
      obtain ⟨ok, hok⟩ : ∃ ok, blankB (c : Int) = ok := ⟨_, rfl⟩
      obtain ⟨t, ht⟩ : ∃ t : List UInt8, [32] = t := ⟨_, rfl⟩
      have ht1 : t.length ≤ 1 := by rw [← ht]; simp
      have hcall : Calls Tryd.prog 46 #[.int .i64 (pos : Int), .int .i32 (c : Int)] (wr.iterAt (w.heap.size + 1) s (pos + n)) fun e w' => e = .returned (.tuple #[.string ⟨t.toArray⟩, .bool ok]) ∧ w' = wr.iterAt (w.heap.size + 1) s (pos + n) := by
        rw [← ht, ← hok]; exact hcall0
      have hno : ok = false → flatL (s.data.toList.drop pos) = seg s pos (pos + n) ++ flatL (s.data.toList.drop (pos + n)) := fun e => flat_step (fun k hk => by
        rcases hcase with ⟨h1, h2, _⟩ | ⟨_, h2⟩
        · obtain rfl : k = 0 := by omega
          rw [Nat.add_zero, ← h2, hok]; exact e
        · exact blank_high (h2 k hk))
      have hyes : ok = true → n = 1 ∧ flatL (s.data.toList.drop pos) = t ++ flatL (s.data.toList.drop (pos + 1)) := fun e => by
        rcases hcase with ⟨h1, h2, _⟩ | ⟨h1, _⟩
        · refine ⟨h1, ?_⟩
          rw [← ht]
          exact flat_blank hp (by rw [← h2, hok]; exact e)
        · rw [blank_high h1] at hok
          rw [← hok] at e
          cases e
      clear hcall0 hok ht
      have HC : Hid (Calls Tryd.prog 46 #[.int .i64 (pos : Int), .int .i32 (c : Int)] (wr.iterAt (w.heap.size + 1) s (pos + n)) fun e w' => e = .returned (.tuple #[.string ⟨t.toArray⟩, .bool ok]) ∧ w' = wr.iterAt (w.heap.size + 1) s (pos + n)) := hcall
      clear hcall
      have hsgl := seg_length s (a := start) hps
      cases ok with
      | false =>
        have hW2 : Hid (acc ++ (seg s start (pos + n) ++ flatL (s.data.toList.drop (pos + n))) = flatL s.data.toList) := by
          have := hacc.out
          rw [hno rfl] at this
          rw [← List.append_assoc (seg s start pos), seg_append s hsp (by omega)] at this
          exact this
        clear hacc hno hyes hcase
        go_wp2_with fail
        refine HC.out.mono ?_
        rintro e w' ⟨rfl, rfl⟩
        go_wp2_with fail
        go_roundw
        case rel => exact ⟨pos + n, start, acc, rfl, hI2, hit2, hbw2, hW2, by omega, hpn, hal⟩
        case measure =>
          simp only [World.iterPos, hit2, hit]
          omega
      | true =>
        obtain ⟨hn1, hF⟩ := hyes rfl
        subst hn1
        have hW2 : Hid ((acc ++ seg s start pos ++ t) ++ (seg s (pos + 1) (pos + 1) ++ flatL (s.data.toList.drop (pos + 1))) = flatL s.data.toList) := by
          have := hacc.out
          rw [hF] at this
          unfold Hid
          rw [seg_nil, List.nil_append]
          simpa [List.append_assoc] using this
        clear hacc hno hyes hcase hF
        go_wp2_with fail
        refine HC.out.mono ?_
        rintro e w' ⟨rfl, hw'⟩
        rw [hw']
        clear hw' w'
        go_wp2_with fail
        refine (Tryd.Builder_WriteString_k w.heap.size w.heap.size _ _ _ hI2 (by rw [Lib.byteCells_length]; simp; omega) hsz2).mono ?_
        rintro e w3 ⟨rfl, h3, b3, k3⟩
        have hi3 := k3.iter hit2 (by omega)
        have hs3 := b3.size
        go_wp2_with fail
        refine (Tryd.Builder_WriteString_k w.heap.size w.heap.size _ _ _ (Or.inr h3) (by rw [seg_cells, List.length_append, Lib.byteCells_length, Lib.byteCells_length, size_of_list]; omega) (by omega)).mono ?_
        rintro e w4 ⟨rfl, h4, b4, k4⟩
        have hi4 := k4.iter hi3 (by omega)
        go_wp2_with fail
        go_roundw
        case rel =>
          refine ⟨pos + 1, pos + 1, acc ++ seg s start pos ++ t, by go_num, ?_, hi4, hbw2.trans (b3.trans b4), hW2, Nat.le_refl _, hpn, by rw [List.length_append, List.length_append]; omega⟩
          rw [seg_cells, text_cells, ← Lib.byteCells_append, ← Lib.byteCells_append] at h4
          exact Or.inr h4
        case measure =>
          simp only [World.iterPos, hi4, hit]
          omega
    · have hnx : ∀ ty, (Instr.next (.pointer (some ⟨w.heap.size + 1, 0, none⟩)) true ty).run Tryd.prog wr = _ := fun ty => Lib.run_next_end_at wr (w.heap.size + 1) s pos ty hit hp
      obtain rfl : pos = s.size := by omega
      have hW2 : Hid (acc ++ seg s start s.size = flatL s.data.toList) := by
        have := hacc.out
        rw [List.drop_of_length_le (by rw [len_eq]; exact Nat.le_refl _)] at this
        have e0 : flatL [] = [] := rfl
        rw [e0, List.append_nil] at this
        exact this
      clear hacc
      go_wp2_with fail
      refine (Tryd.Builder_WriteString_k w.heap.size w.heap.size _ _ _ hI (by rw [Lib.byteCells_length]; simp; omega) (by omega)).mono ?_
      rintro e w3 ⟨rfl, h3, b3, k3⟩
      have hs3 := b3.size
      have h3' : Lib.IsBuilderF 37 5 w.heap.size w.heap.size (Lib.byteCells (flatL s.data.toList)) w3 := by
        rw [seg_cells, ← Lib.byteCells_append, hW2.out] at h3
        exact Or.inr h3
      go_wp2_with fail
      refine (Tryd.Builder_String_any_k w.heap.size w.heap.size _ _ h3' (by omega)).mono ?_
      rintro e w4 ⟨rfl, _, b4, _⟩
      go_wp2_with fail
      go_ret
      exact ⟨rfl, hbw.trans (b3.trans b4)⟩

set_option maxHeartbeats 400000 in
theorem cFlat_any (s : ByteArray) (w : World) (hs : s.size ≤ 1000000) :
    Calls Tryd.prog 41 #[.string s] w fun e w' => e = .returned (.string ⟨(flatL s.data.toList).toArray⟩) ∧ Below w.heap.size w w' := by
  go_enter Tryd.func41, Tryd.ntmps41
  go_wp2_with fail
  refine (swapped_flat s w hs).mono ?_
  rintro e w' ⟨rfl, h⟩
  go_wp2_with fail
  go_ret
  exact ⟨rfl, h⟩
end Go.Proofs.YtioncfodelaakaaDoor
