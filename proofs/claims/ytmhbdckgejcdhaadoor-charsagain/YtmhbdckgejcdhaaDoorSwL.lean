/-
  Lines and Flat: each line end as one, each blank as a space, for every text.
-/
import Derived.Test.YtmhbdckgejcdhaaDoorAwake
import Derived.Test.YtmhbdckgejcdhaaDoorPlain5
import Derived.Shelf.Strings.BuilderK
import Derived.ShutString
namespace Go.Proofs.YtmhbdckgejcdhaaDoor
open Go.RowKit Ch

theorem two_str {a b : ByteArray} {c d : Bool} (h1 : a = b) (h2 : c = d) : Ending.returned (.tuple #[.string a, .bool c]) = .returned (.tuple #[.string b, .bool d]) := by rw [h1, h2]

theorem linesF_other (i c : Int) (q : Nat) (w : World) (hc : c ≠ 13) :
    Calls Tryd.prog 29 #[.int .i64 i, .int .i32 c, .pointer (some ⟨q, 0, none⟩)] w fun e w' => e = .returned (.tuple #[.string ⟨#[]⟩, .bool false]) ∧ w' = w := by
  have e1 : (c != 13) = true := by simpa using hc
  go_enter Tryd.func29, Tryd.ntmps29
  go_wp2
  go_ret2
  exact ⟨rfl, rfl⟩
theorem linesF_both (i q : Nat) (s : ByteArray) (w : World) (hs : s.size ≤ 1000000) (hq : w.cell? ⟨q, 0, none⟩ = some (.string s)) (h1 : i + 1 < s.size) (h2 : byte s (i + 1) = 10) :
    Calls Tryd.prog 29 #[.int .i64 (i : Int), .int .i32 13, .pointer (some ⟨q, 0, none⟩)] w fun e w' => e = .returned (.tuple #[.string ⟨#[]⟩, .bool true]) ∧ w' = w := by
  have hb : (((s[i + 1]'h1).toNat : Int) == 10) = true := by rw [← byte_eq s (i + 1) h1, h2]; rfl
  clear h2
  go_enter Tryd.func29, Tryd.ntmps29
  go_wp2
  go_ret2
  exact ⟨rfl, rfl⟩
theorem linesF_end (i q : Nat) (s : ByteArray) (w : World) (hs : s.size ≤ 1000000) (hi : i < s.size) (hq : w.cell? ⟨q, 0, none⟩ = some (.string s)) (h1 : ¬ i + 1 < s.size) :
    Calls Tryd.prog 29 #[.int .i64 (i : Int), .int .i32 13, .pointer (some ⟨q, 0, none⟩)] w fun e w' => e = .returned (.tuple #[.string ⟨#[10]⟩, .bool true]) ∧ w' = w := by
  go_enter Tryd.func29, Tryd.ntmps29
  go_wp2
  go_ret2
  exact ⟨rfl, rfl⟩
theorem linesF_lone (i q : Nat) (s : ByteArray) (w : World) (hs : s.size ≤ 1000000) (hq : w.cell? ⟨q, 0, none⟩ = some (.string s)) (h1 : i + 1 < s.size) (h2 : byte s (i + 1) ≠ 10) :
    Calls Tryd.prog 29 #[.int .i64 (i : Int), .int .i32 13, .pointer (some ⟨q, 0, none⟩)] w fun e w' => e = .returned (.tuple #[.string ⟨#[10]⟩, .bool true]) ∧ w' = w := by
  have hb : (((s[i + 1]'h1).toNat : Int) == 10) = false := by rw [← byte_eq s (i + 1) h1]; exact beq_eq_false_iff_ne.2 (by omega)
  clear h2
  go_enter Tryd.func29, Tryd.ntmps29
  go_wp2
  go_ret2
  exact ⟨rfl, rfl⟩
theorem flatF_any (i c : Int) (w : World) :
    Calls Tryd.prog 30 #[.int .i64 i, .int .i32 c] w fun e w' => e = .returned (.tuple #[.string ⟨#[32]⟩, .bool (blankB c)]) ∧ w' = w := by
  go_enter Tryd.func30, Tryd.ntmps30
  go_wp2_with (go_at_call 31; refine (cBlank_any _ _).mono ?_; rintro e w' ⟨rfl, rfl⟩)
  go_ret2
  exact ⟨rfl, rfl⟩

/-- What is said of a code point: no text for it, or a text t for one byte. -/
theorem linesF_all (i q c : Nat) (s : ByteArray) (w : World) (hs : s.size ≤ 1000000) (hi : i < s.size) (hq : w.cell? ⟨q, 0, none⟩ = some (.string s)) (hc : c = 13 → byte s i = 13) :
    ∃ (t : List UInt8) (ok : Bool), (Calls Tryd.prog 29 #[.int .i64 (i : Int), .int .i32 (c : Int), .pointer (some ⟨q, 0, none⟩)] w fun e w' => e = .returned (.tuple #[.string ⟨t.toArray⟩, .bool ok]) ∧ w' = w) ∧ t.length ≤ 1 ∧
      (ok = false → c ≠ 13) ∧ (ok = true → c = 13 ∧ linesL (s.data.toList.drop i) = t ++ linesL (s.data.toList.drop (i + 1))) := by
  by_cases h : c = 13
  · subst h
    by_cases h1 : i + 1 < s.size
    · by_cases h2 : byte s (i + 1) = 10
      · exact ⟨[], true, linesF_both i q s w hs hq h1 h2, by simp, (fun e => by cases e), fun _ => ⟨rfl, lines_both hi (hc rfl) ⟨h1, h2⟩⟩⟩
      · exact ⟨[10], true, linesF_lone i q s w hs hq h1 h2, by simp, (fun e => by cases e), fun _ => ⟨rfl, lines_lone hi (hc rfl) (fun e => h2 e.2)⟩⟩
    · exact ⟨[10], true, linesF_end i q s w hs hi hq h1, by simp, (fun e => by cases e), fun _ => ⟨rfl, lines_lone hi (hc rfl) (fun e => h1 e.1)⟩⟩
  · exact ⟨[], false, linesF_other _ _ q w (by omega), by simp, fun _ => h, (fun e => by cases e)⟩

theorem seg_cells (s : ByteArray) (a b : Nat) : Lib.strCells (s.extract a b) = Lib.byteCells (seg s a b) := by
  rw [extract_seg]; rfl
theorem text_cells (l : List UInt8) : Lib.strCells ⟨l.toArray⟩ = Lib.byteCells l := rfl

set_option maxHeartbeats 4000000 in
set_option maxRecDepth 100000 in
theorem swapped_lines (s : ByteArray) (q : Nat) (w : World) (hs : s.size ≤ 1000000) (hqw : q < w.heap.size) (hq : w.cell? ⟨q, 0, none⟩ = some (.string s)) :
    Calls Tryd.prog 28 #[.string s, .func (Fn.func 29) #[] #[.pointer (some ⟨q, 0, none⟩)]] w fun e w' => e = .returned (.string ⟨(linesL s.data.toList).toArray⟩) ∧ Below w.heap.size w w' := by
  go_enter Tryd.func28, Tryd.ntmps28
  go_wp2_with fail
  go_loopw [6] (fun i wr => ∃ (pos start : Nat) (acc : List UInt8), i = .int .i64 start ∧ Lib.IsBuilderF 48 5 w.heap.size w.heap.size (Lib.byteCells acc) wr ∧ wr.heap[w.heap.size + 1]? = some (.stringIter s pos) ∧ Below w.heap.size w wr ∧ Hid (acc ++ (seg s start pos ++ linesL (s.data.toList.drop pos)) = linesL s.data.toList) ∧ start ≤ pos ∧ pos ≤ s.size ∧ acc.length ≤ start) (fun _ wr => s.size - wr.iterPos (w.heap.size + 1))
  case atStart =>
    refine ⟨0, 0, [], rfl, (Lib.IsBuilderF.of (Lib.fresh_isBuilder 48 5 w)).alloc _, ?_, ((Below.refl _ w).alloc (Nat.le_refl _) _).alloc (by simp) _, ?_, Nat.le_refl _, Nat.zero_le _, Nat.le_refl _⟩
    · have := World.iter_heap (w.alloc (.cells #[.pointer none, .slice none 0 0] 48)) s 0
      simpa using this
    · unfold Hid; rw [seg_nil]; rfl
  case round =>
    obtain ⟨pos, start, acc, rfl, hI, hit, hbw, hacc, hsp, hps, hal⟩ := hrel
    have hsz : w.heap.size + 1 < wr.heap.size := (Array.getElem?_eq_some_iff.1 hit).1
    by_cases hp : pos < s.size
    · have hnx : ∀ ty, (Instr.next (.pointer (some ⟨w.heap.size + 1, 0, none⟩)) true ty).run Tryd.prog wr = _ := fun ty => Lib.run_next_any_at wr (w.heap.size + 1) s pos ty hit hp
      obtain ⟨c, n, hd, hn0, hpn, hc, hcase⟩ := rune_cases s pos hp
      simp only [hd] at hnx
      have hI2 := hI.iterAt hit (pos + n)
      have hit2 := Lib.iterAt_heap wr (w.heap.size + 1) s pos (pos + n) hit
      have hbw2 := Lib.below_iterAt hbw (k := w.heap.size + 1) (by omega) s (pos + n)
      have hsz2 : w.heap.size ≤ (wr.iterAt (w.heap.size + 1) s (pos + n)).heap.size := by rw [Lib.iterAt_size]; omega
      clear hd hI
      have hq2 : (wr.iterAt (w.heap.size + 1) s (pos + n)).cell? ⟨q, 0, none⟩ = some (.string s) := (hbw2.cell (p := ⟨q, 0, none⟩) hqw).trans hq
      obtain ⟨t, ok, hcall, ht1, hno0, hyes0⟩ := linesF_all pos q c s (wr.iterAt (w.heap.size + 1) s (pos + n)) hs hp hq2 (fun e => by
        rcases hcase with ⟨_, h2, _⟩ | ⟨h2, _⟩ <;> omega)
      have hno : ok = false → linesL (s.data.toList.drop pos) = seg s pos (pos + n) ++ linesL (s.data.toList.drop (pos + n)) := fun e => lines_step (fun k hk => by
        have := hno0 e
        rcases hcase with ⟨h1, h2, _⟩ | ⟨_, h2⟩
        · obtain rfl : k = 0 := by omega
          rw [Nat.add_zero]; omega
        · have := h2 k hk; omega)
      have hyes : ok = true → n = 1 ∧ linesL (s.data.toList.drop pos) = t ++ linesL (s.data.toList.drop (pos + 1)) := fun e => by
        obtain ⟨h1, h2⟩ := hyes0 e
        refine ⟨?_, h2⟩
        rcases hcase with ⟨h3, _, _⟩ | ⟨h3, _⟩ <;> omega
      clear hno0 hyes0 hq2
      have HC : Hid (Calls Tryd.prog 29 #[.int .i64 (pos : Int), .int .i32 (c : Int), .pointer (some ⟨q, 0, none⟩)] (wr.iterAt (w.heap.size + 1) s (pos + n)) fun e w' => e = .returned (.tuple #[.string ⟨t.toArray⟩, .bool ok]) ∧ w' = wr.iterAt (w.heap.size + 1) s (pos + n)) := hcall
      clear hcall
      have hsgl := seg_length s (a := start) hps
      cases ok with
      | false =>
        have hW2 : Hid (acc ++ (seg s start (pos + n) ++ linesL (s.data.toList.drop (pos + n))) = linesL s.data.toList) := by
          have := hacc.out
          rw [hno rfl] at this
          rw [← List.append_assoc (seg s start pos), seg_append s hsp (by omega)] at this
          exact this
        clear hacc hno hyes hcase
        go_wp2_with fail
        refine HC.out.mono ?_
        rintro e w' ⟨rfl, rfl⟩
        go_wp2_with fail
        go_roundw
        case rel => exact ⟨pos + n, start, acc, rfl, hI2, hit2, hbw2, hW2, by omega, hpn, hal⟩
        case measure =>
          simp only [World.iterPos, hit2, hit]
          omega
      | true =>
        obtain ⟨hn1, hF⟩ := hyes rfl
        subst hn1
        have hW2 : Hid ((acc ++ seg s start pos ++ t) ++ (seg s (pos + 1) (pos + 1) ++ linesL (s.data.toList.drop (pos + 1))) = linesL s.data.toList) := by
          have := hacc.out
          rw [hF] at this
          unfold Hid
          rw [seg_nil, List.nil_append]
          simpa [List.append_assoc] using this
        clear hacc hno hyes hcase hF
        go_wp2_with fail
        refine HC.out.mono ?_
        rintro e w' ⟨rfl, hw'⟩
        rw [hw']
        clear hw' w'
        go_wp2_with fail
        refine (Tryd.Builder_WriteString_k w.heap.size w.heap.size _ _ _ hI2 (by rw [Lib.byteCells_length]; simp; omega) hsz2).mono ?_
        rintro e w3 ⟨rfl, h3, b3, k3⟩
        have hi3 := k3.iter hit2 (by omega)
        have hs3 := b3.size
        go_wp2_with fail
        refine (Tryd.Builder_WriteString_k w.heap.size w.heap.size _ _ _ (Or.inr h3) (by rw [seg_cells, List.length_append, Lib.byteCells_length, Lib.byteCells_length, size_of_list]; omega) (by omega)).mono ?_
        rintro e w4 ⟨rfl, h4, b4, k4⟩
        have hi4 := k4.iter hi3 (by omega)
        go_wp2_with fail
        go_roundw
        case rel =>
          refine ⟨pos + 1, pos + 1, acc ++ seg s start pos ++ t, by go_num, ?_, hi4, hbw2.trans (b3.trans b4), hW2, Nat.le_refl _, hpn, by rw [List.length_append, List.length_append]; omega⟩
          rw [seg_cells, text_cells, ← Lib.byteCells_append, ← Lib.byteCells_append] at h4
          exact Or.inr h4
        case measure =>
          simp only [World.iterPos, hi4, hit]
          omega
    · have hnx : ∀ ty, (Instr.next (.pointer (some ⟨w.heap.size + 1, 0, none⟩)) true ty).run Tryd.prog wr = _ := fun ty => Lib.run_next_end_at wr (w.heap.size + 1) s pos ty hit hp
      obtain rfl : pos = s.size := by omega
      have hW2 : Hid (acc ++ seg s start s.size = linesL s.data.toList) := by
        have := hacc.out
        rw [List.drop_of_length_le (by rw [len_eq]; exact Nat.le_refl _)] at this
        have e0 : linesL [] = [] := rfl
        rw [e0, List.append_nil] at this
        exact this
      clear hacc
      go_wp2_with fail
      refine (Tryd.Builder_WriteString_k w.heap.size w.heap.size _ _ _ hI (by rw [Lib.byteCells_length]; simp; omega) (by omega)).mono ?_
      rintro e w3 ⟨rfl, h3, b3, k3⟩
      have hs3 := b3.size
      have h3' : Lib.IsBuilderF 48 5 w.heap.size w.heap.size (Lib.byteCells (linesL s.data.toList)) w3 := by
        rw [seg_cells, ← Lib.byteCells_append, hW2.out] at h3
        exact Or.inr h3
      go_wp2_with fail
      refine (Tryd.Builder_String_any_k w.heap.size w.heap.size _ _ h3' (by omega)).mono ?_
      rintro e w4 ⟨rfl, _, b4, _⟩
      go_wp2_with fail
      go_ret
      exact ⟨rfl, hbw.trans (b3.trans b4)⟩

end Go.Proofs.YtmhbdckgejcdhaaDoor
