/-
  Words: the pieces between blanks, for every text.
-/
import Derived.Test.YtmhbdckgejcdhaaDoorEnd
import Derived.Test.YtmhbdckgejcdhaaDoorPlain3
namespace Go.Proofs.YtmhbdckgejcdhaaDoor
open Go.RowKit Ch

theorem ownsRow_iter {w : World} {base : Nat} {e : TypeId} {size n : Nat} {v : Value} {xs : List Value} (h : w.ownsRow base e size v n xs) {k : Nat} (hk : k < base) (s : ByteArray) (p : Nat) : (w.iterAt k s p).ownsRow base e size v n xs := by
  obtain ⟨h1, h2⟩ := h
  refine ⟨h1, ?_⟩
  rcases h2 with h2 | ⟨g, cap, cur, hv, hg, hh, r⟩
  · exact .inl h2
  · exact .inr ⟨g, cap, cur, hv, hg, (Lib.iterAt_other w k g s p (by omega)).trans hh, r⟩
theorem ownsRow_low {w : World} {base base' : Nat} {e : TypeId} {size n : Nat} {v : Value} {xs : List Value} (h : w.ownsRow base e size v n xs) (hb : base' ≤ base) : w.ownsRow base' e size v n xs := by
  obtain ⟨h1, h2⟩ := h
  refine ⟨h1, ?_⟩
  rcases h2 with h2 | ⟨g, cap, cur, hv, hg, r⟩
  · exact .inl h2
  · exact .inr ⟨g, cap, cur, hv, Nat.le_trans hb hg, r⟩

theorem heap_push_at (w : World) (o : Obj) : (w.alloc o).heap[w.heap.size]? = some o := by
  show (w.heap.push o)[w.heap.size]? = _
  simp
theorem heap_push_old (w : World) (o : Obj) {k : Nat} (h : k < w.heap.size) : (w.alloc o).heap[k]? = w.heap[k]? := Below.heap_alloc w o k h
theorem cell_of_block {w : World} {b : Nat} {x : Value} {t : TypeId} (h : w.heap[b]? = some (.cells #[x] t (0, 0))) : w.cell? ⟨b, 0, none⟩ = some x ∧ w.frozen? ⟨b, 0, none⟩ = false := by
  constructor
  · simp [World.cell?, h]
  · simp [World.frozen?, h]

theorem WS.init (w : World) (s : ByteArray) : WS w.heap.size s (.slice none 0 0) 0 ((((w.alloc (.cells #[.string s] 9)).alloc (.cells #[.slice none 0 0] 26)).alloc (.cells #[.int .i64 0] 3)).iter s 0) := by
  have z1 : (w.alloc (.cells #[.string s] 9)).heap.size = w.heap.size + 1 := by simp
  have z2 : ((w.alloc (.cells #[.string s] 9)).alloc (.cells #[.slice none 0 0] 26)).heap.size = w.heap.size + 1 + 1 := by simp
  have z3 : (((w.alloc (.cells #[.string s] 9)).alloc (.cells #[.slice none 0 0] 26)).alloc (.cells #[.int .i64 0] 3)).heap.size = w.heap.size + 1 + 1 + 1 := by simp
  have b0 : ((((w.alloc (.cells #[.string s] 9)).alloc (.cells #[.slice none 0 0] 26)).alloc (.cells #[.int .i64 0] 3)).iter s 0).heap[w.heap.size]? = some (.cells #[.string s] 9 (0, 0)) :=
    (heap_push_old _ _ (by rw [z3]; omega)).trans ((heap_push_old _ _ (by rw [z2]; omega)).trans ((heap_push_old _ _ (by rw [z1]; omega)).trans (heap_push_at w _)))
  have b1 : ((((w.alloc (.cells #[.string s] 9)).alloc (.cells #[.slice none 0 0] 26)).alloc (.cells #[.int .i64 0] 3)).iter s 0).heap[w.heap.size + 1]? = some (.cells #[.slice none 0 0] 26 (0, 0)) := by
    refine (heap_push_old _ _ (by rw [z3]; omega)).trans ((heap_push_old _ _ (by rw [z2]; omega)).trans ?_)
    rw [← z1]
    exact heap_push_at _ _
  have b2 : ((((w.alloc (.cells #[.string s] 9)).alloc (.cells #[.slice none 0 0] 26)).alloc (.cells #[.int .i64 0] 3)).iter s 0).heap[w.heap.size + 1 + 1]? = some (.cells #[.int .i64 0] 3 (0, 0)) := by
    refine (heap_push_old _ _ (by rw [z3]; omega)).trans ?_
    rw [← z2]
    exact heap_push_at _ _
  exact ⟨(cell_of_block b0).1, (cell_of_block b1).1, (cell_of_block b2).1, (cell_of_block b1).2, (cell_of_block b2).2, by show w.heap.size + 3 < (World.alloc _ _).heap.size; simp⟩

theorem strs_snoc (ws : List (List UInt8)) (s : ByteArray) (a b : Nat) : strs ws ++ [.string (s.extract a b)] = strs (ws ++ [seg s a b]) := by
  rw [extract_seg]; simp [strs]
theorem strs_length (ws : List (List UInt8)) : (strs ws).length = ws.length := by simp [strs]

/-- One more piece, or none. -/
theorem end_any (B at_ start : Nat) (s : ByteArray) (v : Value) (ws : List (List UInt8)) (w : World) (hat : at_ ≤ s.size) (hs : s.size ≤ 1000000) (hx : ws.length ≤ 1000000) (hws : WS B s v start w) (hown : w.ownsRow (B + 4) 9 1 v (strs ws).length (strs ws)) :
    Calls Tryd.prog 34 #[.int .i64 (at_ : Int), .pointer (some ⟨B + 1 + 1, 0, none⟩), .pointer (some ⟨B + 1, 0, none⟩), .pointer (some ⟨B, 0, none⟩)] w
      fun e w' => e = .returned (.tuple #[]) ∧ EndPost B s w (at_ + 1) (strs (ws ++ flush (seg s start at_))) w' := by
  by_cases h : start < at_
  · refine (end_add B at_ start s v (strs ws) w hat hs (by rw [strs_length]; exact hx) hws hown h).mono ?_
    rintro e w' ⟨rfl, hp⟩
    rw [flush_some h hat, ← strs_snoc]
    exact ⟨rfl, hp⟩
  · refine (end_skip B at_ start s v w (by omega) hws h).mono ?_
    rintro e w' ⟨rfl, rfl⟩
    refine ⟨rfl, v, hws.setN (at_ + 1), ?_, (Below.refl _ w).setCell (p := ⟨B + 1 + 1, 0, none⟩) (by show B + 1 ≤ B + 1 + 1; omega) _, Below.heap_setCell _ _ _ _ (by show B + 3 ≠ B + 1 + 1; omega)⟩
    rw [flush_none h, List.append_nil]
    exact ownsRow_setCell_below hown (a := ⟨B + 1 + 1, 0, none⟩) (by show B + 1 + 1 < B + 4; omega) _

theorem strs_wordsB (s : ByteArray) : strs (words s.data.toList) = (wordsB s).map Value.string := by
  simp [strs, wordsB]

set_option maxHeartbeats 1000000 in
theorem cWords_any (s : ByteArray) (w : World) (hs : s.size ≤ 1000000) :
    Calls Tryd.prog 20 #[.string s] w fun e w' => ∃ v, e = .returned v ∧ w'.ownsRow w.heap.size 9 1 v (wordsB s).length ((wordsB s).map Value.string) ∧ Below w.heap.size w w' := by
  go_enter Tryd.func20, Tryd.ntmps20
  go_wp2_with fail
  go_loopw [] (fun wr => ∃ (pos start : Nat) (ws : List (List UInt8)) (v : Value), wr.heap[w.heap.size + 3]? = some (.stringIter s pos) ∧ WS w.heap.size s v start wr ∧ wr.ownsRow (w.heap.size + 4) 9 1 v (strs ws).length (strs ws) ∧ Below w.heap.size w wr ∧ Hid (ws ++ wordsFrom (seg s start pos) (s.data.toList.drop pos) = words s.data.toList) ∧ start ≤ pos ∧ pos ≤ s.size ∧ ws.length ≤ pos) (fun wr => s.size - wr.iterPos (w.heap.size + 3))
  case atStart =>
    refine ⟨0, 0, [], .slice none 0 0, ?_, ?_, World.ownsRow_nil _ _ _ _, ?_, words_start s, Nat.le_refl _, Nat.zero_le _, Nat.le_refl _⟩
    · have := World.iter_heap (((w.alloc (.cells #[.string s] 9)).alloc (.cells #[.slice none 0 0] 26)).alloc (.cells #[.int .i64 0] 3)) s 0
      simpa using this
    · exact WS.init w s
    · exact ((((Below.refl _ w).alloc (Nat.le_refl _) _).alloc (by simp) _).alloc (by simp; omega) _).alloc (by simp; omega) _
  case round =>
    obtain ⟨pos, start, ws, v, hit, hws, hown, hb, hW, hsp, hps, hwl⟩ := hrel
    by_cases hp : pos < s.size
    · have hnx : ∀ ty, (Instr.next (.pointer (some ⟨w.heap.size + 3, 0, none⟩)) true ty).run Tryd.prog wr = _ := fun ty => Lib.run_next_any_at wr (w.heap.size + 3) s pos ty hit hp
      obtain ⟨c, n, hd, hn0, hpn, hc, hcase⟩ := rune_cases s pos hp
      simp only [hd] at hnx
      have hit2 := Lib.iterAt_heap wr (w.heap.size + 3) s pos (pos + n) hit
      have hws2 := hws.later (Nat.le_refl _) (Lib.below_iterAt (Below.refl (w.heap.size + 3) wr) (Nat.le_refl _) s (pos + n))
      have hown2 := ownsRow_iter hown (show w.heap.size + 3 < w.heap.size + 4 by omega) s (pos + n)
      have hb2 := Lib.below_iterAt hb (show w.heap.size ≤ w.heap.size + 3 by omega) s (pos + n)
      have HW2 : Hid (WS w.heap.size s v start (wr.iterAt (w.heap.size + 3) s (pos + n))) := hws2
      clear hws2 hws hown hb hd
      by_cases hbl : blankB (c : Int) = true
      · have hcn : n = 1 ∧ c = byte s pos := by
          rcases hcase with ⟨h1, h2, _⟩ | ⟨h1, _⟩
          · exact ⟨h1, h2⟩
          · rw [blank_high h1] at hbl; cases hbl
        have hW2 : Hid ((ws ++ flush (seg s start pos)) ++ wordsFrom (seg s (pos + 1) (pos + 1)) (s.data.toList.drop (pos + 1)) = words s.data.toList) := by
          have := hW.out
          rw [words_blank hp (by rw [← hcn.2]; exact hbl)] at this
          rw [← List.append_assoc] at this
          exact this
        have hfl : (flush (seg s start pos)).length ≤ 1 := by unfold flush; split <;> simp
        obtain ⟨hn1, hcb⟩ := hcn
        subst hn1
        clear hcase hW hcb
        go_wp2_with (go_at_call 31; refine (cBlank_any _ _).mono ?_; rintro e w' ⟨rfl, rfl⟩)
        refine (end_any w.heap.size pos start s v ws _ hps hs (by omega) HW2.out hown2).mono ?_
        rintro e W3 ⟨rfl, v3, ws3, own3, b3, i3⟩
        have HW3 : Hid (WS w.heap.size s v3 (pos + 1) W3) := ws3
        clear ws3
        go_wp2_with fail
        go_roundw
        case rel => exact ⟨pos + 1, pos + 1, ws ++ flush (seg s start pos), v3, i3.trans hit2, HW3.out, own3, hb2.trans (b3.mono (by omega)), hW2, Nat.le_refl _, hpn, by rw [List.length_append]; omega⟩
        case measure =>
          simp only [World.iterPos, i3.trans hit2, hit]
          omega
      · have hbl : blankB (c : Int) = false := Bool.eq_false_iff.2 hbl
        have hW2 : Hid (ws ++ wordsFrom (seg s start (pos + n)) (s.data.toList.drop (pos + n)) = words s.data.toList) := by
          have := hW.out
          rw [words_step (n := n) hsp] at this
          · exact this
          · intro k hk
            rcases hcase with ⟨h1, h2, _⟩ | ⟨_, h2⟩
            · obtain rfl : k = 0 := by omega
              rw [Nat.add_zero, ← h2]; exact hbl
            · exact blank_high (h2 k hk)
        clear hcase hW
        go_wp2_with (go_at_call 31; refine (cBlank_any _ _).mono ?_; rintro e w' ⟨rfl, rfl⟩)
        go_roundw
        case rel => exact ⟨pos + n, start, ws, v, hit2, HW2.out, hown2, hb2, hW2, by omega, hpn, by omega⟩
        case measure =>
          simp only [World.iterPos, hit2, hit]
          omega
    · have hnx : ∀ ty, (Instr.next (.pointer (some ⟨w.heap.size + 3, 0, none⟩)) true ty).run Tryd.prog wr = _ := fun ty => Lib.run_next_end_at wr (w.heap.size + 3) s pos ty hit hp
      obtain rfl : pos = s.size := by omega
      have hW2 : Hid (ws ++ flush (seg s start s.size) = words s.data.toList) := by
        have := hW.out
        rw [words_end] at this
        exact this
      have cS := hws.cS
      have HW2 : Hid (WS w.heap.size s v start wr) := hws
      clear hW hws
      go_wp2_with fail
      refine (end_any w.heap.size s.size start s v ws _ (Nat.le_refl _) hs (by omega) HW2.out hown).mono ?_
      rintro e W3 ⟨rfl, v3, ws3, own3, b3, i3⟩
      have cW := ws3.cW
      clear ws3
      go_wp2_with fail
      go_ret
      refine ⟨v3, rfl, ?_, hb.trans (b3.mono (by omega))⟩
      rw [hW2.out, strs_wordsB] at own3
      have own4 := ownsRow_low own3 (show w.heap.size ≤ w.heap.size + 4 by omega)
      simpa using own4
end Go.Proofs.YtmhbdckgejcdhaaDoor
