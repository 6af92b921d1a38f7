/-
  Bad: where the first byte is that is no character's, for every text.
-/
import Derived.Test.YtmhbdckgejcdhaaDoorTab
import Derived.Lib.OthersKept
namespace Go.Proofs.YtmhbdckgejcdhaaDoor
open Go.RowKit Ch

theorem ret_int {k : IntKind} {a b : Int} (h : a = b) : Ending.returned (.int k a) = .returned (.int k b) := by rw [h]

theorem one_char {s : ByteArray} {p : Nat} (h : (one s p).2 ≠ 0) : Utf8.decode s p = one s p := by rw [decode_one, if_neg h]
theorem one_none {s : ByteArray} {p : Nat} (h : (one s p).2 = 0) : Utf8.decode s p = (65533, 1) := by rw [decode_one, if_pos h]

set_option maxHeartbeats 400000 in
theorem cBad_any (v : Value) (s : ByteArray) (w : World) (hs : s.size ≤ 1000000) (hcv : (convert 22 9 v).run Tryd.prog w = .ok (.string s) w) :
    Calls Tryd.prog 9 #[v] w fun e w' => e = .returned (.int .i64 (bad s)) ∧ Below w.heap.size w w' := by
  go_enter Tryd.func9, Tryd.ntmps9
  go_wp2
  clear hcv
  go_loopw [] (fun wr => ∃ (pos fuel : Nat), wr.heap[w.heap.size]? = some (.stringIter s pos) ∧ Below w.heap.size w wr ∧ Hid (badFrom s fuel pos = bad s) ∧ s.size ≤ pos + fuel) (fun wr => s.size - wr.iterPos w.heap.size)
  case atStart =>
    exact ⟨0, s.size, World.iter_heap w s 0, (Below.refl _ w).alloc (Nat.le_refl _) _, rfl, by omega⟩
  case round =>
    obtain ⟨pos, fuel, hit, hb, hbad, hfu⟩ := hrel
    by_cases hp : pos < s.size
    · have hnx : ∀ ty, (Instr.next (.pointer (some ⟨w.heap.size, 0, none⟩)) true ty).run Tryd.prog wr = _ := fun ty => Lib.run_next_any_at wr w.heap.size s pos ty hit hp
      obtain ⟨f, rfl⟩ : ∃ f, fuel = f + 1 := ⟨fuel - 1, by omega⟩
      by_cases h0 : (one s pos).2 = 0
      · have hst : Hid (bad s = pos) := hbad.out.symm.trans (badFrom_stop hp (.inl h0))
        simp only [one_none h0] at hnx
        have hbr : brokenB s pos 65533 = true := by
          have := broken_one s pos
          rw [one_none h0, decide_eq_true h0] at this
          exact this
        have hch : charB 65533 = true := rfl
        have hb2 := Lib.below_iterAt hb (Nat.le_refl _) s (pos + 1)
        clear h0 hbad hb
        go_wp2_with (first | (go_at_call 22; refine (cAllowed_any _ _).mono ?_; rintro e w' ⟨rfl, rfl⟩) | (go_at_call 23; refine (cBroken_any s pos _ _ (by unfold maxLen; omega) (by omega)).mono ?_; rintro e w' ⟨rfl, rfl⟩))
        go_ret
        exact ⟨ret_int hst.out.symm, hb2⟩
      · obtain ⟨c, n, hcn⟩ : ∃ c n, one s pos = (c, n) := ⟨_, _, rfl⟩
        have hd := one_char h0
        rw [hcn] at hd
        have hbr := broken_one s pos
        simp only [hd] at hnx hbr
        rw [decide_eq_false h0] at hbr
        have hb2 := Lib.below_iterAt hb (Nat.le_refl _) s (pos + n)
        have hit2 := Lib.iterAt_heap wr w.heap.size s pos (pos + n) hit
        by_cases hch : charB (c : Int) = true
        · have hst : Hid (badFrom s f (pos + n) = bad s) := by
            have := badFrom_step (f := f) hp h0 (by rw [hcn]; exact hch)
            rw [hcn] at this
            exact this.symm.trans hbad.out
          have hn0 : n ≠ 0 := by rw [hcn] at h0; exact h0
          clear h0 hbad hb hd hcn
          go_wp2_with (first | (go_at_call 22; refine (cAllowed_any _ _).mono ?_; rintro e w' ⟨rfl, rfl⟩) | (go_at_call 23; refine (cBroken_any s pos _ _ (by unfold maxLen; omega) (by omega)).mono ?_; rintro e w' ⟨rfl, rfl⟩))
          go_roundw
          case rel => exact ⟨pos + n, f, hit2, hb2, hst, by omega⟩
          case measure =>
            simp only [World.iterPos, hit2, hit]
            omega
        · have hch : charB (c : Int) = false := Bool.eq_false_iff.2 hch
          have hst : Hid (bad s = pos) := hbad.out.symm.trans (badFrom_stop hp (.inr (by rw [hcn]; exact hch)))
          clear h0 hbad hb hd hcn
          go_wp2_with (first | (go_at_call 22; refine (cAllowed_any _ _).mono ?_; rintro e w' ⟨rfl, rfl⟩))
          go_ret
          exact ⟨ret_int hst.out.symm, hb2⟩
    · have hnx : ∀ ty, (Instr.next (.pointer (some ⟨w.heap.size, 0, none⟩)) true ty).run Tryd.prog wr = _ := fun ty => Lib.run_next_end_at wr w.heap.size s pos ty hit hp
      have hst : Hid (bad s = -1) := hbad.out.symm.trans (badFrom_end hp)
      go_wp2
      go_ret
      exact ⟨ret_int hst.out.symm, hb⟩
end Go.Proofs.YtmhbdckgejcdhaaDoor
