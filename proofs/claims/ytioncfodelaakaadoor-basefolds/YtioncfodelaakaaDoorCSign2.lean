/-
  The program's signWorth: the other ways through the library's search for a code point.
-/
import Derived.Test.YtioncfodelaakaaDoorCSign
namespace Go.Proofs.YtioncfodelaakaaDoor
open Go.RowKit Ch

set_option maxHeartbeats 2000000 in
set_option maxRecDepth 1000000 in
theorem iRune_bad (S : ByteArray) (c : Nat) (w : World) (h : 128 ≤ c) (hc : c ≤ 1114111) (hne : c ≠ 65533) (hv : Lib.validRune (c : Int) = false) :
    Calls Tryd.prog 42 #[.string S, .int .i32 (c : Int)] w fun e w' => e = .returned (.int .i64 (-1)) ∧ Below w.heap.size w w' := by
  have e1 : ((c : Int) == 65533) = false := beq_eq_false_iff_ne.2 (by omega)
  go_enter Tryd.func42, Tryd.ntmps42
  go_wp2_with (go_at_call 49; refine (Tryd.utf8_ValidRune _ _).mono ?_; rintro e w' ⟨rfl, rfl⟩; rw [hv])
  go_ret
  exact ⟨rfl, Below.refl _ _⟩

set_option maxHeartbeats 2000000 in
set_option maxRecDepth 1000000 in
theorem iRune_error (S : ByteArray) (w : World) (hS1 : S.size = 64) (hS : ∀ i, byte S i < 128) :
    Calls Tryd.prog 42 #[.string S, .int .i32 65533] w fun e w' => e = .returned (.int .i64 (-1)) ∧ Below w.heap.size w w' := by
  go_enter Tryd.func42, Tryd.ntmps42
  go_wp2_with fail
  go_loopw [5] (fun _ wr => ∃ pos : Nat, wr.heap[w.heap.size]? = some (.stringIter S pos) ∧ Below w.heap.size w wr ∧ pos ≤ S.size) (fun _ wr => S.size - wr.iterPos w.heap.size)
  case atStart =>
    refine ⟨0, ?_, (Below.refl _ w).alloc (Nat.le_refl _) _, Nat.zero_le _⟩
    have := World.iter_heap w S 0
    simpa using this
  case round =>
    obtain ⟨pos, hit, hbw, hps⟩ := hrel
    by_cases hp : pos < S.size
    · have hnx : ∀ ty, (Instr.next (.pointer (some ⟨w.heap.size, 0, none⟩)) true ty).run Tryd.prog wr = _ := fun ty => Lib.run_next_any_at wr w.heap.size S pos ty hit hp
      obtain ⟨c, n, hd, hn0, hpn, hc, hcase⟩ := rune_cases S pos hp
      simp only [hd] at hnx
      have hc128 : c < 128 := by
        rcases hcase with ⟨_, _, h⟩ | ⟨_, h⟩
        · exact h
        · have := h 0 hn0
          have := hS (pos + 0)
          omega
      have e1 : ((c : Int) == 65533) = false := beq_eq_false_iff_ne.2 (by omega)
      have hit2 := Lib.iterAt_heap wr w.heap.size S pos (pos + n) hit
      have hbw2 := Lib.below_iterAt hbw (k := w.heap.size) (Nat.le_refl _) S (pos + n)
      clear hd hcase hS
      go_wp2_with fail
      go_roundw
      case rel => exact ⟨pos + n, hit2, hbw2, hpn⟩
      case measure =>
        simp only [World.iterPos, hit2, hit]
        omega
    · have hnx : ∀ ty, (Instr.next (.pointer (some ⟨w.heap.size, 0, none⟩)) true ty).run Tryd.prog wr = _ := fun ty => Lib.run_next_end_at wr w.heap.size S pos ty hit hp
      go_wp2_with fail
      go_ret
      exact ⟨rfl, hbw⟩

def signs64 : ByteArray := ⟨#[65, 66, 67, 68, 69, 70, 71, 72, 73, 74, 75, 76, 77, 78, 79, 80, 81, 82, 83, 84, 85, 86, 87, 88, 89, 90, 97, 98, 99, 100, 101, 102, 103, 104, 105, 106, 107, 108, 109, 110, 111, 112, 113, 114, 115, 116, 117, 118, 119, 120, 121, 122, 48, 49, 50, 51, 52, 53, 54, 55, 56, 57, 43, 47]⟩
theorem signs64_low : ∀ x ∈ signs64.data.toList, x.toNat < 128 := by decide +kernel
theorem signs64_size : signs64.size = 64 := by decide +kernel
theorem signs64_index : ∀ c : Nat, c < 128 → Lib.indexByte signs64.data.toList ((c : Int).toNat.toUInt8) = sixZ c := by decide +kernel
theorem sixZ_high {c : Nat} (h : 128 ≤ c) : sixZ c = -1 := by
  have : sixO c = none := by unfold sixO; rw [if_neg (by omega), if_neg (by omega), if_neg (by omega), if_neg (by omega), if_neg (by omega)]
  unfold sixZ
  rw [this]

theorem iRune_signs (c : Nat) (w : World) (hc : c ≤ 1114111) :
    Calls Tryd.prog 42 #[.string signs64, .int .i32 (c : Int)] w fun e w' => e = .returned (.int .i64 (sixZ c)) ∧ Below w.heap.size w w' := by
  by_cases h : c < 128
  · refine (Tryd.strings_IndexRune_ascii signs64 (c : Int) w (by omega) (by omega)).mono ?_
    rintro e w' ⟨rfl, rfl⟩
    rw [signs64_index c h]
    exact ⟨rfl, Below.refl _ _⟩
  rw [sixZ_high (by omega)]
  by_cases h2 : c = 65533
  · subst h2
    refine iRune_error signs64 w signs64_size ?_
    intro i
    rw [byte_list]
    match hi : signs64.data.toList[i]? with
    | none => decide
    | some x => exact signs64_low x (List.mem_of_getElem? hi)
  by_cases hv : Lib.validRune (c : Int) = true
  · obtain ⟨h1, h4, hL⟩ := encode_high c (by omega) hc
    exact iRune_valid signs64 _ c _ ((Utf8.encode (c : Int)).size - 1) w signs64_size signs64_low (by omega) hc h2 hv rfl (by omega) (by omega) (by omega) hL rfl
  · exact iRune_bad signs64 c w (by omega) hc h2 (by simpa using hv)

theorem signW_any (c : Nat) (w : World) (hc : c ≤ 1114111) :
    Calls Tryd.prog 30 #[.int .i32 (c : Int)] w fun e w' => e = .returned (.int .i64 (sixZ c)) ∧ Below w.heap.size w w' := by
  have hcall := iRune_signs c w hc
  unfold signs64 at hcall
  go_enter Tryd.func30, Tryd.ntmps30
  go_wp2_with fail
  refine hcall.mono ?_
  rintro e w' ⟨rfl, h⟩
  go_wp2_with fail
  go_ret
  exact ⟨rfl, h⟩
end Go.Proofs.YtioncfodelaakaaDoor
