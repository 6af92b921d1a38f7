/-
  The program's rewritten: a text with each byte as a function value tells.
-/
import Derived.Test.YtnkefpopkaagaaaDoorDBox
import Derived.Test.YtnkefpopkaagaaaDoorEPerc
import Derived.Shelf.GgClosure.Gives
namespace Go.Proofs.YtnkefpopkaagaaaDoor
open Go.RowKit Ch
set_option maxRecDepth 100000

/-- What stands for a byte of which a function tells f. -/
def instead8 (f : UInt8 → List UInt8) (c : UInt8) : List UInt8 := if f c = [] then [c] else f c
def insteadL (f : UInt8 → List UInt8) (l : List UInt8) : List UInt8 := l.flatMap (instead8 f)
theorem insteadL_cons (f : UInt8 → List UInt8) (c : UInt8) (l : List UInt8) : insteadL f (c :: l) = instead8 f c ++ insteadL f l := by simp [insteadL]
/-- The function value tells f of each byte. -/
def Tells (g : Nat) (f : UInt8 → List UInt8) (w : World) : Prop := ∀ (W : World) (c : UInt8), Below w.heap.size w W → Calls Tryd.prog g #[.int .u8 (c.toNat : Int)] W fun e w' => e = .returned (.string ⟨(f c).toArray⟩) ∧ Below W.heap.size W w'

set_option maxHeartbeats 2000000 in
theorem rewritten_any (g : Nat) (eg : ∀ args w, (callFunc g args).run Tryd.prog w = .ok (.enter g args) w) (f : UInt8 → List UInt8) (hfl : ∀ c, (f c).length ≤ 10) (s : ByteArray) (w : World) (hs : s.size ≤ 1000000) (hT : Tells g f w) :
    Calls Tryd.prog 24 #[.string s, .func (.func g) #[] #[]] w fun e w' => e = .returned (.string ⟨(insteadL f s.data.toList).toArray⟩) ∧ Below w.heap.size w w' := by
  go_enter Tryd.func24, Tryd.ntmps24
  go_wp2_with fail
  go_loopw [10] (fun t wr => ∃ (i : Nat) (acc : List UInt8), t = .int .i64 (i : Int) ∧ i ≤ s.size ∧ Lib.IsBuilderF 53 5 w.heap.size w.heap.size (Lib.byteCells acc) wr ∧ Below w.heap.size w wr ∧ Hid (acc ++ insteadL f (s.data.toList.drop i) = insteadL f s.data.toList) ∧ acc.length ≤ 10 * i ∧ w.heap.size ≤ wr.heap.size) (fun t _ => s.size - (intOf t).toNat)
  case atStart =>
    exact ⟨0, [], rfl, Nat.zero_le _, Lib.IsBuilderF.of (Lib.fresh_isBuilder 53 5 w), (Below.refl _ w).alloc (Nat.le_refl _) _, rfl, Nat.le_refl _, by simp⟩
  case round =>
    obtain ⟨i, acc, rfl, hi, hI, hbw, hacc, hal, hsz⟩ := hrel
    by_cases hlt : i < s.size
    · obtain ⟨c, hc, hdr, hcc⟩ := byte_at8 s i hlt
      have hG := hT wr c hbw
      have hfc := hfl c
      obtain ⟨l, hl⟩ : ∃ l, f c = l := ⟨_, rfl⟩
      have hacc2 : Hid (acc ++ instead8 f c ++ insteadL f (s.data.toList.drop (i + 1)) = insteadL f s.data.toList) := by
        have := hacc.out
        rw [hdr, insteadL_cons] at this
        unfold Hid
        rw [← this]
        simp
      rw [hl] at hG hfc
      unfold instead8 at hacc2
      rw [hl] at hacc2
      clear hacc hdr hc hl hT hfl
      by_cases h0 : l = []
      · rw [if_pos h0] at hacc2
        subst h0
        go_wp2_with (go_at_fn g; go_must (refine hG.mono ?_; rintro e w3 ⟨rfl, b3⟩))
        have hI3 := builder_later hI b3
        have hz3 := b3.size
        clear hI
        go_wp2_with (go_at_call 30; refine (Tryd.Builder_WriteByte_k w.heap.size w.heap.size _ _ _ hI3 (by rw [Lib.byteCells_length]; omega) (by omega)).mono ?_)
        rintro e w4 ⟨rfl, h4, b4, k4⟩
        have hs4 := b4.size
        have h4' : Hid (Lib.BuilderAtF 53 5 w.heap.size w.heap.size (.pointer (some ⟨w.heap.size, 0, none⟩)) (Lib.byteCells (acc ++ [c])) w4) := by
          rw [← cells_snoc]
          exact h4
        clear h4
        go_wp2_with fail
        go_roundw
        case rel => exact ⟨i + 1, _, by go_num, by omega, Or.inr h4'.out, hbw.trans ((b3.mono hsz).trans b4), hacc2, by simp; omega, by omega⟩
        case measure => simp [intOf]; omega
      · rw [if_neg h0] at hacc2
        have hne : l.isEmpty = false := by cases l with | nil => exact absurd rfl h0 | cons x r => rfl
        clear h0
        go_wp2_with (go_at_fn g; go_must (refine hG.mono ?_; rintro e w3 ⟨rfl, b3⟩))
        have hI3 := builder_later hI b3
        have hz3 := b3.size
        clear hI
        go_wp2_with (go_at_call 37; refine (Tryd.Builder_WriteString_k w.heap.size w.heap.size _ _ _ hI3 (by rw [Lib.byteCells_length, size_of_list]; omega) (by omega)).mono ?_)
        rintro e w4 ⟨rfl, h4, b4, k4⟩
        have hs4 := b4.size
        rw [text_cells, ← Lib.byteCells_append] at h4
        have h4' : Hid (Lib.BuilderAtF 53 5 w.heap.size w.heap.size (.pointer (some ⟨w.heap.size, 0, none⟩)) (Lib.byteCells (acc ++ l)) w4) := h4
        clear h4
        go_wp2_with fail
        go_roundw
        case rel => exact ⟨i + 1, _, by go_num, by omega, Or.inr h4'.out, hbw.trans ((b3.mono hsz).trans b4), hacc2, by simp; omega, by omega⟩
        case measure => simp [intOf]; omega
    · have hW : Hid (acc = insteadL f s.data.toList) := by
        have := hacc.out
        rw [List.drop_of_length_le (by rw [len_eq]; omega)] at this
        have e0 : insteadL f [] = [] := rfl
        rw [e0, List.append_nil] at this
        exact this
      clear hacc hT
      rw [hW.out] at hI
      go_wp2_with fail
      refine (Tryd.Builder_String_any_k w.heap.size w.heap.size _ _ hI hsz).mono ?_
      rintro e w4 ⟨rfl, _, b4, _⟩
      go_wp2_with fail
      go_ret
      exact ⟨rfl, hbw.trans b4⟩
end Go.Proofs.YtnkefpopkaagaaaDoor
