/-
  The program's Hex: the digits of bytes.
-/
import Derived.Test.YtnkefpopkaagaaaDoorDBox
import Derived.Test.YtnkefpopkaagaaaDoorBPlain
namespace Go.Proofs.YtnkefpopkaagaaaDoor
open Go.RowKit Ch
set_option maxRecDepth 100000

theorem hexN_lt {n : Nat} (h : n < 16) : hexN n < 128 := by unfold hexN; split <;> omega
theorem hexL_cons (c : UInt8) (r : List UInt8) : hexL (c :: r) = [UInt8.ofNat (hexN (c.toNat / 16)), UInt8.ofNat (hexN (c.toNat % 16))] ++ hexL r := rfl
theorem hex_toNat {n : Nat} (h : n < 16) : (UInt8.ofNat (hexN n)).toNat = hexN n := by
  rw [UInt8.toNat_ofNat']
  have := (show hexN n < 128 by unfold hexN; split <;> omega)
  omega
def digits16 : ByteArray := ⟨#[48, 49, 50, 51, 52, 53, 54, 55, 56, 57, 97, 98, 99, 100, 101, 102]⟩
theorem digits16_fin : ∀ y : Fin 16, (digits16[y.val]'(by have := y.isLt; exact this)).toNat = hexN y.val := by decide +kernel
theorem digits16_at (y : Nat) (h : y < digits16.size) : (digits16[y]'h).toNat = hexN y := digits16_fin ⟨y, h⟩
theorem hex_cell {y : Nat} (h : y < digits16.size) (h2 : y < 16) : [Value.int .u8 ((digits16[y]'h).toNat : Int)] = Lib.byteCells [UInt8.ofNat (hexN y)] := by
  rw [digits16_at y h]
  show _ = [Value.int .u8 ((UInt8.ofNat (hexN y)).toNat : Int)]
  rw [hex_toNat h2]

set_option maxHeartbeats 1000000 in
theorem cHex_some (b o cap : Nat) (s : ByteArray) (w : World) (hs : s.size ≤ 100000) (hb : b < w.heap.size) (hf : From w b o s 0) :
    Calls Tryd.prog 28 #[.slice (some ⟨b, o, none⟩) s.size cap] w fun e w' => e = .returned (.string ⟨(hexL s.data.toList).toArray⟩) ∧ Below w.heap.size w w' := by
  have HF : Hid (From w b o s 0) := hf
  clear hf
  go_enter Tryd.func28, Tryd.ntmps28
  go_wp2_with fail
  go_loopw [8] (fun t wr => ∃ (i : Nat) (acc : List UInt8), t = .int .i64 (i : Int) ∧ i ≤ s.size ∧ Lib.IsBuilderF 53 5 w.heap.size w.heap.size (Lib.byteCells acc) wr ∧ Below w.heap.size w wr ∧ Hid (acc ++ hexL (s.data.toList.drop i) = hexL s.data.toList) ∧ acc.length ≤ 2 * i ∧ w.heap.size ≤ wr.heap.size) (fun t _ => s.size - (intOf t).toNat)
  case atStart =>
    exact ⟨0, [], rfl, Nat.zero_le _, Lib.IsBuilderF.of (Lib.fresh_isBuilder 53 5 w), (Below.refl _ w).alloc (Nat.le_refl _) _, rfl, Nat.le_refl _, by simp⟩
  case round =>
    obtain ⟨i, acc, rfl, hi, hI, hbw, hacc, hal, hsz⟩ := hrel
    by_cases hlt : i < s.size
    · obtain ⟨x, hx⟩ : ∃ x, byte s i = x := ⟨_, rfl⟩
      have hcell : wr.cell? ⟨b, o + i, none⟩ = some (.int .u8 (x : Int)) := by
        have := byte_cell (HF.out.later hb hbw) hlt
        rw [hx] at this
        exact this
      have hx256 : x < 256 := by rw [← hx]; exact byte_lt s i
      obtain ⟨cc, hdr, hcc⟩ := drop_at s hlt
      have hacc2 : Hid (acc ++ [UInt8.ofNat (hexN (x / 16))] ++ [UInt8.ofNat (hexN (x % 16))] ++ hexL (s.data.toList.drop (i + 1)) = hexL s.data.toList) := by
        have := hacc.out
        rw [hdr, hexL_cons, hcc, hx] at this
        unfold Hid
        rw [← this]
        simp
      clear hacc hdr hcc hx
      go_wp2_with fail
      refine (Tryd.Builder_WriteByte_k w.heap.size w.heap.size _ _ _ hI (by rw [Lib.byteCells_length]; omega) hsz).mono ?_
      rintro e w3 ⟨rfl, h3, b3, k3⟩
      have hs3 := b3.size
      have h3' : Hid (Lib.BuilderAtF 53 5 w.heap.size w.heap.size (.pointer (some ⟨w.heap.size, 0, none⟩)) (Lib.byteCells (acc ++ [UInt8.ofNat (hexN (x / 16))])) w3) := by
        rw [Lib.byteCells_append, ← hex_cell (y := x / 16) (show x / 16 < 16 by omega) (by omega)]
        exact h3
      clear h3
      go_wp2_with fail
      refine (Tryd.Builder_WriteByte_k w.heap.size w.heap.size _ _ _ (Or.inr h3'.out) (by rw [Lib.byteCells_length, List.length_append]; simp; omega) (by omega)).mono ?_
      rintro e w4 ⟨rfl, h4, b4, k4⟩
      have hs4 := b4.size
      have h4' : Hid (Lib.BuilderAtF 53 5 w.heap.size w.heap.size (.pointer (some ⟨w.heap.size, 0, none⟩)) (Lib.byteCells (acc ++ [UInt8.ofNat (hexN (x / 16))] ++ [UInt8.ofNat (hexN (x % 16))])) w4) := by
        rw [Lib.byteCells_append _ [UInt8.ofNat (hexN (x % 16))], ← hex_cell (y := x % 16) (show x % 16 < 16 by omega) (by omega)]
        exact h4
      clear h4
      go_wp2_with fail
      go_roundw
      case rel => exact ⟨i + 1, _, by go_num, by omega, Or.inr h4'.out, hbw.trans (b3.trans b4), hacc2, by simp; omega, by omega⟩
      case measure => simp [intOf]; omega
    · have hW : Hid (acc = hexL s.data.toList) := by
        have := hacc.out
        rw [List.drop_of_length_le (by rw [len_eq]; omega)] at this
        have e0 : hexL [] = [] := rfl
        rw [e0, List.append_nil] at this
        exact this
      clear hacc
      rw [hW.out] at hI
      go_wp2_with fail
      refine (Tryd.Builder_String_any_k w.heap.size w.heap.size _ _ hI hsz).mono ?_
      rintro e w4 ⟨rfl, _, b4, _⟩
      go_wp2_with fail
      go_ret
      exact ⟨rfl, hbw.trans b4⟩

set_option maxHeartbeats 400000 in
theorem cHex_empty (a : Option Addr) (cap : Nat) (w : World) :
    Calls Tryd.prog 28 #[.slice a 0 cap] w fun e w' => e = .returned (.string ⟨#[]⟩) ∧ Below w.heap.size w w' := by
  go_enter Tryd.func28, Tryd.ntmps28
  go_wp2_with fail
  refine wp_loop_once ?_
  go_wp2_with fail
  refine (Tryd.Builder_String_any_k w.heap.size w.heap.size [] _ (Lib.IsBuilderF.of (Lib.fresh_isBuilder 53 5 w)) (by simp)).mono ?_
  rintro e w4 ⟨rfl, _, b4, _⟩
  go_wp2_with fail
  go_ret
  exact ⟨rfl, ((Below.refl _ w).alloc (Nat.le_refl _) _).trans b4⟩

theorem cHex_any (a : Option Addr) (cap : Nat) (s : ByteArray) (w : World) (hs : s.size ≤ 100000) (hB : IsBytes w (.slice a s.size cap) s) :
    Calls Tryd.prog 28 #[.slice a s.size cap] w fun e w' => e = .returned (.string ⟨(hexL s.data.toList).toArray⟩) ∧ Below w.heap.size w w' := by
  by_cases h0 : s.size = 0
  · rw [h0]
    refine (cHex_empty a cap w).mono ?_
    rintro e w' ⟨rfl, hb⟩
    refine ⟨?_, hb⟩
    rw [empty_of_size h0]
    rfl
  · obtain ⟨a', cap', hv, _, _, ⟨_, h1, _⟩ | ⟨x, ha, h1 | ⟨b, o, hx, hb, hf⟩⟩⟩ := hB
    · exact absurd h1 h0
    · exact absurd h1 h0
    · simp only [Value.slice.injEq, true_and] at hv
      obtain ⟨rfl, rfl⟩ := hv
      rw [ha, hx]
      exact cHex_some b o cap s w hs hb hf
end Go.Proofs.YtnkefpopkaagaaaDoor
