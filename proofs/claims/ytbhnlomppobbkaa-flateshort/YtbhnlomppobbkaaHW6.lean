/-
  The program's Deflate.
-/
import Derived.Test.YtbhnlomppobbkaaHW5
import Derived.Outline
namespace Go.Proofs.Ytbhnlomppobbkaa
open Go.RowKit Ch
set_option maxRecDepth 100000

theorem Wr.later {wb : Nat} {pre : List UInt8} {l : List Bool} {v : Value} {W W' : World} (h : Wr wb pre l v W) (hb : Below W.heap.size W W') : Wr wb pre l v W' :=
  ⟨(hb.block wb (block_lt h.box)).trans h.box, ownsRow_later h.row hb⟩
/-- The bits of a deflated text, and its bytes. -/
def deflBits (s : ByteArray) : List Bool := [true, true, false] ++ deflB (byte s) s.size 0
def deflL (s : ByteArray) : List UInt8 := pack (deflBits s)
theorem lenBits_length (n : Nat) (h : n ≤ 258) : (lenBits n).length ≤ 29 := by
  unfold lenBits
  split
  · rw [codeBits_length]; decide
  · rw [List.length_append, codeBits_length, numBits_length]
    have h1 := stepOf_is (x := n - 3) (Or.inr rfl) (by omega)
    have h2 := moreN_width (stepOf (n - 3) 4) 4 (Or.inr rfl) (by omega)
    have h3 : (fixC (257 + stepOf (n - 3) 4)).2 ≤ 9 := by
      unfold fixC
      split; simp; split; simp; split <;> simp
    omega
theorem farBits_length (d : Nat) (h : d ≤ 512) : (farBits d).length ≤ 25 := by
  unfold farBits
  rw [List.length_append, codeBits_length, numBits_length]
  have h1 := stepOf_is (x := d - 1) (Or.inl rfl) (by omega)
  have h2 := moreN_width (stepOf (d - 1) 2) 2 (Or.inl rfl) (by omega)
  omega
theorem byte_lt256 (s : ByteArray) (i : Nat) : byte s i < 256 := byte_lt s i
set_option maxHeartbeats 4000000 in
theorem hDeflate_any (x : Option Addr) (cap : Nat) (s : ByteArray) (w : World) (hs : s.size ≤ 20000) (hB : IsBytes w (.slice x s.size cap) s) :
    Calls Try.prog 10 #[.slice x s.size cap] w fun e w' => (∃ v, e = .returned (.tuple #[v, .int .i64 0]) ∧ w'.ownsRow w.heap.size 5 1 v (deflL s).length (Lib.byteCells (deflL s))) ∧ Below w.heap.size w w' := by
  have hle : ¬ ((65536 : Int) < (s.size : Int)) := by omega
  have HB : Hid (IsBytes w (.slice x s.size cap) s) := hB
  clear hB
  go_enter Try.func10, Try.ntmps10
  have hW0 : Wr w.heap.size [] [] (.slice none 0 0) (w.alloc (.cells #[.slice none 0 0, .int .i64 0] 40)) := ⟨heap_push_at w _, World.ownsRow_nil _ _ _ _⟩
  have hH := wHeader_any w.heap.size [] [] _ _ hW0 true 1 (by omega) (by simp [pack_nil])
  go_wp2_with (go_at_call 17; go_must (refine hH.mono ?_; rintro e w1 ⟨rfl, v1, hW1, hb1⟩))
  have hbw1 : Below w.heap.size w w1 := ((Below.refl _ w).alloc (Nat.le_refl _) _).trans hb1
  clear hH hW0
  go_wp2_with fail
  go_loopw [5, 6, 7] (fun t _ _ wr => ∃ (i : Nat) (l : List Bool) (v : Value), i ≤ s.size ∧ t = .int .i64 (i : Int) ∧ Wr w.heap.size [] l v wr ∧ Below w.heap.size w wr ∧ Hid (l ++ deflB (byte s) s.size i = deflBits s) ∧ l.length ≤ 3 + 60 * i) (fun t _ _ _ => s.size - (intOf t).toNat)
  case atStart => exact ⟨0, _, v1, Nat.zero_le _, rfl, hW1, hbw1, rfl, by simp [numBits]⟩
  case round =>
    obtain ⟨i, l, v, hi, rfl, hW, hb, hl, hlen⟩ := hrel
    have hpk : ([] ++ pack l : List UInt8).length ≤ 160000 := by rw [List.nil_append, pack_length]; omega
    by_cases hlt : i < s.size
    · have hL := hLongest_any x cap s i wr (by omega) (HB.out.later hb) hlt
      obtain ⟨c1, c2, c3, c4, c5⟩ := copyAt_le (byte s) s.size i
      have hD : Hid (deflB (byte s) s.size i = if (copyAt (byte s) s.size i).1 < 3 then signBits (byte s i) ++ deflB (byte s) s.size (i + 1) else lenBits (copyAt (byte s) s.size i).1 ++ farBits (copyAt (byte s) s.size i).2 ++ deflB (byte s) s.size (i + (copyAt (byte s) s.size i).1)) := by
        unfold Hid
        rw [deflB_unfold, if_pos hlt]
      generalize (copyAt (byte s) s.size i).1 = n at *
      generalize (copyAt (byte s) s.size i).2 = d at *
      by_cases hn : n < 3
      · obtain ⟨b, o, rfl, hb0, hc⟩ := (HB.out.later hb).cellAt hlt
        have hby := byte_lt256 s i
        have hD2 : Hid (l ++ signBits (byte s i) ++ deflB (byte s) s.size (i + 1) = deflBits s) := by
          unfold Hid
          rw [← hl.out, hD.out, if_pos hn, List.append_assoc]
        generalize byte s i = y at *
        have hX := fun w => hFixedCode_any y w (by omega)
        have hsl := signBits_length y (by omega)
        clear hD hl
        have HC : Hid (∀ w2, Below wr.heap.size wr w2 → w2.cell? ⟨b, o + i, none⟩ = some (.int .u8 (y : Int))) := fun w2 hb2 => (hb2.cell (p := ⟨b, o + i, none⟩) hb0).trans hc
        clear hc
        go_wp2_with (go_at_call 18; go_must (refine hL.mono ?_; rintro e w2 ⟨rfl, hb2⟩; have hc2 := HC.out w2 hb2))
        have hS := wSign_any w.heap.size [] l v w2 (hW.later hb2) y (by omega) (by omega)
        have hbw2 : Below w.heap.size w w2 := hb.trans (hb2.mono hb.size)
        clear hL hb2
        go_wp2_with (first | (go_at_call 20; go_must (refine (hX _).mono ?_; rintro e w3 ⟨rfl, rfl⟩)) | (go_at_call 19; go_must (refine hS.mono ?_; rintro e w3 ⟨rfl, v3, hW3, hb3⟩)))
        go_wp2_with fail
        go_roundw
        case rel => exact ⟨i + 1, _, v3, by omega, by go_num, hW3, hbw2.trans hb3, hD2, by rw [List.length_append]; omega⟩
        case measure => simp [intOf]; omega
      · have hD2 : Hid (l ++ (lenBits n ++ farBits d) ++ deflB (byte s) s.size (i + n) = deflBits s) := by
          unfold Hid
          rw [← hl.out, hD.out, if_neg hn, List.append_assoc]
        have k1 := lenBits_length n (by omega)
        have k2 := farBits_length d (by omega)
        clear hD hl
        go_wp2_with (go_at_call 18; go_must (refine hL.mono ?_; rintro e w2 ⟨rfl, hb2⟩))
        have hC := wCopying_any w.heap.size [] l v w2 (hW.later hb2) n d (by omega) (by omega) (c5 (by omega)) (by omega) (by omega)
        have hbw2 : Below w.heap.size w w2 := hb.trans (hb2.mono hb.size)
        clear hL hb2
        go_wp2_with (go_at_call 21; go_must (refine hC.mono ?_; rintro e w3 ⟨rfl, v3, hW3, hb3⟩))
        go_wp2_with fail
        go_roundw
        case rel => exact ⟨i + n, _, v3, by omega, by go_num, hW3, hbw2.trans hb3, hD2, by rw [List.length_append, List.length_append]; omega⟩
        case measure => simp [intOf]; omega
    · have hD : Hid (l ++ signBits 256 = deflBits s) := by
        unfold Hid
        rw [← hl.out, deflB_unfold, if_neg hlt]
      have hX := fun w => hFixedCode_any 256 w (by omega)
      have hS := wSign_any w.heap.size [] l v wr hW 256 (by omega) (by omega)
      clear hl
      rw [hD.out] at hS
      go_wp2_with (first | (go_at_call 20; go_must (refine (hX _).mono ?_; rintro e w3 ⟨rfl, rfl⟩)) | (go_at_call 19; go_must (refine hS.mono ?_; rintro e w3 ⟨rfl, v3, hW3, hb3⟩; have g0 := hW3.cells.1)))
      have hrow : Hid (w3.ownsRow (w.heap.size + 1) 5 1 v3 ([] ++ pack (deflBits s)).length (Lib.byteCells ([] ++ pack (deflBits s)))) := hW3.row
      clear hW3
      go_wp2
      go_ret2
      refine ⟨⟨v3, rfl, ?_⟩, hb.trans hb3⟩
      have h1 := hrow.out
      rw [List.nil_append] at h1
      refine ⟨h1.1, ?_⟩
      rcases h1.2 with h2 | ⟨g, cap, cur, hv, hg2, hh, r⟩
      · exact .inl h2
      · exact .inr ⟨g, cap, cur, hv, by omega, hh, r⟩
set_option maxHeartbeats 4000000 in
theorem hDeflate_long (x : Option Addr) (n cap : Nat) (w : World) (hs : 65536 < n) :
    Calls Try.prog 10 #[.slice x n cap] w fun e w' => e = .returned (.tuple #[.slice none 0 0, .int .i64 12]) ∧ w' = w := by
  have hle : (65536 : Int) < (n : Int) := by omega
  go_enter Try.func10, Try.ntmps10
  go_wp2
  go_ret2
  exact ⟨rfl, rfl⟩
end Go.Proofs.Ytbhnlomppobbkaa
