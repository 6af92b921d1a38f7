/-
  The document's Hex, for every list of bytes.
-/
import Derived.Test.YtgehgcnaoapbbaaDoorBPlain
import Derived.Test.YtgehgcnaoapbbaaDoorKWordEtc
import Derived.Lib.SlBytesConst
namespace Go.Proofs.YtgehgcnaoapbbaaDoor
open Go.RowKit Ch
set_option maxRecDepth 100000

theorem byte_cell {w : World} {b o : Nat} {s : ByteArray} (h : From w b o s 0) {j : Nat} (hj : j < s.size) : w.cell? ⟨b, o + j, none⟩ = some (.int .u8 (byte s j : Int)) := by
  have := h j (by omega)
  rw [Nat.zero_add] at this
  exact this
theorem hexN_lt {n : Nat} (h : n < 16) : hexN n < 128 := by unfold hexN; split <;> omega
theorem hexL_cons (c : UInt8) (r : List UInt8) : hexL (c :: r) = [UInt8.ofNat (hexN (c.toNat / 16)), UInt8.ofNat (hexN (c.toNat % 16))] ++ hexL r := rfl
/-- The digit of a half, as the document writes it. -/
theorem half_low {y : Nat} (h : y < 10) : ∃ d : UInt8, d = UInt8.ofNat (hexN y) ∧ Hid ((48 : Int) + (y : Int) = (d.toNat : Int)) := by
  refine ⟨_, rfl, ?_⟩
  unfold Hid hexN
  rw [if_pos h, UInt8.toNat_ofNat']
  omega
theorem half_high {y : Nat} (h : ¬ y < 10) (h2 : y < 16) : ∃ d : UInt8, d = UInt8.ofNat (hexN y) ∧ Hid ((87 : Int) + (y : Int) = (d.toNat : Int)) := by
  refine ⟨_, rfl, ?_⟩
  unfold Hid hexN
  rw [if_neg h, UInt8.toNat_ofNat']
  omega

set_option maxHeartbeats 400000 in
theorem sHex_empty (a : Option Addr) (cap : Nat) (w : World) :
    Calls Tryd.prog 18 #[.slice a 0 cap] w fun e w' => e = .returned (.string ⟨#[]⟩) ∧ w' = w := by
  have hcv : (convert 23 9 (.slice none 0 0)).run Tryd.prog w = .ok (.string ⟨#[]⟩) w := own_convert (l := []) (World.ownsRow_nil w 0 _ _)
  go_enter Tryd.func18, Tryd.ntmps18
  go_wp2
  go_loop [3, 4] (fun v i => v = .slice none 0 0 ∧ i = .int .i64 0) (fun _ _ => 0)
  case atStart => exact ⟨rfl, rfl⟩
  case round =>
    obtain ⟨rfl, rfl⟩ := hrel
    go_wp2
    go_ret
    exact ⟨rfl, rfl⟩

set_option maxHeartbeats 2000000 in
theorem sHex_some (b o cap : Nat) (s : ByteArray) (w : World) (hs : s.size ≤ 100000) (hcap : s.size ≤ cap) (hcap2 : cap ≤ maxLen) (hbw : b < w.heap.size) (hf : From w b o s 0) :
    Calls Tryd.prog 18 #[.slice (some ⟨b, o, none⟩) s.size cap] w fun e w' => e = .returned (.string ⟨(hexL s.data.toList).toArray⟩) ∧ Below w.heap.size w w' := by
  unfold maxLen at hcap2
  have HF : Hid (From w b o s 0) := hf
  clear hf
  go_enter Tryd.func18, Tryd.ntmps18
  go_wp2
  go_loopw [3, 4] (fun v t wr => ∃ (i : Nat) (acc : List UInt8), i ≤ s.size ∧ t = .int .i64 i ∧ wr.ownsRow w.heap.size 5 1 v acc.length (Lib.byteCells acc) ∧ Below w.heap.size w wr ∧ Hid (acc ++ hexL (s.data.toList.drop i) = hexL s.data.toList) ∧ acc.length ≤ 2 * i) (fun _ t _ => s.size - (intOf t).toNat)
  case atStart => exact ⟨0, [], Nat.zero_le _, rfl, World.ownsRow_nil _ _ _ _, Below.refl _ _, rfl, by simp⟩
  case round =>
    obtain ⟨i, acc, hi0, rfl, hown, hb, hacc, hal⟩ := hrel
    obtain ⟨wo, rfl⟩ : ∃ wo : World, wo = wr := ⟨_, rfl⟩
    by_cases hlt : i < s.size
    · obtain ⟨c, hc, hdr, hcc⟩ := byte_at8 s i hlt
      have elt : decide ((i : Int) < (s.size : Int)) = true := decide_eq_true (by omega)
      obtain ⟨x, hx⟩ : ∃ x, byte s i = x := ⟨_, rfl⟩
      have hx2 := byte_lt s i
      rw [hx] at hx2
      obtain ⟨d1, hd1⟩ : ∃ d : UInt8, UInt8.ofNat (hexN (c.toNat / 16)) = d := ⟨_, rfl⟩
      obtain ⟨d2, hd2⟩ : ∃ d : UInt8, UInt8.ofNat (hexN (c.toNat % 16)) = d := ⟨_, rfl⟩
      have hD1 : Hid (UInt8.ofNat (hexN (x / 16)) = d1) := by unfold Hid; rw [← hd1, hc, hx]
      have hD2 : Hid (UInt8.ofNat (hexN (x % 16)) = d2) := by unfold Hid; rw [← hd2, hc, hx]
      have hacc2 : Hid (acc ++ [d1] ++ [d2] ++ hexL (s.data.toList.drop (i + 1)) = hexL s.data.toList) := by
        have := hacc.out
        rw [hdr, hexL_cons, hd1, hd2] at this
        unfold Hid
        rw [← this]
        simp
      clear hacc hdr hcc hc hd1 hd2
      go_wp2_with fail
      go_loopw [3, 5] (fun v t wr => ∃ (k : Nat) (l : List UInt8), t = .int .i64 k ∧ wr.ownsRow w.heap.size 5 1 v l.length (Lib.byteCells l) ∧ Below w.heap.size w wr ∧ l.length ≤ 2 * i + k ∧ Hid ((k = 0 ∧ l = acc) ∨ (k = 1 ∧ l = acc ++ [d1]) ∨ (k = 2 ∧ l = acc ++ [d1] ++ [d2]))) (fun _ t _ => 2 - (intOf t).toNat)
      case atStart => exact ⟨0, acc, rfl, hown, hb, hal, .inl ⟨rfl, rfl⟩⟩
      case round =>
        obtain ⟨k, l, rfl, hwi, hbi, hll, hk⟩ := hrel
        have hbz := hbi.size
        have hcell : wr.cell? ⟨b, o + i, none⟩ = some (.int .u8 (x : Int)) := by
          have := byte_cell (HF.out.later hbw hbi) hlt
          rw [hx] at this
          exact this
        clear hown hb
        rcases hk.out with ⟨rfl, hl⟩ | ⟨rfl, hl⟩ | ⟨rfl, hl⟩
        · rw [hl] at hwi hll
          obtain ⟨y, hy⟩ : ∃ y, x / 16 = y := ⟨_, rfl⟩
          have hD := hD1.out
          rw [hy] at hD
          have e1 : (x : Int).tdiv 16 = (y : Int) := by rw [Int.tdiv_eq_ediv_of_nonneg (by omega)]; omega
          have e1' : (x : Int) / 16 = (y : Int) := by omega
          have hy16 : y < 16 := by omega
          clear hk hy hx hl
          by_cases hy10 : y < 10
          · obtain ⟨d, rfl, hdv⟩ := half_low hy10
            rw [hD] at hdv
            obtain ⟨l2, hl2, hn2⟩ := snoc_ex acc d1
            clear hD
            go_wp2_with (at_builtin; refine wpList_append_one rfl _ _ rfl w.heap.size _ _ rfl hwi _ rfl d1 hdv l2 hl2 (by omega) hbz hbi ?_)
            intro v2 w2 hown2 hb2
            clear hwi
            go_wp2_with fail
            go_roundw
            case rel => exact ⟨1, l2, by go_num, hown2, hb2, by omega, .inr (.inl ⟨rfl, hl2.out.symm⟩)⟩
            case measure => simp [intOf]
          · obtain ⟨d, rfl, hdv⟩ := half_high hy10 hy16
            rw [hD] at hdv
            obtain ⟨l2, hl2, hn2⟩ := snoc_ex acc d1
            clear hD
            go_wp2_with (at_builtin; refine wpList_append_one rfl _ _ rfl w.heap.size _ _ rfl hwi _ rfl d1 hdv l2 hl2 (by omega) hbz hbi ?_)
            intro v2 w2 hown2 hb2
            clear hwi
            go_wp2_with fail
            go_roundw
            case rel => exact ⟨1, l2, by go_num, hown2, hb2, by omega, .inr (.inl ⟨rfl, hl2.out.symm⟩)⟩
            case measure => simp [intOf]
        · obtain ⟨l1, hl1⟩ : ∃ l1, Hid (acc ++ [d1] = l1) := ⟨_, rfl⟩
          rw [hl, hl1.out] at hwi hll
          obtain ⟨y, hy⟩ : ∃ y, x % 16 = y := ⟨_, rfl⟩
          have hD := hD2.out
          rw [hy] at hD
          have e1 : (x : Int).tmod 16 = (y : Int) := by rw [Int.tmod_eq_emod_of_nonneg (by omega)]; omega
          have e1' : (x : Int) % 16 = (y : Int) := by omega
          have hy16 : y < 16 := by omega
          clear hk hy hx hl
          by_cases hy10 : y < 10
          · obtain ⟨d, rfl, hdv⟩ := half_low hy10
            rw [hD] at hdv
            obtain ⟨l2, hl2, hn2⟩ := snoc_ex l1 d2
            clear hD
            go_wp2_with (at_builtin; refine wpList_append_one rfl _ _ rfl w.heap.size _ _ rfl hwi _ rfl d2 hdv l2 hl2 (by omega) hbz hbi ?_)
            intro v2 w2 hown2 hb2
            clear hwi
            go_wp2_with fail
            go_roundw
            case rel => exact ⟨2, l2, by go_num, hown2, hb2, by omega, .inr (.inr ⟨rfl, by rw [hl1.out]; exact hl2.out.symm⟩)⟩
            case measure => simp [intOf]
          · obtain ⟨d, rfl, hdv⟩ := half_high hy10 hy16
            rw [hD] at hdv
            obtain ⟨l2, hl2, hn2⟩ := snoc_ex l1 d2
            clear hD
            go_wp2_with (at_builtin; refine wpList_append_one rfl _ _ rfl w.heap.size _ _ rfl hwi _ rfl d2 hdv l2 hl2 (by omega) hbz hbi ?_)
            intro v2 w2 hown2 hb2
            clear hwi
            go_wp2_with fail
            go_roundw
            case rel => exact ⟨2, l2, by go_num, hown2, hb2, by omega, .inr (.inr ⟨rfl, by rw [hl1.out]; exact hl2.out.symm⟩)⟩
            case measure => simp [intOf]
        · have hW : Hid (l ++ hexL (s.data.toList.drop (i + 1)) = hexL s.data.toList) := by unfold Hid; rw [hl]; exact hacc2.out
          clear hk hl hacc2
          go_wp2_with fail
          go_roundw
          case rel => exact ⟨i + 1, l, by omega, by go_num, hwi, hbi, hW, by omega⟩
          case measure => simp [intOf]; omega
    · have hW : Hid (acc = hexL s.data.toList) := by
        have := hacc.out
        rw [List.drop_of_length_le (by rw [len_eq]; omega)] at this
        have e0 : hexL [] = [] := rfl
        rw [e0, List.append_nil] at this
        exact this
      have hcv := own_convert hown
      clear hown hacc
      go_wp2
      go_ret
      rw [hW.out]
      exact ⟨rfl, hb⟩

theorem sHex_any (a : Option Addr) (cap : Nat) (s : ByteArray) (w : World) (hs : s.size ≤ 100000) (hB : IsBytes w (.slice a s.size cap) s) :
    Calls Tryd.prog 18 #[.slice a s.size cap] w fun e w' => e = .returned (.string ⟨(hexL s.data.toList).toArray⟩) ∧ Below w.heap.size w w' := by
  by_cases h0 : s.size = 0
  · rw [h0]
    refine (sHex_empty a cap w).mono ?_
    rintro e w' ⟨rfl, rfl⟩
    refine ⟨?_, Below.refl _ _⟩
    rw [empty_of_size h0]
    rfl
  · obtain ⟨a', cap', hv, hc, hm, ⟨_, h1, _⟩ | ⟨x, ha, h1 | ⟨b, o, hx, hb, hf⟩⟩⟩ := hB
    · exact absurd h1 h0
    · exact absurd h1 h0
    · simp only [Value.slice.injEq, true_and] at hv
      obtain ⟨rfl, rfl⟩ := hv
      rw [ha, hx]
      exact sHex_some b o cap s w hs hc hm hb hf

set_option maxRecDepth 100000 in
theorem hex_abc : hexL (shaL [97, 98, 99]) = [98, 97, 55, 56, 49, 54, 98, 102, 56, 102, 48, 49, 99, 102, 101, 97, 52, 49, 52, 49, 52, 48, 100, 101, 53, 100, 97, 101, 50, 50, 50, 51, 98, 48, 48, 51, 54, 49, 97, 51, 57, 54, 49, 55, 55, 97, 57, 99, 98, 52, 49, 48, 102, 102, 54, 49, 102, 50, 48, 48, 49, 53, 97, 100] := by
  rw [sha_abc]
  decide +kernel
theorem block_cellF {W : World} {b i : Nat} {c : Array Value} {t : TypeId} {fr : Nat × Nat} {v : Value} (h : W.heap[b]? = some (Obj.cells c t fr)) (hi : c[i]? = some v) : W.cell? ⟨b, i, none⟩ = some v := by simp [World.cell?, h, hi]
theorem lit_bytes (w : World) (s : ByteArray) (C : Array Value) (fr : Nat × Nat) (hC : C.toList = byteVals s) (hn : s.size ≤ maxLen) : IsBytes (w.alloc (.cells C 5 fr)) (.slice (some ⟨w.heap.size, 0, none⟩) s.size s.size) s := by
  refine ⟨some ⟨w.heap.size, 0, none⟩, s.size, rfl, Nat.le_refl _, hn, .inr ⟨_, rfl, .inr ⟨w.heap.size, 0, rfl, by simp, ?_⟩⟩⟩
  intro i hi
  rw [Nat.zero_add] at hi
  have e1 : (byteVals s)[i]? = some (.int .u8 (byte s i : Int)) := by
    unfold byteVals
    rw [List.getElem?_map, list_at s i hi, byte_eq s i hi]
    rfl
  rw [← hC, Array.getElem?_toList] at e1
  rw [Nat.zero_add]
  exact block_cellF (heap_push_at w _) e1
theorem IsSl.one {W : World} {u : Value} {t : ByteArray} (hI : IsBytes W u t) : IsSl (W.alloc (.cells #[u] 23)) (.slice (some ⟨W.heap.size, 0, none⟩) 1 1) [t] := by
  refine ⟨_, 1, rfl, .inr ⟨W.heap.size, 0, rfl, by simp, fun i t' ht => ?_⟩⟩
  rcases i with _ | i
  · simp only [List.getElem?_cons_zero, Option.some.injEq] at ht
    subst ht
    exact ⟨u, block_cell 0 (heap_push_at W _) rfl, hI.alloc _⟩
  · cases ht
set_option maxHeartbeats 2000000 in
theorem lkAwake_any (w : World) (hK : KTab w) : Calls Tryd.prog 9 #[] w fun e w' => e = .returned (.bool true) ∧ Below w.heap.size w w' := by
  have kc := fun (w : World) (C : Array Value) (n c : Nat) => Lib.run_convert_bytes_const (P := Tryd.prog) w 23 5 C n c Tryd.underlying23 Tryd.underlying5
  have hL := lit_bytes w ⟨#[97, 98, 99]⟩ #[.int .u8 97, .int .u8 98, .int .u8 99] (3, 4) rfl (by decide)
  have hb1 : Below w.heap.size w (w.alloc (.cells #[.int .u8 97, .int .u8 98, .int .u8 99] 5 (3, 4))) := (Below.refl _ w).alloc (Nat.le_refl _) _
  have hSl := IsSl.one hL
  have hb2 : Below w.heap.size w ((w.alloc (.cells #[.int .u8 97, .int .u8 98, .int .u8 99] 5 (3, 4))).alloc (.cells #[.slice (some ⟨w.heap.size, 0, none⟩) 3 3] 23)) := hb1.alloc (by simp) _
  have hsz : (w.alloc (.cells #[.int .u8 97, .int .u8 98, .int .u8 99] 5 (3, 4))).heap.size = w.heap.size + 1 := by simp
  rw [hsz] at hSl
  have hSum := kSum_any (.slice (some ⟨w.heap.size + 1, 0, none⟩) 1 1) [⟨#[97, 98, 99]⟩] ((w.alloc (.cells #[.int .u8 97, .int .u8 98, .int .u8 99] 5 (3, 4))).alloc (.cells #[.slice (some ⟨w.heap.size, 0, none⟩) 3 3] 23)) hSl (hK.later hb2) (by simp [flatB]) (by simp)
  have hfl : flatB [⟨#[97, 98, 99]⟩] = [97, 98, 99] := by simp [flatB]
  rw [hfl] at hSum
  have hhex := hex_abc
  have hs32 := shaL_length [97, 98, 99]
  generalize shaL [97, 98, 99] = SH at *
  have hzS : (⟨SH.toArray⟩ : ByteArray).size = 32 := by rw [size_of_list]; exact hs32
  clear hL hSl hb1 hsz
  go_enter Tryd.func9, Tryd.ntmps9
  go_wp2_with fail
  refine hSum.mono ?_
  rintro e w3 ⟨⟨B, rfl, _, hIB⟩, hb3⟩
  have hHex := sHex_any (some ⟨B, 0, none⟩) 32 ⟨SH.toArray⟩ w3 (by omega) (by rw [hzS]; exact hIB)
  rw [hzS, List.toList_toArray, hhex] at hHex
  clear hSum
  go_wp2_with fail
  refine hHex.mono ?_
  rintro e w4 ⟨rfl, hb4⟩
  go_wp2_with fail
  go_ret
  exact ⟨rfl, (hb2.trans (hb3.mono hb2.size)).trans (hb4.mono (Nat.le_trans hb2.size hb3.size))⟩
end Go.Proofs.YtgehgcnaoapbbaaDoor
