/-
  The program's Stored.
-/
import Derived.Test.YtbhnlomppobbkaaHW6
import Derived.Test.YtbhnlomppobbkaaHStor
namespace Go.Proofs.Ytbhnlomppobbkaa
open Go.RowKit Ch
set_option maxRecDepth 100000

theorem bits_xor_full {n : Nat} (h : n < 65536) : bits .xor .i64 (n : Int) 65535 = ((65535 - n : Nat) : Int) := by
  have h1 : ((65535 : Nat) : Int) = 65535 := rfl
  have ha : n % 2 ^ IntKind.i64.bits = n := Nat.mod_eq_of_lt (by show n < 2 ^ 64; omega)
  have hb : 65535 % 2 ^ IntKind.i64.bits = 65535 := by decide
  rw [← h1]
  simp only [bits, BitVec.ofInt_natCast, BitVec.toNat_xor, BitVec.toNat_ofNat, ha, hb]
  rw [xor_full n h]
  exact wraps_i64 _ (by omega) (by omega)
theorem stored_step {t : ByteArray} {n : Nat} {l : Bool} {acc T R : List UInt8} (hN : min 65535 t.size = n) (hL : decide (n = t.size) = l) (hA : acc ++ storedL t.data.toList = T) (hR : R = acc ++ headL l n ++ seg t 0 n) (hz : (⟨(seg t n t.size).toArray⟩ : ByteArray).size = t.size - n) :
    Hid ((l = false → R ++ storedL (⟨(seg t n t.size).toArray⟩ : ByteArray).data.toList = T) ∧ (l = true → R = T ∧ (⟨(seg t n t.size).toArray⟩ : ByteArray).size = 0)) := by
  have hlen := len_eq t
  refine ⟨fun e => ?_, fun e => ?_⟩
  · subst e
    have hne : n ≠ t.size := of_decide_eq_false hL
    have hn : n = 65535 := by omega
    have hM : storedL t.data.toList = headL false n ++ t.data.toList.take n ++ storedL (t.data.toList.drop n) := by rw [hn]; exact storedL_more (by omega)
    have e0 : (⟨(seg t n t.size).toArray⟩ : ByteArray).data.toList = seg t n t.size := List.toList_toArray
    have e1 : seg t 0 n = t.data.toList.take n := by unfold seg; rw [List.drop_zero, Nat.sub_zero]
    have e2 : seg t n t.size = t.data.toList.drop n := by unfold seg; rw [List.take_of_length_le (by rw [List.length_drop]; omega)]
    rw [hR, ← hA, hM, e0]
    rw [e1, e2]
    simp only [List.append_assoc]
  · subst e
    have he : n = t.size := of_decide_eq_true hL
    rw [storedL_last (by omega)] at hA
    have e1 : seg t 0 n = t.data.toList := by unfold seg; rw [List.drop_zero, List.take_of_length_le (by omega)]
    refine ⟨?_, by rw [hz]; omega⟩
    rw [hR, ← hA, e1, hlen, he, List.append_assoc]
def goesOn : Value → Nat
  | .bool true => 0
  | _ => 1
set_option maxHeartbeats 4000000 in
theorem hStored_any (x : Option Addr) (cap : Nat) (s : ByteArray) (w : World) (hs : s.size ≤ 300000) (hB : IsBytes w (.slice x s.size cap) s) :
    Calls Try.prog 11 #[.slice x s.size cap] w fun e w' => (∃ v, e = .returned v ∧ w'.ownsRow w.heap.size 5 1 v (storedL s.data.toList).length (Lib.byteCells (storedL s.data.toList))) ∧ Below w.heap.size w w' := by
  have hSL := storedL_length s.data.toList.length s.data.toList (Nat.le_refl _)
  rw [len_eq] at hSL
  have HT : Hid ((storedL s.data.toList).length ≤ 400000) := by unfold Hid; rw [hSL]; omega
  obtain ⟨T, hT⟩ : ∃ T, storedL s.data.toList = T := ⟨_, rfl⟩
  rw [hT] at HT
  rw [hT]
  clear hSL
  go_enter Try.func11, Try.ntmps11
  go_wp2_with fail
  go_loopw [0, 4, 5] (fun b q _ wr => ∃ (t : ByteArray) (y : Option Addr) (c : Nat) (last : Bool) (acc : List UInt8) (v : Value), b = .slice y t.size c ∧ q = .bool last ∧ IsBytes w (.slice y t.size c) t ∧ Wr w.heap.size acc [] v wr ∧ Below w.heap.size w wr ∧ Hid ((last = false → acc ++ storedL t.data.toList = T) ∧ (last = true → acc = T ∧ t.size = 0)) ∧ t.size ≤ s.size) (fun b q _ _ => goesOn q * (lenOf b + 1))
  case atStart => exact ⟨s, x, cap, false, [], .slice none 0 0, rfl, rfl, hB, ⟨heap_push_at w _, World.ownsRow_nil _ _ _ _⟩, (Below.refl _ w).alloc (Nat.le_refl _) _, ⟨fun _ => hT, fun h => by cases h⟩, Nat.le_refl _⟩
  case round =>
    obtain ⟨t, y, c, last, acc, v, rfl, rfl, hB1, hW, hb, hacc, htl⟩ := hrel
    cases last with
    | true =>
      have hrow : Hid (wr.ownsRow (w.heap.size + 1) 5 1 v (acc ++ pack []).length (Lib.byteCells (acc ++ pack []))) := hW.row
      have g0 := hW.cells.1
      have hA := (hacc.out.2 rfl).1
      go_wp2
      go_ret
      refine ⟨⟨v, rfl, ?_⟩, hb⟩
      have h1 := hrow.out
      rw [pack_nil, List.append_nil, hA] at h1
      refine ⟨h1.1, ?_⟩
      rcases h1.2 with h2 | ⟨g, cap, cur, hv, hg2, hh, r⟩
      · exact .inl h2
      · exact .inr ⟨g, cap, cur, hv, by omega, hh, r⟩
    | false =>
      have hA := hacc.out.1 rfl
      have hal : acc.length ≤ 400000 := by have := HT.out; rw [← hA, List.length_append] at this; omega
      have hal2 : (acc ++ pack []).length ≤ 400000 := by rw [pack_nil, List.append_nil]; exact hal
      obtain ⟨n, hn⟩ : ∃ n, min 65535 t.size = n := ⟨_, rfl⟩
      have en : min 65535 (t.size : Int) = (n : Int) := by omega
      have hn1 : n ≤ 65535 := by omega
      have hn2 : n ≤ t.size := by omega
      have HN : Hid (min 65535 t.size = n) := hn
      clear hn
      obtain ⟨l, hl⟩ : ∃ l : Bool, decide (n = t.size) = l := ⟨_, rfl⟩
      have hl2 : ((n : Int) == (t.size : Int)) = l := by
        rw [← hl]
        by_cases e : n = t.size
        · rw [decide_eq_true e]; simp [e]
        · rw [decide_eq_false e]; simp; omega
      have HL : Hid (decide (n = t.size) = l) := hl
      have hH := wHeader_any w.heap.size acc [] v wr hW l 0 (by omega) (by omega)
      have ex := bits_xor_full (n := n) (by omega)
      obtain ⟨m, hm⟩ : ∃ m, 65535 - n = m := ⟨_, rfl⟩
      rw [hm] at ex
      have hm2 : m < 65536 := by omega
      have HM : Hid (65535 - n = m) := hm
      clear hm
      have hnb : numBits 0 2 = [false, false] := rfl
      rw [List.nil_append, hnb] at hH
      have hp1 : pack [l, false, false] = [UInt8.ofNat l.toNat] := by cases l <;> rfl
      clear hl hacc hW
      go_wp2_with (go_at_call 17; go_must (refine hH.mono ?_; rintro e w1 ⟨rfl, v1, hW1, hb1⟩))
      have hA1 := wAligned_any w.heap.size acc _ v1 w1 hW1 n (by omega) (by rw [hp1, List.length_append]; simp; omega)
      rw [hp1] at hA1
      clear hp1 hH
      go_wp2_with fail
      refine hA1.mono ?_
      rintro e w2 ⟨rfl, v2, hW2, hb2⟩
      have hA2 := wAligned_any w.heap.size _ _ v2 w2 hW2 m (by omega) (by simp [pack_nil]; omega)
      clear hA1
      go_wp2_with fail
      refine hA2.mono ?_
      rintro e w3 ⟨rfl, v3, hW3, hb3⟩
      have hbw3 : Below w.heap.size w w3 := ((hb.trans hb1).trans hb2).trans hb3
      have hcap : t.size ≤ c := by
        obtain ⟨_, _, hv, hc, _⟩ := hB1
        simp only [Value.slice.injEq] at hv
        omega
      have hH3 := (hB1.later hbw3).head hn2
      have HHd : Hid (acc ++ [UInt8.ofNat l.toNat] ++ [UInt8.ofNat (n % 256), UInt8.ofNat (n / 256)] ++ pack [] ++ [UInt8.ofNat (m % 256), UInt8.ofNat (m / 256)] = acc ++ headL l n) := by
        unfold Hid headL
        rw [HM.out, pack_nil]
        simp
      rw [HHd.out] at hW3
      clear hA2 hb hb1 hb2 hb3 HHd hW1 hW2
      have g0 := hW3.cells.1
      have g1 := hW3.cells.2.1
      have hrow := hW3.row
      rw [pack_nil, List.append_nil] at hrow
      have hbox : Hid (w3.heap[w.heap.size]? = some (Obj.cells #[v3, .int .i64 0] 40 (0, 0))) := hW3.box
      have hal3 : (acc ++ headL l n).length ≤ 500000 := by rw [List.length_append, headL_length]; omega
      have hzs : (⟨(seg t 0 n).toArray⟩ : ByteArray).size = n := seg_text_size t hn2
      have hws3 : w.heap.size + 1 ≤ w3.heap.size := block_lt hbox.out
      obtain ⟨R, hR⟩ : ∃ R, acc ++ headL l n ++ (⟨(seg t 0 n).toArray⟩ : ByteArray).data.toList = R := ⟨_, rfl⟩
      have HR : Hid (acc ++ headL l n ++ (⟨(seg t 0 n).toArray⟩ : ByteArray).data.toList = R) := hR
      have HR2 : Hid (R = acc ++ headL l n ++ seg t 0 n) := hR.symm
      clear hR
      generalize (⟨(seg t 0 n).toArray⟩ : ByteArray) = tt at *
      have q1 : (n : Int) ≤ (c : Int) := by omega
      have q2 : (n : Int) ≤ (t.size : Int) := by omega
      rw [← hzs] at hH3
      have HZ : Hid (tt.size = n) := hzs
      obtain ⟨av, cv, rfl⟩ := own_shape hrow
      clear hW3 hzs
      go_wp2_with fail
      go_region_law (refine step_append_list rfl (.tmp 23) (.tmp 26) rfl (w.heap.size + 1) _ (acc ++ headL l n) (by simp [Act.eval]) hrow (.slice y n c) tt (by simp [Act.eval]) (by rw [← HZ.out]; exact hH3) (by have := HZ.out; omega) hws3 R HR ?_; intro a4 cap4 w4 hown4 hb4; have g4 := (hb4.cell (p := ⟨w.heap.size, 0, none⟩) (Nat.lt_succ_self _)).trans g0; have g5 := (hb4.frozen (p := ⟨w.heap.size, 0, none⟩) (Nat.lt_succ_self _)).trans g1)
      have HRest : Hid (IsBytes w (.slice (if c = n then y else Option.map (fun x => x.add n) y) (t.size - n) (c - n)) ⟨(seg t n t.size).toArray⟩) := hB1.rest hn2
      have HRz : Hid ((⟨(seg t n t.size).toArray⟩ : ByteArray).size = t.size - n) := by
        unfold Hid
        rw [← len_eq]
        show (seg t n t.size).toArray.toList.length = _
        rw [List.toList_toArray, seg_length t (Nat.le_refl _)]
      have HA : Hid (acc ++ storedL t.data.toList = T) := hA
      clear hB1 hrow hH3 g0 g1 hA hal hal2
      go_wp2_with fail
      refine ⟨⟨⟨(seg t n t.size).toArray⟩, _, _, l, R, .slice a4 R.length cap4, by rw [HRz.out], rfl, by rw [HRz.out]; exact HRest.out, ⟨?_, ?_⟩, ?_, ?_, ?_⟩, ?_⟩
      · exact setCell_block (i := 0) ((hb4.block _ (Nat.lt_succ_self _)).trans hbox.out)
      · rw [pack_nil, List.append_nil]
        exact ownsRow_setCell_below hown4 (a := ⟨w.heap.size, 0, none⟩) (Nat.lt_succ_self _) _
      · exact (hbw3.drew.trans (hb4.mono (Nat.le_succ _))).setCell (p := ⟨w.heap.size, 0, none⟩) (Nat.le_refl _) _
      · exact stored_step HN.out HL.out HA.out HR2.out HRz.out
      · rw [HRz.out]; omega
      · have h1 := HL.out
        have h2 := HN.out
        cases l with
        | true => simp [goesOn, lenOf]
        | false =>
          have : n ≠ t.size := of_decide_eq_false h1
          simp [goesOn, lenOf]
          omega
end Go.Proofs.Ytbhnlomppobbkaa
