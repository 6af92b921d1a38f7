/-
  The program's Query.
-/
import Derived.Test.YtnkefpopkaagaaaDoorFPerc
import Derived.Test.YtnkefpopkaagaaaDoorEQuery
namespace Go.Proofs.YtnkefpopkaagaaaDoor
open Go.RowKit Ch
set_option maxRecDepth 100000

theorem builder_text {B b : Nat} {acc : List UInt8} {T : ByteArray} {p : Value} {w : World} (h : Lib.BuilderAtF 53 5 B b p (Lib.byteCells acc ++ Lib.strCells T) w) : Lib.BuilderAtF 53 5 B b p (Lib.byteCells (acc ++ T.data.toList)) w := by
  rw [Lib.byteCells_append]
  exact h
set_option maxHeartbeats 4000000 in
theorem fQuery_some (b o cap : Nat) (l : List (ByteArray × ByteArray)) (w : World) (hl : l.length ≤ 1000) (hsz : ∀ p ∈ l, p.1.size ≤ 1000 ∧ p.2.size ≤ 1000) (hbl : b < w.heap.size)
    (hf : ∀ i p, l[i]? = some p → w.cell? ⟨b, o + i * 2, none⟩ = some (.string p.1) ∧ w.cell? ⟨b, o + i * 2 + 1, none⟩ = some (.string p.2)) :
    Calls Tryd.prog 18 #[.slice (some ⟨b, o, none⟩) l.length cap] w fun e w' => e = .returned (.string ⟨(queryL l).toArray⟩) ∧ Below w.heap.size w w' := by
  have HF : Hid (∀ i p, l[i]? = some p → w.cell? ⟨b, o + i * 2, none⟩ = some (.string p.1) ∧ w.cell? ⟨b, o + i * 2 + 1, none⟩ = some (.string p.2)) := hf
  clear hf
  go_enter Tryd.func18, Tryd.ntmps18
  go_wp2_with fail
  go_loopw [8] (fun t wr => ∃ (i : Nat) (acc : List UInt8), t = .int .i64 (i : Int) ∧ i ≤ l.length ∧ Lib.IsBuilderF 53 5 w.heap.size w.heap.size (Lib.byteCells acc) wr ∧ Below w.heap.size w wr ∧ acc.length ≤ 7000 * i ∧ w.heap.size < wr.heap.size ∧ Hid (acc ++ queryFrom (decide (i = 0)) (l.drop i) = queryL l)) (fun t _ => l.length - (intOf t).toNat)
  case atStart =>
    exact ⟨0, [], rfl, Nat.zero_le _, Lib.IsBuilderF.of (Lib.fresh_isBuilder 53 5 w), (Below.refl _ w).alloc (Nat.le_refl _) _, Nat.le_refl _, by simp, rfl⟩
  case round =>
    obtain ⟨i, acc, rfl, hi, hI, hbw, hal, hzz, hacc⟩ := hrel
    by_cases hlt : i < l.length
    · obtain ⟨p, hp⟩ : ∃ p, l[i]? = some p := ⟨_, List.getElem?_eq_getElem hlt⟩
      obtain ⟨hs1, hs2⟩ := hsz p (List.mem_of_getElem? hp)
      obtain ⟨f1, f2⟩ := HF.out i p hp
      have c1 := (hbw.cell (p := ⟨b, o + i * 2, none⟩) hbl).trans f1
      have c2 := (hbw.cell (p := ⟨b, o + i * 2 + 1, none⟩) hbl).trans f2
      have hdr : l.drop i = p :: l.drop (i + 1) := by
        rw [List.drop_eq_getElem_cons hlt]
        rw [List.getElem?_eq_getElem hlt] at hp
        rw [Option.some.inj hp]
      obtain ⟨N, hN⟩ : ∃ N : ByteArray, ⟨(percL p.1.data.toList).toArray⟩ = N := ⟨_, rfl⟩
      obtain ⟨V, hV⟩ : ∃ V : ByteArray, ⟨(percL p.2.data.toList).toArray⟩ = V := ⟨_, rfl⟩
      have hNz : N.size ≤ 3000 := by
        have := percL_length p.1.data.toList
        rw [len_eq] at this
        rw [← hN, size_of_list]
        omega
      have hVz : V.size ≤ 3000 := by
        have := percL_length p.2.data.toList
        rw [len_eq] at this
        rw [← hV, size_of_list]
        omega
      have hP1 := fun W => fPercent_any p.1 W (by omega)
      have hP2 := fun W => fPercent_any p.2 W (by omega)
      rw [hN] at hP1
      rw [hV] at hP2
      have hpl : pairL p = N.data.toList ++ [61] ++ V.data.toList := by rw [← hN, ← hV]; rfl
      rw [hdr, queryFrom, hpl] at hacc
      have q1 : (0 : Int) ≤ (i : Int) := by omega
      have q2 : (i : Int) < (l.length : Int) := by omega
      have step : ∀ acc2 : List UInt8, acc2 = acc ++ (if decide (i = 0) = true then [] else [38]) → Hid (acc2 ++ N.data.toList ++ [61] ++ V.data.toList ++ queryFrom (decide (i + 1 = 0)) (l.drop (i + 1)) = queryL l) := fun B hB => by
        have := hacc.out
        unfold Hid
        rw [hB, show decide (i + 1 = 0) = false by simp, ← this]
        simp
      have hNl : N.data.toList.length = N.size := len_eq N
      have hVl : V.data.toList.length = V.size := len_eq V
      obtain ⟨NL, hNL⟩ : ∃ NL, NL = N.data.toList := ⟨_, rfl⟩
      obtain ⟨VL, hVL⟩ : ∃ VL, VL = V.data.toList := ⟨_, rfl⟩
      rw [← hNL] at hNl step
      rw [← hVL] at hVl step
      have hAl := (Below.refl _ wr).alloc (Nat.le_refl _) (.cells #[.string p.1, .string p.2] 40)
      have hI0 := builder_later hI hAl
      have hW0 := heap_push_at wr (.cells #[.string p.1, .string p.2] 40)
      clear hacc hdr hpl hN hV hp f1 f2 hI
      by_cases h0 : i = 0
      · have hW := step acc (by rw [if_pos (by simp [h0]), List.append_nil])
        have hle0 : i ≤ 0 := by omega
        obtain ⟨A, hA⟩ : ∃ A, A = acc := ⟨_, rfl⟩
        rw [← hA] at hI0 hW
        have hAL : A.length ≤ 7000 * i + 1 := by rw [hA]; omega
        clear step h0 hA
        go_wp2_with fail
        refine (hP1 _).mono ?_
        rintro e w2 ⟨rfl, b2⟩
        have I2 := builder_later hI0 b2
        have z2 : wr.heap.size + 1 ≤ w2.heap.size := by have := b2.size; simpa using this
        have B2 : Below w.heap.size w w2 := hbw.trans ((below_alloc b2).mono hbw.size)
        have X2 : w2.heap[wr.heap.size]? = some (.cells #[.string p.1, .string p.2] 40 (0, 0)) := (b2.block wr.heap.size (by simp)).trans hW0
        clear hI0 b2 hAl hW0
        go_wp2_with fail
        refine (Tryd.Builder_WriteString_k w.heap.size w.heap.size _ _ _ I2 (by rw [Lib.byteCells_length]; omega) (by omega)).mono ?_
        rintro e w3 ⟨rfl, h3, b3, k3⟩
        have I3 : Lib.IsBuilderF 53 5 w.heap.size w.heap.size (Lib.byteCells (A ++ NL)) w3 := Or.inr (by rw [hNL]; exact builder_text h3)
        have z3 : wr.heap.size + 1 ≤ w3.heap.size := by have := b3.size; omega
        have X3 : w3.heap[wr.heap.size]? = some (.cells #[.string p.1, .string p.2] 40 (0, 0)) := k3 _ _ X2 (fun e => by have := Option.some.inj e; omega) (fun _ _ e => by cases e)
        have B3 := B2.trans b3
        clear h3 k3 I2 X2 b3 B2
        go_wp2_with fail
        refine (Tryd.Builder_WriteByte_k w.heap.size w.heap.size _ _ _ I3 (by rw [Lib.byteCells_length, List.length_append]; omega) (by omega)).mono ?_
        rintro e w4 ⟨rfl, h4, b4, k4⟩
        have I4 : Lib.IsBuilderF 53 5 w.heap.size w.heap.size (Lib.byteCells (A ++ NL ++ [61])) w4 := Or.inr (by rw [← cells_snoc]; exact h4)
        have z4 : wr.heap.size + 1 ≤ w4.heap.size := by have := b4.size; omega
        have X4 : w4.heap[wr.heap.size]? = some (.cells #[.string p.1, .string p.2] 40 (0, 0)) := k4 _ _ X3 (fun e => by have := Option.some.inj e; omega) (fun _ _ e => by cases e)
        have D4 := cell_of_row w4 wr.heap.size 1 _ _ _ X4
        have B4 := B3.trans b4
        clear h4 k4 I3 X3 b4 B3
        go_wp2_with fail
        refine (hP2 _).mono ?_
        rintro e w5 ⟨rfl, b5⟩
        have I5 := builder_later I4 b5
        have z5 : wr.heap.size + 1 ≤ w5.heap.size := by have := b5.size; omega
        have B5 : Below w.heap.size w w5 := B4.trans (b5.mono B4.size)
        clear I4 b5 X4 D4 B4
        go_wp2_with fail
        refine (Tryd.Builder_WriteString_k w.heap.size w.heap.size _ _ _ I5 (by rw [Lib.byteCells_length, List.length_append, List.length_append]; simp; omega) (by omega)).mono ?_
        rintro e w6 ⟨rfl, h6, b6, k6⟩
        have I6 : Hid (Lib.IsBuilderF 53 5 w.heap.size w.heap.size (Lib.byteCells (A ++ NL ++ [61] ++ VL)) w6) := Or.inr (by rw [hVL]; exact builder_text h6)
        have z6 : wr.heap.size + 1 ≤ w6.heap.size := by have := b6.size; omega
        have B6 := B5.trans b6
        clear h6 k6 I5 b6 B5
        go_wp2_with fail
        go_roundw
        case rel => exact ⟨i + 1, _, by go_num, by omega, I6.out, B6, by simp; omega, by omega, hW⟩
        case measure => simp [intOf]; omega
      · have hW := step (acc ++ [38]) (by rw [if_neg (by simp [h0])])
        have hgt0 : 0 < i := by omega
        clear step h0
        go_wp2_with fail
        refine (Tryd.Builder_WriteByte_k w.heap.size w.heap.size _ _ _ hI0 (by rw [Lib.byteCells_length]; omega) (by simp; omega)).mono ?_
        rintro e w1 ⟨rfl, h1, b1, k1⟩
        have I1 : Lib.IsBuilderF 53 5 w.heap.size w.heap.size (Lib.byteCells (acc ++ [38])) w1 := Or.inr (by rw [← cells_snoc]; exact h1)
        have z1 : wr.heap.size + 1 ≤ w1.heap.size := by have := b1.size; simpa using this
        have X1 : w1.heap[wr.heap.size]? = some (.cells #[.string p.1, .string p.2] 40 (0, 0)) := k1 _ _ hW0 (fun e => by have := Option.some.inj e; omega) (fun _ _ e => by cases e)
        have D1 := cell_of_row w1 wr.heap.size 0 _ _ _ X1
        have B1 : Below w.heap.size w w1 := (hbw.alloc (by omega) _).trans b1
        obtain ⟨A, hA⟩ : ∃ A, A = acc ++ [38] := ⟨_, rfl⟩
        have hAL : A.length ≤ 7000 * i + 1 := by rw [hA]; simp; omega
        rw [← hA] at I1 hW
        clear h1 k1 hA hI0 hAl hW0 b1
        go_wp2_with fail
        refine (hP1 _).mono ?_
        rintro e w2 ⟨rfl, b2⟩
        have I2 := builder_later I1 b2
        have z2 : wr.heap.size + 1 ≤ w2.heap.size := by have := b2.size; omega
        have B2 : Below w.heap.size w w2 := B1.trans (b2.mono B1.size)
        have X2 : w2.heap[wr.heap.size]? = some (.cells #[.string p.1, .string p.2] 40 (0, 0)) := (b2.block wr.heap.size (by omega)).trans X1
        clear I1 b2 D1 X1
        go_wp2_with fail
        refine (Tryd.Builder_WriteString_k w.heap.size w.heap.size _ _ _ I2 (by rw [Lib.byteCells_length]; omega) (by omega)).mono ?_
        rintro e w3 ⟨rfl, h3, b3, k3⟩
        have I3 : Lib.IsBuilderF 53 5 w.heap.size w.heap.size (Lib.byteCells (A ++ NL)) w3 := Or.inr (by rw [hNL]; exact builder_text h3)
        have z3 : wr.heap.size + 1 ≤ w3.heap.size := by have := b3.size; omega
        have X3 : w3.heap[wr.heap.size]? = some (.cells #[.string p.1, .string p.2] 40 (0, 0)) := k3 _ _ X2 (fun e => by have := Option.some.inj e; omega) (fun _ _ e => by cases e)
        have B3 := B2.trans b3
        clear h3 k3 I2 X2 b3 B2
        go_wp2_with fail
        refine (Tryd.Builder_WriteByte_k w.heap.size w.heap.size _ _ _ I3 (by rw [Lib.byteCells_length, List.length_append]; omega) (by omega)).mono ?_
        rintro e w4 ⟨rfl, h4, b4, k4⟩
        have I4 : Lib.IsBuilderF 53 5 w.heap.size w.heap.size (Lib.byteCells (A ++ NL ++ [61])) w4 := Or.inr (by rw [← cells_snoc]; exact h4)
        have z4 : wr.heap.size + 1 ≤ w4.heap.size := by have := b4.size; omega
        have X4 : w4.heap[wr.heap.size]? = some (.cells #[.string p.1, .string p.2] 40 (0, 0)) := k4 _ _ X3 (fun e => by have := Option.some.inj e; omega) (fun _ _ e => by cases e)
        have D4 := cell_of_row w4 wr.heap.size 1 _ _ _ X4
        have B4 := B3.trans b4
        clear h4 k4 I3 X3 b4 B3
        go_wp2_with fail
        refine (hP2 _).mono ?_
        rintro e w5 ⟨rfl, b5⟩
        have I5 := builder_later I4 b5
        have z5 : wr.heap.size + 1 ≤ w5.heap.size := by have := b5.size; omega
        have B5 : Below w.heap.size w w5 := B4.trans (b5.mono B4.size)
        clear I4 b5 X4 D4 B4
        go_wp2_with fail
        refine (Tryd.Builder_WriteString_k w.heap.size w.heap.size _ _ _ I5 (by rw [Lib.byteCells_length, List.length_append, List.length_append]; simp; omega) (by omega)).mono ?_
        rintro e w6 ⟨rfl, h6, b6, k6⟩
        have I6 : Hid (Lib.IsBuilderF 53 5 w.heap.size w.heap.size (Lib.byteCells (A ++ NL ++ [61] ++ VL)) w6) := Or.inr (by rw [hVL]; exact builder_text h6)
        have z6 : wr.heap.size + 1 ≤ w6.heap.size := by have := b6.size; omega
        have B6 := B5.trans b6
        clear h6 k6 I5 b6 B5
        go_wp2_with fail
        go_roundw
        case rel => exact ⟨i + 1, _, by go_num, by omega, I6.out, B6, by simp; omega, by omega, hW⟩
        case measure => simp [intOf]; omega
    · have hW : Hid (acc = queryL l) := by
        have := hacc.out
        rw [List.drop_of_length_le (by omega)] at this
        have e0 : ∀ f, queryFrom f [] = [] := fun f => by cases f <;> rfl
        rw [e0, List.append_nil] at this
        exact this
      clear hacc
      rw [hW.out] at hI
      go_wp2_with fail
      refine (Tryd.Builder_String_any_k w.heap.size w.heap.size _ _ hI (by omega)).mono ?_
      rintro e w4 ⟨rfl, _, b4, _⟩
      go_wp2_with fail
      go_ret
      exact ⟨rfl, hbw.trans b4⟩
set_option maxHeartbeats 400000 in
theorem fQuery_none (a : Option Addr) (cap : Nat) (w : World) :
    Calls Tryd.prog 18 #[.slice a 0 cap] w fun e w' => e = .returned (.string ⟨#[]⟩) ∧ Below w.heap.size w w' := by
  go_enter Tryd.func18, Tryd.ntmps18
  go_wp2_with fail
  refine wp_loop_once ?_
  go_wp2_with fail
  refine (Tryd.Builder_String_any_k w.heap.size w.heap.size [] _ (Lib.IsBuilderF.of (Lib.fresh_isBuilder 53 5 w)) (by simp)).mono ?_
  rintro e w4 ⟨rfl, _, b4, _⟩
  go_wp2_with fail
  go_ret
  exact ⟨rfl, ((Below.refl _ w).alloc (Nat.le_refl _) _).trans b4⟩
theorem fQuery_any (v : Value) (l : List (ByteArray × ByteArray)) (w : World) (hl : l.length ≤ 1000) (hsz : ∀ p ∈ l, p.1.size ≤ 1000 ∧ p.2.size ≤ 1000) (h : IsPairs w v l) :
    Calls Tryd.prog 18 #[v] w fun e w' => e = .returned (.string ⟨(queryL l).toArray⟩) ∧ Below w.heap.size w w' := by
  have none' : ∀ (a : Option Addr) (cap : Nat), l = [] → Calls Tryd.prog 18 #[.slice a l.length cap] w fun e w' => e = .returned (.string ⟨(queryL l).toArray⟩) ∧ Below w.heap.size w w' := fun a cap h0 => by
    subst h0
    exact fQuery_none a cap w
  obtain ⟨a, cap, rfl, _, _, ⟨_, h0, _⟩ | ⟨x, rfl, h0 | ⟨b, o, rfl, hb, hf⟩⟩⟩ := h
  · exact none' a cap h0
  · exact none' _ cap h0
  · exact fQuery_some b o cap l w hl hsz hb hf
end Go.Proofs.YtnkefpopkaagaaaDoor
