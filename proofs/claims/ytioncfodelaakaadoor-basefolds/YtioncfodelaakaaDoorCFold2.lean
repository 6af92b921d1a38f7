/-
  The program's Fold, for every text and every number.
-/
import Derived.Test.YtioncfodelaakaaDoorCFold
namespace Go.Proofs.YtioncfodelaakaaDoor
open Go.RowKit Go.Shelf Ch
attribute [local go_sem] Oper.semAt_some

set_option maxHeartbeats 2000000 in
set_option maxRecDepth 100000 in
theorem cFold_high (s : ByteArray) (N : Nat) (w : World) (hs : s.size ≤ 100000) (hN : 0 < N) (hN2 : N ≤ 9223372036854775807) :
    Calls Tryd.prog 13 #[.string s, .int .i64 (N : Int)] w fun e w' => e = .returned (.string ⟨(foldL (N : Int) s.data.toList).toArray⟩) ∧ Below w.heap.size w w' := by
  refine (callsIn_wide (n := 3)).1 ?_
  refine callsIn_of_wp_marks Tryd.func13 rfl trivial ?_ rfl
  simp only [Tryd.ntmps13, List.size_toArray, List.length_cons, List.length_nil, Nat.reduceAdd, Nat.reduceSub, Array.replicate_succ, Array.replicate_zero, List.push_toArray, List.append_toArray, List.nil_append, List.cons_append]
  gi_wp2_with (refine ⟨trivial, ?_⟩; gi_at_call 19; refine (callsIn_wide.2 (pieces_any _ N _)).mono ?_; rintro e w' ⟨rfl, rfl⟩)
  have hT : HasTwo (w.heap.size + 1) N s (((w.alloc (.cells #[.pointer none, .slice none 0 0] 37)).alloc (.cells #[.string s] 9)).alloc (.cells #[.int .i64 (N : Int)] 3)) := by
    have := hasTwo_new s N (w.alloc (.cells #[.pointer none, .slice none 0 0] 37))
    rw [World.size_alloc] at this
    exact this
  have hB0 : Below w.heap.size w (((w.alloc (.cells #[.pointer none, .slice none 0 0] 37)).alloc (.cells #[.string s] 9)).alloc (.cells #[.int .i64 (N : Int)] 3)) := (((Below.refl _ w).alloc (Nat.le_refl _) _).alloc (by simp) _).alloc (by simp; omega) _
  have hI0 : Lib.IsBuilderF 37 5 w.heap.size w.heap.size [] (((w.alloc (.cells #[.pointer none, .slice none 0 0] 37)).alloc (.cells #[.string s] 9)).alloc (.cells #[.int .i64 (N : Int)] 3)) := ((Lib.IsBuilderF.of (Lib.fresh_isBuilder 37 5 w)).alloc _).alloc _
  have hsz0 : (((w.alloc (.cells #[.pointer none, .slice none 0 0] 37)).alloc (.cells #[.string s] 9)).alloc (.cells #[.int .i64 (N : Int)] 3)).heap.size = w.heap.size + 3 := by simp
  obtain ⟨W0, hW0⟩ : ∃ W0, (((w.alloc (.cells #[.pointer none, .slice none 0 0] 37)).alloc (.cells #[.string s] 9)).alloc (.cells #[.int .i64 (N : Int)] 3)) = W0 := ⟨_, rfl⟩
  rw [hW0] at hT hB0 hI0 hsz0 ⊢
  clear hW0
  refine wpIn_rangeFunc_ownG rfl (by omega) (gf := 37) (lb := #[.pointer (some ⟨w.heap.size + 1, 0, none⟩), .pointer (some ⟨w.heap.size + 1 + 1, 0, none⟩)]) rfl trivial (enters_of Tryd.func37 (by kernel_rfl) rfl)
    (pieces_stops Fence.wide _ trivial rfl (by omega) (fun x => 1 ≤ x.size ∧ x.size ≤ 100000) s N (w.heap.size + 1) W0 hN hN2 (by omega) hT (fun p hp => by
      obtain ⟨h1, _, h2, _⟩ := piece_size hN s.size s (Nat.le_refl _) p hp
      exact ⟨h1, by omega⟩)) keepTwo_t (keepTwo_b (by omega)) (Below.refl _ _) (fun _ => rfl)
    (fun (pre : List PN) W => Lib.IsBuilderF 37 5 w.heap.size w.heap.size (Lib.byteCells (foldP pre)) W ∧ HasTwo (w.heap.size + 1) N s W ∧ Below w.heap.size w W ∧ w.heap.size + 3 ≤ W.heap.size)
    (fun _ _ _ => False)
    ?own (fun _ _ _ _ _ hs _ _ => hs) ⟨hI0, hT, hB0, by omega⟩
    (fun x => { tmps := #[.string s, .int .i64 (N : Int), undef, undef, .string ⟨#[]⟩, .pointer (some ⟨w.heap.size, 0, none⟩), .string x.1, .int .i64 (N : Int), .bool (decide ((N : Int) < 1)), undef, undef, .string s, .int .i64 (N : Int), .func (.func 37) #[] #[.pointer (some ⟨w.heap.size + 1, 0, none⟩), .pointer (some ⟨w.heap.size + 1 + 1, 0, none⟩)], .string x.1, undef, undef, undef, undef, undef, undef], defers := [] }) ?assign ?body ?done ?stop
  case own =>
    rintro pre W W' row ⟨h1, h2, h3, h4⟩ hg hr
    refine ⟨builder_own h1 hg (fun r e => (hr r e).2), hasTwo_own h2 hg (fun r e => (hr r e).2), h3.grown hg h3.size (fun r e => by have := (hr r e).1; omega), Nat.le_trans h4 hg.size⟩
  case assign =>
    intro l x W K hK
    gi_wp2
    exact hK
  case body =>
    rintro l pre x W ⟨hI, hT1, hB1, hs1⟩ hlen
    have hd : 1 ≤ 3 - 1 - 1 := by omega
    have hlen2 : pre.length < 100000 := by have := pieces_length hN s.size s (Nat.le_refl _); omega
    have hfl := foldP_length pre
    have hx2 := x.2.2
    have hbl := Lib.byteCells_length (foldP pre)
    have hL := Tryd.Builder_Len_f w.heap.size w.heap.size _ W hI
    gi_wp2_with (refine ⟨trivial, ?_⟩; gi_at_call 27; refine (CallsIn.inRound l (callsIn_wide.2 hL)).mono ?_; clear hL; rintro e W1 ⟨rfl, rfl⟩)
    · rename_i hlt _ _
      have h0 : Hid ((foldP pre).length ≠ 0) := by unfold Hid; omega
      have hWb := Tryd.Builder_WriteByte_k w.heap.size w.heap.size _ 10 W1 hI (by omega) (by omega)
      refine ⟨trivial, ?_⟩
      refine (CallsIn.inRound l (callsIn_wide.2 hWb)).mono ?_
      rintro e W2 ⟨rfl, h2, b2, k2⟩
      have hz2 := b2.size
      have hWs := Tryd.Builder_WriteString_k w.heap.size w.heap.size _ x.1 W2 (Or.inr h2) (by rw [List.length_append]; simp; omega) (by omega)
      gi_wp2_with (refine ⟨trivial, ?_⟩; gi_at_call 28; refine (CallsIn.inRound l (callsIn_wide.2 hWs)).mono ?_; clear hWs)
      rintro e W3 ⟨rfl, h3, b3, k3⟩
      have hz3 := b3.size
      gi_wp2
      have hK := k2.trans k3
      refine ⟨others_keeps hK (by omega) (by omega), others_two hK hT1 (by omega), ?_, hasTwo_kept hT1 hK (by omega), (hB1.trans b2).trans b3, by omega⟩
      rw [foldP_snoc]
      unfold addLine
      rw [if_neg h0.out, Lib.byteCells_append, Lib.byteCells_append]
      exact .inr h3
    · rename_i hlt _ _
      have h0 : Hid ((foldP pre).length = 0) := by unfold Hid; omega
      have hWs := Tryd.Builder_WriteString_k w.heap.size w.heap.size _ x.1 W1 hI (by omega) (by omega)
      refine ⟨trivial, ?_⟩
      refine (CallsIn.inRound l (callsIn_wide.2 hWs)).mono ?_
      rintro e W3 ⟨rfl, h3, b3, k3⟩
      have hz3 := b3.size
      gi_wp2
      refine ⟨others_keeps k3 (by omega) (by omega), others_two k3 hT1 (by omega), ?_, hasTwo_kept hT1 k3 (by omega), hB1.trans b3, by omega⟩
      rw [foldP_snoc]
      unfold addLine
      rw [if_pos h0.out]
      rw [List.eq_nil_of_length_eq_zero h0.out] at h3
      exact .inr h3
  case done =>
    rintro D ys W hD hys ⟨hI, hT1, hB1, hs1⟩ hK
    rw [foldP_all hN hys] at hI
    have hS := Tryd.Builder_String_any_k w.heap.size w.heap.size _ _ hI (by omega)
    gi_wp2_with (refine ⟨trivial, ?_⟩; gi_at_call 22; refine (callsIn_wide.2 hS).mono ?_; clear hS)
    rintro e W4 ⟨rfl, _, b4, k4⟩
    have hK4 := k4 D _ hK (fun e => by cases e; omega) (fun _ _ e => by cases e)
    gi_wp2
    refine ⟨by simp, .inl ⟨_, _, rfl, run_takeDeferred hK4, ?_⟩⟩
    exact ⟨_, results_tmp rfl _ _ _, rfl, (hB1.trans b4).trans (belowK_b (w := w) (Nat.le_refl _) W4 D _ _ (by omega) hK4 rfl rfl)⟩
  case stop =>
    rintro D c pre W _ _ h _
    exact h.elim

theorem cFold_any (s : ByteArray) (n : Int) (w : World) (hs : s.size ≤ 100000) (h2 : n ≤ 9223372036854775807) :
    Calls Tryd.prog 13 #[.string s, .int .i64 n] w fun e w' => e = .returned (.string ⟨(foldL n s.data.toList).toArray⟩) ∧ Below w.heap.size w w' := by
  by_cases hn : n < 1
  · exact cFold_low s n w hs hn
  · obtain ⟨N, rfl⟩ := Int.eq_ofNat_of_zero_le (show 0 ≤ n by omega)
    exact cFold_high s N w hs (by omega) (by omega)
end Go.Proofs.YtioncfodelaakaaDoor
