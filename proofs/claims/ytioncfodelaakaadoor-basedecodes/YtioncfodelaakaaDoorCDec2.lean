/-
  The program's Decode, for every text.
-/
import Derived.Test.YtioncfodelaakaaDoorCDec
import Derived.Test.YtioncfodelaakaaDoorBUnhex
namespace Go.Proofs.YtioncfodelaakaaDoor
open Go.RowKit Go.Shelf Ch
attribute [local go_sem] Oper.semAt_some

set_option maxHeartbeats 4000000 in
set_option maxRecDepth 100000 in
theorem cDecode_any (s : ByteArray) (w : World) (hG : MaxLenIs w) (hs : s.size ≤ 20000) :
    Calls Tryd.prog 15 #[.string s] w fun e w' => ∃ v E b, e = .returned (.tuple #[v, .int .i64 E]) ∧ IsBytes w' v b ∧ DecSaid s.data.toList E b ∧ Below w.heap.size w w' := by
  have hNB := noBlanks_any s w hG (by omega)
  obtain ⟨T, hT⟩ : ∃ T : ByteArray, ⟨(keptL s.data.toList).toArray⟩ = T := ⟨_, rfl⟩
  rw [hT] at hNB
  have hTl : keptL s.data.toList = T.data.toList := by rw [← hT]
  have hTs : T.size ≤ 20000 := by
    have : (keptL s.data.toList).length ≤ s.data.toList.length := List.length_filter_le _ _
    rw [hTl, len_eq, len_eq] at this
    omega
  clear hT
  refine (callsIn_wide (n := 3)).1 ?_
  refine callsIn_of_wp_marks Tryd.func15 rfl trivial ?_ rfl
  simp only [Tryd.ntmps15, List.size_toArray, List.length_cons, List.length_nil, Nat.reduceAdd, Nat.reduceSub, Array.replicate_succ, Array.replicate_zero, List.push_toArray, List.append_toArray, List.nil_append, List.cons_append]
  gi_wp2_with (refine ⟨trivial, ?_⟩; gi_at_call 29; refine (callsIn_wide.2 hNB).mono ?_; clear hNB; rintro e w0 ⟨rfl, hb0⟩)
  have hz0 := hb0.size
  gi_loopw [6] (fun _ wr => ∃ pos : Nat, wr.heap[w0.heap.size]? = some (.stringIter T pos) ∧ Below w.heap.size w wr ∧ pos ≤ T.size ∧ Hid (T.data.toList.all okSign = (T.data.toList.drop pos).all okSign)) (fun _ wr => T.size - wr.iterPos w0.heap.size)
  case atStart =>
    refine ⟨0, ?_, hb0.trans (((Below.refl _ w0).alloc (Nat.le_refl _) _).mono hz0), Nat.zero_le _, rfl⟩
    have := World.iter_heap w0 T 0
    simpa using this
  case round =>
    obtain ⟨pos, hit, hbw, hps, hall⟩ := hrel
    have hsz : w0.heap.size < wr.heap.size := (Array.getElem?_eq_some_iff.1 hit).1
    by_cases hp : pos < T.size
    · have hnx : ∀ ty, (Instr.next (.pointer (some ⟨w0.heap.size, 0, none⟩)) true ty).run Tryd.prog wr = _ := fun ty => Lib.run_next_any_at wr w0.heap.size T pos ty hit hp
      obtain ⟨c, n, hd, hn0, hpn, hc, hcase⟩ := rune_cases T pos hp
      simp only [hd] at hnx
      have hit2 := Lib.iterAt_heap wr w0.heap.size T pos (pos + n) hit
      have hbw2 := Lib.below_iterAt hbw (k := w0.heap.size) hz0 T (pos + n)
      have hzi : (wr.iterAt w0.heap.size T (pos + n)).heap.size = wr.heap.size := Lib.iterAt_size _ _ _ _
      obtain ⟨c8, hdr, hcc⟩ := drop_at T hp
      have hS := signW_any c (wr.iterAt w0.heap.size T (pos + n)) hc
      obtain ⟨z, hz⟩ : ∃ z, sixZ c = z := ⟨_, rfl⟩
      rw [hz] at hS
      have hbad : c ≠ 61 → z < 0 → okSign c8 = false := fun h1 h2 => by
        unfold okSign
        rw [Bool.or_eq_false_iff]
        rcases hcase with ⟨_, e2, _⟩ | ⟨_, e2⟩
        · have e3 : c = c8.toNat := by rw [hcc]; exact e2
          refine ⟨beq_eq_false_iff_ne.2 (fun h => h1 (by rw [e3, h]; rfl)), ?_⟩
          rw [← e3]
          exact sixZ_neg.1 (by rw [hz]; exact h2)
        · have := e2 0 hn0
          rw [Nat.add_zero, ← hcc] at this
          refine ⟨beq_eq_false_iff_ne.2 (fun h => by rw [h] at this; exact absurd this (by decide)), ?_⟩
          exact sixZ_neg.1 (by rw [sixZ_high this]; decide)
      have hgood : c = 61 ∨ ¬ z < 0 → n = 1 ∧ okSign c8 = true := fun h => by
        have hlow : c < 128 := by
          rcases h with h | h
          · omega
          · rcases Nat.lt_or_ge c 128 with h' | h'
            · exact h'
            · rw [sixZ_high h'] at hz; omega
        rcases hcase with ⟨e1, e2, _⟩ | ⟨e1, _⟩
        · have e3 : c = c8.toNat := by rw [hcc]; exact e2
          refine ⟨e1, ?_⟩
          unfold okSign
          rw [Bool.or_eq_true]
          rcases h with h | h
          · exact .inl (beq_iff_eq.2 (UInt8.toNat_inj.1 (by rw [← e3, h]; rfl)))
          · refine .inr ?_
            rw [← e3]
            cases hx : (sixO c).isSome with
            | true => rfl
            | false => exact absurd (sixZ_neg.2 hx) (by rw [hz]; exact h)
        · omega
      have hon : (c = 61 ∨ ¬ z < 0) → Hid (T.data.toList.all okSign = (T.data.toList.drop (pos + n)).all okSign) := fun h => by
        obtain ⟨e1, e2⟩ := hgood h
        unfold Hid
        rw [hall.out, hdr, List.all_cons, e2, Bool.true_and, e1]
      have hoff : c ≠ 61 → z < 0 → Hid (DecSaid s.data.toList 13 ⟨#[]⟩) := fun h1 h2 => by
        refine .inl ⟨rfl, rfl, ?_⟩
        rw [hTl, hall.out, hdr, List.all_cons, hbad h1 h2, Bool.false_and]
      clear hbad hgood hd hcase hz hdr hcc hall
      by_cases h61 : c = 61
      · have h2 := hon (.inl h61)
        subst h61
        clear hon hoff hS
        gi_wp2
        refine ⟨trivial, ?_⟩
        gi_wp2
        go_roundw
        case rel => exact ⟨pos + n, hit2, hbw2, hpn, h2⟩
        case measure =>
          simp only [World.iterPos, hit2, hit]
          omega
      · have e61 : ((c : Int) != 61) = true := by rw [bne_iff_ne]; omega
        by_cases hz0' : z < 0
        · have hE := hoff h61 hz0'
          clear hon hoff
          gi_wp2_with (refine ⟨trivial, ?_⟩; gi_at_call 30; refine (callsIn_wide.2 hS).mono ?_; clear hS; rintro e w1 ⟨rfl, hb1⟩)
          refine ⟨_, results_tmp2 rfl _ _ _, ⟨_, _, _, rfl, bytes_nil _, hE.out, hbw2.trans (hb1.mono hbw2.size)⟩⟩
        · have h2 := hon (.inr hz0')
          clear hon hoff
          gi_wp2_with (refine ⟨trivial, ?_⟩; gi_at_call 30; refine (callsIn_wide.2 hS).mono ?_; clear hS; rintro e w1 ⟨rfl, hb1⟩)
          have hit3 := (hb1.block w0.heap.size (by omega)).trans hit2
          go_roundw
          case rel => exact ⟨pos + n, hit3, hbw2.trans (hb1.mono hbw2.size), hpn, h2⟩
          case measure =>
            simp only [World.iterPos, hit3, hit]
            omega
    · have hnx : ∀ ty, (Instr.next (.pointer (some ⟨w0.heap.size, 0, none⟩)) true ty).run Tryd.prog wr = _ := fun ty => Lib.run_next_end_at wr w0.heap.size T pos ty hit hp
      have hA : Hid (T.data.toList.all okSign = true) := by
        unfold Hid
        rw [hall.out, List.drop_of_length_le (by rw [len_eq]; omega)]
        rfl
      clear hall
      gi_wp2_with (refine ⟨trivial, ?_⟩; gi_at_call 19; refine (callsIn_wide.2 (pieces_any _ 4 _)).mono ?_; rintro e w' ⟨rfl, rfl⟩)
      have hBx := BoxB.init w wr 4 T hbw
      have hw0 := hbw.size
      have hsz0 : (((wr.alloc (.cells #[.slice none 0 0] 22)).alloc (.cells #[.string T] 9)).alloc (.cells #[.int .i64 4] 3)).heap.size = wr.heap.size + 3 := by simp
      obtain ⟨W0, hW0⟩ : ∃ W0, (((wr.alloc (.cells #[.slice none 0 0] 22)).alloc (.cells #[.string T] 9)).alloc (.cells #[.int .i64 4] 3)) = W0 := ⟨_, rfl⟩
      obtain ⟨bb, hbb⟩ : ∃ bb, wr.heap.size = bb := ⟨_, rfl⟩
      have hBx2 : BoxB w bb 4 T [] (.slice none 0 0) W0 := by rw [← hW0, ← hbb]; exact hBx
      rw [hW0] at hsz0 ⊢
      rw [hbb] at hsz0 hw0 ⊢
      clear hW0 hBx hbb
      refine wpIn_rangeFunc_ownG rfl (by omega) (gf := 37) (lb := #[.pointer (some ⟨bb + 1, 0, none⟩), .pointer (some ⟨bb + 1 + 1, 0, none⟩)]) rfl trivial (enters_of Tryd.func37 (by kernel_rfl) rfl)
        (pieces_stops Fence.wide _ trivial rfl (by omega) (fun x => x.size ≤ 4 ∧ x.data.toList.all okSign = true) T 4 (bb + 1) W0 (by omega) (by omega) (by omega) hBx2.two (fun p hp => by
          obtain ⟨_, h2, _, h4⟩ := piece_size (by omega) T.size T (Nat.le_refl _) p hp
          exact ⟨h2, List.all_eq_true.2 fun c hc => List.all_eq_true.1 hA.out c (h4 c hc)⟩)) keepTwo_t (keepTwo_b (by omega)) (Below.refl _ _) (fun _ => rfl)
        (fun (pre : List P4) W => ∃ v, BoxB w bb 4 T (decP pre) v W)
        (fun _ _ _ => False)
        ?own (fun _ _ _ _ _ hs _ _ => hs) ⟨_, hBx2⟩
        (fun x => { tmps := #[.string s, undef, u2, u3, .string T, undef, u6, .pointer (some ⟨bb, 0, none⟩), .string x.1, undef, undef, .string s, .string T, .string T, .pointer (some ⟨w0.heap.size, 0, none⟩), .tuple #[.bool false], .bool false, u17, u18, u19, u20, u21, u22, u23, u24, .string T, .func (.func 37) #[] #[.pointer (some ⟨bb + 1, 0, none⟩), .pointer (some ⟨bb + 1 + 1, 0, none⟩)], .string x.1, undef, undef, undef, undef, undef, undef, undef, undef, undef, undef, undef, undef, undef, undef], defers := [] }) ?assign ?body ?done ?stop
      case own =>
        rintro pre W W' row ⟨v, h⟩ hg hr
        exact ⟨v, h.own hw0 hg (fun r e => ⟨by have := (hr r e).1; omega, (hr r e).2⟩)⟩
      case assign =>
        intro l x W K hK
        gi_wp2
        exact hK
      case body =>
        rintro l pre x W ⟨v, hX⟩ hlen
        have hlen2 : pre.length < 100000 := by have := pieces_length (n := 4) (by omega) T.size T (Nat.le_refl _); omega
        have hdl := decP_length pre
        have hd : 1 ≤ 3 - 1 - 1 := by omega
        obtain ⟨i0, hi, hz0, hz1, hz2⟩ := info5
        have hF := toThree_any x.1 W x.2.1 x.2.2
        have hmx : Tryd.prog.follows .mixedOrders = true := by kernel_rfl
        gi_wp2_with (refine ⟨trivial, ?_⟩; gi_at_call 31; refine (CallsIn.inRound l (callsIn_wide.2 hF)).mono ?_; clear hF)
        rintro e W1 ⟨⟨c0, c1, c2, n, hn, rfl, htk⟩, hb1⟩
        have hz4 := hb1.size
        have hn' : (n : Int) ≤ 3 := by omega
        have hal : Tryd.prog.arrayLen 56 = 3 := by kernel_rfl
        have hsz3 := hX.size
        have hrow : ((W1.alloc (.cells #[.int .u8 (c0.toNat : Int), .int .u8 (c1.toNat : Int), .int .u8 (c2.toNat : Int)] 56)).drew).ownsRow (bb + 3) 5 1 v (decP pre).length (Lib.byteCells (decP pre)) := (ownsRow_later hX.row hb1).alloc _
        have hbd : Below W.heap.size W ((W1.alloc (.cells #[.int .u8 (c0.toNat : Int), .int .u8 (c1.toNat : Int), .int .u8 (c2.toNat : Int)] 56)).drew) := (hb1.alloc hz4 _).drew
        have hcv : (W1.alloc (.cells #[.int .u8 (c0.toNat : Int), .int .u8 (c1.toNat : Int), .int .u8 (c2.toNat : Int)] 56)).cell? ⟨bb, 0, none⟩ = some v := (hbd.cell (p := ⟨bb, 0, none⟩) (show bb < W.heap.size by omega)).trans (cell_of_block hX.box).1
        obtain ⟨l3, hl3'⟩ : ∃ l3, [c0, c1, c2].take n = l3 := ⟨_, rfl⟩
        have hl3 : l3.length = n := by rw [← hl3', List.length_take]; simp; omega
        obtain ⟨l2, hl2⟩ : ∃ l2, decP pre ++ l3 = l2 := ⟨_, rfl⟩
        have hnews : ∀ j u, (Lib.byteCells l3)[j]? = some u → ((W1.alloc (.cells #[.int .u8 (c0.toNat : Int), .int .u8 (c1.toNat : Int), .int .u8 (c2.toNat : Int)] 56)).drew).cell? ((⟨W1.heap.size, 0, none⟩ : Addr).add j) = some u := fun j u hj => by
          have e : (⟨W1.heap.size, 0, none⟩ : Addr).add j = ⟨W1.heap.size, 0 + j, none⟩ := by unfold Addr.add; split <;> simp_all
          have hjn : j < n := by
            have := (List.getElem?_eq_some_iff.1 hj).1
            rw [Lib.byteCells_length, hl3] at this
            exact this
          rw [e, Nat.zero_add]
          show (W1.alloc _).cell? _ = _
          rw [cell_of_row _ _ j _ _ _ (heap_push_at W1 _)]
          rw [← hl3'] at hj
          unfold Lib.byteCells at hj
          rw [List.map_take, List.getElem?_take_of_lt hjn] at hj
          rw [← hj, List.getElem?_toArray]
          rfl
        have hone : ∀ u ∈ Lib.byteCells l3, u.oneCell' = true := fun u hu => by
          obtain ⟨c, _, rfl⟩ := List.mem_map.1 hu
          rfl
        gi_wp2
        refine region_round hmx (by kernel_rfl) (fun ⟨_, _, h⟩ => h) ?_
        refine wpAny_take (i := 1) (v := ?v1) rfl (by kernel_rfl) (by kernel_rfl) (by kernel_rfl) (fun _ _ _ h => h) (Or.inl ⟨by rfl, ?h1⟩) ?r1
        case h1 =>
          intro w
          go_simp
          try with_reducible rfl
        refine wpAny_ready (rs := [0, 2]) (by kernel_rfl) (by simp) ?_
        refine AllReady.cons rfl (fun K hK => ?_) ?_
        · go_simp
          refine hK _ _ ?_
          clear hK K
          refine wpAny_ready (rs := [2]) (by kernel_rfl) (by simp) ?_
          refine AllReady.cons rfl (fun K hK => ?_) ?_
          · go_simp
            refine hK _ _ ?_
            clear hK K
            refine wpAny_ready (rs := [3]) (by kernel_rfl) (by simp) ?_
            refine AllReady.cons rfl (fun K hK => ?_) ?_
            · refine step_append_any rfl (.tmp 33) (.tmp 35) 22 rfl (bb + 3) 5 i0 (.int .u8 0) 1 1 Tryd.underlying22 hi hz0 hz1 hz2 rfl (by decide) v (decP pre).length (Lib.byteCells (decP pre)) (by simp [Act.eval]) hrow ⟨W1.heap.size, 0, none⟩ n 3 (Lib.byteCells l3) (by simp [Act.eval]) (by rw [Lib.byteCells_length, hl3]; omega) hnews hone (by unfold maxLen; omega) (by omega) (by simp; omega) ?_
              intro v2 w2 hown2 hgrow
              have hown3 : w2.ownsRow (bb + 3) 5 1 v2 l2.length (Lib.byteCells l2) := by
                rw [← hl2, Lib.byteCells_append, List.length_append, hl3]
                exact hown2
              obtain ⟨hS, hK2, hKF, hcell, hfr⟩ := hX.step hw0 hbd hgrow hown3
              obtain ⟨a2, cap2, rfl⟩ := own_shape hown3
              clear hgrow hown2 hown3
              try go_simp
              refine hK _ _ ?_
              clear hK K
              refine wpAny_ready (rs := [4]) (by kernel_rfl) (by simp) ?_
              refine AllReady.cons rfl (fun K hK => ?_) ?_
              · go_simp
                refine hK _ _ ?_
                clear hK K
                refine wpAny_done (by kernel_rfl) ?_ _
                exact ⟨by rw [hsz0]; exact hKF, hK2, _, by rw [decP_snoc, ← htk, hl3', hl2]; exact hS⟩
              exact AllReady.nil
            exact AllReady.nil
          exact AllReady.nil
        refine AllReady.cons rfl (fun K hK => ?_) ?_
        · go_simp
          refine hK _ _ ?_
          clear hK K
          refine wpAny_ready (rs := [0]) (by kernel_rfl) (by simp) ?_
          refine AllReady.cons rfl (fun K hK => ?_) ?_
          · go_simp
            refine hK _ _ ?_
            clear hK K
            refine wpAny_ready (rs := [3]) (by kernel_rfl) (by simp) ?_
            refine AllReady.cons rfl (fun K hK => ?_) ?_
            · refine step_append_any rfl (.tmp 33) (.tmp 35) 22 rfl (bb + 3) 5 i0 (.int .u8 0) 1 1 Tryd.underlying22 hi hz0 hz1 hz2 rfl (by decide) v (decP pre).length (Lib.byteCells (decP pre)) (by simp [Act.eval]) hrow ⟨W1.heap.size, 0, none⟩ n 3 (Lib.byteCells l3) (by simp [Act.eval]) (by rw [Lib.byteCells_length, hl3]; omega) hnews hone (by unfold maxLen; omega) (by omega) (by simp; omega) ?_
              intro v2 w2 hown2 hgrow
              have hown3 : w2.ownsRow (bb + 3) 5 1 v2 l2.length (Lib.byteCells l2) := by
                rw [← hl2, Lib.byteCells_append, List.length_append, hl3]
                exact hown2
              obtain ⟨hS, hK2, hKF, hcell, hfr⟩ := hX.step hw0 hbd hgrow hown3
              obtain ⟨a2, cap2, rfl⟩ := own_shape hown3
              clear hgrow hown2 hown3
              try go_simp
              refine hK _ _ ?_
              clear hK K
              refine wpAny_ready (rs := [4]) (by kernel_rfl) (by simp) ?_
              refine AllReady.cons rfl (fun K hK => ?_) ?_
              · go_simp
                refine hK _ _ ?_
                clear hK K
                refine wpAny_done (by kernel_rfl) ?_ _
                exact ⟨by rw [hsz0]; exact hKF, hK2, _, by rw [decP_snoc, ← htk, hl3', hl2]; exact hS⟩
              exact AllReady.nil
            exact AllReady.nil
          exact AllReady.nil
        exact AllReady.nil
      case done =>
        rintro D ys W hD hys ⟨v, hX⟩ hK
        have hcv := (cell_of_block hX.box).1
        have hdl : (decP ys).length ≤ 60000 := by
          have h1 := decP_length ys
          have h2 := pieces_length (n := 4) (by omega) T.size T (Nat.le_refl _)
          rw [← hys, List.length_map] at h2
          omega
        obtain ⟨a, cap, rfl⟩ := own_shape hX.row
        have hIB := list_bytes hX.row
        have hsz9 : (⟨(decP ys).toArray⟩ : ByteArray).size = (decP ys).length := size_of_list _
        have hEn := cEncode_any a cap ⟨(decP ys).toArray⟩ W (by omega) (by rw [hsz9]; exact hIB)
        rw [hsz9] at hEn
        gi_wp2_with (refine ⟨trivial, ?_⟩; gi_at_call 9; refine (callsIn_wide.2 hEn).mono ?_; clear hEn)
        rintro e W4 ⟨rfl, b4⟩
        have hK4 := (b4.block D (Array.getElem?_eq_some_iff.1 hK).1).trans hK
        have hcv4 := (b4.cell (p := ⟨bb, 0, none⟩) (show bb < W.heap.size by have := hX.size; omega)).trans hcv
        have hbel : Below w.heap.size w (W4.putObj D (.deferred none)) := (hX.below.trans (b4.mono hX.below.size)).trans (belowK_b (w := w) (Nat.le_refl _) W4 D _ _ (by omega) hK4 rfl rfl)
        have hrow4 := row_own (ownsRow_later hX.row b4) (grownBy_putObj' W4 D (.deferred none)) (fun r e => by cases e; exact ⟨_, hK4, rfl⟩)
        obtain ⟨EE, hEE⟩ : ∃ EE : ByteArray, ⟨(encL ⟨(decP ys).toArray⟩).toArray⟩ = EE := ⟨_, rfl⟩
        have hEl : encL ⟨(decP ys).toArray⟩ = EE.data.toList := by rw [← hEE]
        rw [hEE]
        clear hEE
        by_cases hq : EE.data.toList = T.data.toList
        · have hq1 : (EE.toList == T.toList) = true := by rw [Lib.toList_data, Lib.toList_data, hq]; simp
          have hDS : Hid (DecSaid s.data.toList 0 ⟨(decP ys).toArray⟩) := .inr ⟨by rw [hTl]; exact hA.out, .inr ⟨rfl, by rw [hEl, hq, hTl]⟩⟩
          gi_wp2
          refine ⟨by simp, .inl ⟨_, _, rfl, run_takeDeferred hK4, ?_⟩⟩
          exact ⟨_, results_tmp2 rfl _ _ _, _, _, _, rfl, list_bytes hrow4, hDS.out, hbel⟩
        · have hq1 : (EE.toList == T.toList) = false := by rw [Lib.toList_data, Lib.toList_data]; exact beq_eq_false_iff_ne.2 hq
          have hDS : Hid (DecSaid s.data.toList 10 ⟨([] : List UInt8).toArray⟩) := .inr ⟨by rw [hTl]; exact hA.out, .inl ⟨rfl, rfl, by rw [hTl]; exact dec_none hys (by rw [hEl]; exact hq)⟩⟩
          gi_wp2
          refine ⟨by simp, .inl ⟨_, _, rfl, run_takeDeferred hK4, ?_⟩⟩
          exact ⟨_, results_tmp2 rfl _ _ _, _, _, _, rfl, bytes_nil _, hDS.out, hbel⟩
      case stop =>
        rintro D c pre W _ _ h _
        exact h.elim
end Go.Proofs.YtioncfodelaakaaDoor
