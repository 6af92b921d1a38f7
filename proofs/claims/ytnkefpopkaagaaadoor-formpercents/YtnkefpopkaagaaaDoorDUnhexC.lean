/-
  The program's Unhex: the bytes of digits.
-/
import Derived.Test.YtnkefpopkaagaaaDoorDBox
import Derived.Test.YtnkefpopkaagaaaDoorCRound
import Derived.Laws.AppendOwn
import Derived.Test.YtnkefpopkaagaaaDoorCLeaf
import Derived.Test.YtnkefpopkaagaaaDoorDUnhex
namespace Go.Proofs.YtnkefpopkaagaaaDoor
open Go.RowKit Go.Shelf Ch
set_option maxRecDepth 100000
attribute [local go_sem] Oper.semAt_some

theorem piece_whole {n : Nat} (hn : 0 < n) : ∀ (k : Nat) (s : ByteArray), s.size ≤ k → s.size % n = 0 → ∀ p ∈ piecesB n s, p.size = n
  | 0, s, hk, _, p, hp => by rw [piecesB_nil (by omega)] at hp; cases hp
  | k + 1, s, hk, hm, p, hp => by
    by_cases h0 : s.size = 0
    · rw [piecesB_nil h0] at hp; cases hp
    have hge : n ≤ s.size := Nat.le_of_not_lt fun h => by rw [Nat.mod_eq_of_lt h] at hm; exact h0 hm
    have e1 : min n s.size = n := by omega
    rw [piecesB_cons hn h0, e1] at hp
    rcases List.mem_cons.1 hp with rfl | hp
    · rw [ByteArray.size_extract]; omega
    · exact piece_whole hn k _ (by rw [size_rest]; omega) (by rw [size_rest, ← Nat.mod_eq_sub_mod hge]; exact hm) p hp
theorem pairs_pieces (s : ByteArray) : (piecesB 2 s).flatMap (fun x => pairsL x.data.toList) = pairsL s.data.toList := by
  refine pieces_flat (by omega) (fun x => pairsL x.data.toList) ?_ rfl s.size s (Nat.le_refl _)
  intro a b ha
  have hl : a.data.toList.length = 2 := by rw [len_eq]; exact ha
  show pairsL (a.data.toList ++ b.data.toList) = _
  match h : a.data.toList, hl with
  | [c, d], _ => rfl
/-- The pieces that Unhex is handed. -/
abbrev P2 := { x : ByteArray // x.size = 2 ∧ x.data.toList.all isDig = true }
def unP (pre : List P2) : List UInt8 := pre.flatMap fun x => pairsL x.1.data.toList
theorem pair_one {x : ByteArray} (h : x.size = 2) : pairsL x.data.toList = [two (x[0]'(by omega)) (x[1]'(by omega))] := by
  have hl : x.data.toList.length = 2 := by rw [len_eq]; exact h
  have e0 := list_at x 0 (by omega)
  have e1 := list_at x 1 (by omega)
  match hx : x.data.toList, hl with
  | [c, d], _ =>
    rw [hx] at e0 e1
    simp at e0 e1
    rw [← e0, ← e1]
    rfl
theorem unP_snoc (pre : List P2) (x : P2) : unP (pre ++ [x]) = unP pre ++ [two (x.1[0]'(by have := x.2.1; omega)) (x.1[1]'(by have := x.2.1; omega))] := by
  have := pair_one x.2.1
  simp [unP, this]
theorem unP_length (pre : List P2) : (unP pre).length = pre.length := by
  induction pre with
  | nil => rfl
  | cons x r ih =>
    have : unP (x :: r) = pairsL x.1.data.toList ++ unP r := rfl
    rw [this, pair_one x.2.1, List.length_append, ih]
    simp
    omega
theorem unP_all {pre : List P2} {s : ByteArray} (h : pre.map (·.1) = piecesB 2 s) : unP pre = pairsL s.data.toList := by
  rw [← pairs_pieces s, ← h]
  simp [unP]

theorem digitW_u8 (c : UInt8) (w : World) : Calls Tryd.prog 45 #[.int .i32 (c.toNat : Int)] w fun e w' => e = .returned (.int .i64 (digitZ c.toNat)) ∧ w' = w := digitW_any c.toNat w (by have := c.toNat_lt; omega)

set_option maxHeartbeats 2000000 in
set_option maxRecDepth 100000 in
theorem cUnhex_any (s : ByteArray) (w : World) (hs : s.size ≤ 100000) :
    Calls Tryd.prog 29 #[.string s] w fun e w' => ∃ v, e = .returned (.tuple #[v, .int .i64 (unhexE s.data.toList)]) ∧ IsBytes w' v ⟨(unhexB s.data.toList).toArray⟩ ∧ Below w.heap.size w w' := by
  refine (callsIn_wide (n := 3)).1 ?_
  refine callsIn_of_wp_marks Tryd.func29 rfl trivial ?_ rfl
  simp only [Tryd.ntmps29, List.size_toArray, List.length_cons, List.length_nil, Nat.reduceAdd, Nat.reduceSub, Array.replicate_succ, Array.replicate_zero, List.push_toArray, List.append_toArray, List.nil_append, List.cons_append]
  gi_wp2
  gi_loopw [5] (fun _ wr => ∃ pos : Nat, wr.heap[w.heap.size]? = some (.stringIter s pos) ∧ Below w.heap.size w wr ∧ pos ≤ s.size ∧ Hid (s.data.toList.all isDig = (s.data.toList.drop pos).all isDig)) (fun _ wr => s.size - wr.iterPos w.heap.size)
  case atStart =>
    refine ⟨0, ?_, (Below.refl _ w).alloc (Nat.le_refl _) _, Nat.zero_le _, rfl⟩
    have := World.iter_heap w s 0
    simpa using this
  case round =>
    obtain ⟨pos, hit, hbw, hps, hall⟩ := hrel
    by_cases hp : pos < s.size
    · have hnx : ∀ ty, (Instr.next (.pointer (some ⟨w.heap.size, 0, none⟩)) true ty).run Tryd.prog wr = _ := fun ty => Lib.run_next_any_at wr w.heap.size s pos ty hit hp
      obtain ⟨c, n, hd, hn0, hpn, hc, hcase⟩ := rune_cases s pos hp
      simp only [hd] at hnx
      have hit2 := Lib.iterAt_heap wr w.heap.size s pos (pos + n) hit
      have hbw2 := Lib.below_iterAt hbw (k := w.heap.size) (Nat.le_refl _) s (pos + n)
      have hD := digitW_any c (wr.iterAt w.heap.size s (pos + n)) hc
      obtain ⟨z, hz⟩ : ∃ z, digitZ c = z := ⟨_, rfl⟩
      rw [hz] at hD
      obtain ⟨c8, hdr, hcc⟩ := drop_at s hp
      by_cases hz0 : z < 0
      · have hE : Hid (unhexE s.data.toList = 13) := by
          unfold Hid unhexE
          rw [if_neg]
          rw [hall.out, hdr, List.all_cons]
          have : isDig c8 = false := decide_eq_false (by
            rw [hcc]
            rcases hcase with ⟨_, h2, _⟩ | ⟨_, h2⟩
            · rw [← h2]; omega
            · have := h2 0 hn0
              rw [Nat.add_zero] at this
              unfold digitZ
              rw [if_neg (by omega), if_neg (by omega), if_neg (by omega)]
              omega)
          rw [this]
          simp
        have hb : Hid (unhexB s.data.toList = []) := by unfold Hid unhexB; rw [hE.out]; rfl
        clear hall hdr hcc hz hcase hd
        gi_wp2_with (refine ⟨trivial, ?_⟩; gi_at_call 45; refine (callsIn_wide.2 hD).mono ?_; clear hD; rintro e w1 ⟨rfl, rfl⟩)
        refine ⟨_, results_tmp2 rfl _ _ _, ⟨_, ret_pair hE.out.symm, ?_, hbw2⟩⟩
        rw [hb.out]
        exact bytes_nil _
      · have hc128 : n = 1 ∧ c = byte s pos := by
          rcases hcase with ⟨h1, h2, _⟩ | ⟨h1, _⟩
          · exact ⟨h1, h2⟩
          · exfalso
            have : digitZ c = -1 := by unfold digitZ; rw [if_neg (by omega), if_neg (by omega), if_neg (by omega)]
            omega
        have h2 : Hid (s.data.toList.all isDig = (s.data.toList.drop (pos + n)).all isDig) := by
          unfold Hid
          rw [hall.out, hdr, List.all_cons, hc128.1]
          have : isDig c8 = true := decide_eq_true (by rw [hcc, ← hc128.2]; omega)
          rw [this, Bool.true_and]
        clear hall hdr hcc hz hcase hd hc128
        gi_wp2_with (refine ⟨trivial, ?_⟩; gi_at_call 45; refine (callsIn_wide.2 hD).mono ?_; clear hD; rintro e w1 ⟨rfl, rfl⟩)
        go_roundw
        case rel => exact ⟨pos + n, hit2, hbw2, hpn, h2⟩
        case measure =>
          simp only [World.iterPos, hit2, hit]
          omega
    · have hnx : ∀ ty, (Instr.next (.pointer (some ⟨w.heap.size, 0, none⟩)) true ty).run Tryd.prog wr = _ := fun ty => Lib.run_next_end_at wr w.heap.size s pos ty hit hp
      have hA : Hid (s.data.toList.all isDig = true) := by
        unfold Hid
        rw [hall.out, List.drop_of_length_le (by rw [len_eq]; omega)]
        rfl
      clear hall
      have hsz : w.heap.size < wr.heap.size := (Array.getElem?_eq_some_iff.1 hit).1
      by_cases hodd : s.size % 2 = 0
      · have e2 : ((s.size : Int) % 2 != 0) = false := by simp; omega
        have hE : Hid (unhexE s.data.toList = 0) := by
          unfold Hid unhexE
          rw [if_pos hA.out, len_eq, if_pos hodd]
        have hB : Hid (unhexB s.data.toList = pairsL s.data.toList) := by unfold Hid unhexB; rw [if_pos hE.out]
        gi_wp2_with (refine ⟨trivial, ?_⟩; gi_at_call 46; refine (callsIn_wide.2 (pieces_any _ 2 _)).mono ?_; rintro e w' ⟨rfl, rfl⟩)
        have hBx := BoxB.init w wr 2 s hbw
        have hw0 := hbw.size
        have hsz0 : (((wr.alloc (.cells #[.slice none 0 0] 49)).alloc (.cells #[.string s] 9)).alloc (.cells #[.int .i64 2] 3)).heap.size = wr.heap.size + 3 := by simp
        obtain ⟨W0, hW0⟩ : ∃ W0, (((wr.alloc (.cells #[.slice none 0 0] 49)).alloc (.cells #[.string s] 9)).alloc (.cells #[.int .i64 2] 3)) = W0 := ⟨_, rfl⟩
        obtain ⟨bb, hbb⟩ : ∃ bb, wr.heap.size = bb := ⟨_, rfl⟩
        have hBx2 : BoxB w bb 2 s [] (.slice none 0 0) W0 := by rw [← hW0, ← hbb]; exact hBx
        rw [hW0] at hsz0 ⊢
        rw [hbb] at hsz0 hw0 ⊢
        clear hW0 hBx hbb
        refine wpIn_rangeFunc_ownG rfl (by omega) (gf := 58) (lb := #[.pointer (some ⟨bb + 1, 0, none⟩), .pointer (some ⟨bb + 1 + 1, 0, none⟩)]) rfl trivial (enters_of Tryd.func58 (by kernel_rfl) rfl)
          (pieces_stops Fence.wide _ trivial rfl (by omega) (fun x => x.size = 2 ∧ x.data.toList.all isDig = true) s 2 (bb + 1) W0 (by omega) (by omega) (by omega) hBx2.two (fun p hp => by
            refine ⟨piece_whole (by omega) s.size s (Nat.le_refl _) hodd p hp, ?_⟩
            obtain ⟨_, _, _, h4⟩ := piece_size (by omega) s.size s (Nat.le_refl _) p hp
            exact List.all_eq_true.2 fun c hc => List.all_eq_true.1 hA.out c (h4 c hc))) keepTwo_t (keepTwo_b (by omega)) (Below.refl _ _) (fun _ => rfl)
          (fun (pre : List P2) W => ∃ v, BoxB w bb 2 s (unP pre) v W)
          (fun _ _ _ => False)
          ?own (fun _ _ _ _ _ hs _ _ => hs) ⟨_, hBx2⟩
          (fun x => { tmps := #[.string s, undef, u2, u3, undef, u5, .pointer (some ⟨bb, 0, none⟩), .string x.1, .string s, .pointer (some ⟨w.heap.size, 0, none⟩), .tuple #[.bool false], .bool false, u12, u13, u14, u15, .string s, .int .i64 s.size, .int .i64 ((s.size : Int) % 2), .bool false, .string s, .func (.func 58) #[] #[.pointer (some ⟨bb + 1, 0, none⟩), .pointer (some ⟨bb + 1 + 1, 0, none⟩)], .string x.1, undef, undef, undef, undef, undef, undef, undef, undef, undef, undef, undef, undef, undef, undef, undef], defers := [] }) ?assign ?body ?done ?stop
        case own =>
          rintro pre W W' row ⟨v, h⟩ hg hr
          exact ⟨v, h.own hw0 hg (fun r e => ⟨by have := (hr r e).1; omega, (hr r e).2⟩)⟩
        case assign =>
          intro l x W K hK
          gi_wp2
          exact hK
        case body =>
          rintro l pre x W ⟨v, hX⟩ hlen
          have hlen2 : pre.length < 100000 := by have := pieces_length (n := 2) (by omega) s.size s (Nat.le_refl _); omega
          have hul := unP_length pre
          have hd : 1 ≤ 3 - 1 - 1 := by omega
          obtain ⟨i0, hi, hz0, hz1, hz2⟩ := info5
          have h2 : x.1.size = 2 := x.2.1
          have hx0 : 0 < x.1.size := by omega
          have hx1 : 1 < x.1.size := by omega
          have hdig := List.all_eq_true.1 x.2.2
          have hd0 := of_decide_eq_true (hdig (x.1[0]'hx0) (List.mem_of_getElem? (list_at x.1 0 hx0)))
          have hd1 := of_decide_eq_true (hdig (x.1[1]'hx1) (List.mem_of_getElem? (list_at x.1 1 hx1)))
          have hl0 := digitZ_lt (x.1[0]'hx0).toNat
          have hl1 := digitZ_lt (x.1[1]'hx1).toNat
          obtain ⟨y0, hy0⟩ : ∃ y : Nat, digitZ (x.1[0]'hx0).toNat = (y : Int) := Int.eq_ofNat_of_zero_le hd0
          obtain ⟨y1, hy1⟩ : ∃ y : Nat, digitZ (x.1[1]'hx1).toNat = (y : Int) := Int.eq_ofNat_of_zero_le hd1
          rw [hy0] at hl0
          rw [hy1] at hl1
          obtain ⟨z, hz⟩ : ∃ z : UInt8, two (x.1[0]'hx0) (x.1[1]'hx1) = z := ⟨_, rfl⟩
          have hzv : (y0 : Int) * 16 + (y1 : Int) = (z.toNat : Int) := by
            rw [← hz]
            unfold two
            rw [hy0, hy1, UInt8.toNat_ofNat']
            omega
          have hz256 : (z.toNat : Int) < 256 := by have := z.toNat_lt; omega
          have hor : bits .or .i64 ((y0 : Int) * 16) (y1 : Int) = (z.toNat : Int) := by
            rw [bits_join .i64 62 (by decide) wraps_i64 4 _ _ (by omega) (by omega) (by omega) (by omega) (by omega) (by omega)]
            exact hzv
          have hw8 : IntKind.u8.wrap (z.toNat : Int) = (z.toNat : Int) := wraps_u8 _ (by omega) (by omega)
          obtain ⟨l2, hl2⟩ : ∃ l2, unP pre ++ [z] = l2 := ⟨_, rfl⟩
          have hcv := (cell_of_block hX.box).1
          have hrow : W.drew.ownsRow (bb + 3) 5 1 v (unP pre).length (Lib.byteCells (unP pre)) := hX.row
          have hbd : Below W.heap.size W (W.drew.alloc (.cells #[.int .u8 (z.toNat : Int)] 5)) := ((Below.refl _ W).drew).alloc (Nat.le_refl _) _
          have hsz3 := hX.size
          have hcv2 : (W.alloc (.cells #[.int .u8 (z.toNat : Int)] 5)).cell? ⟨bb, 0, none⟩ = some v := (((Below.refl _ W).alloc (Nat.le_refl _) _).cell (p := ⟨bb, 0, none⟩) (show bb < W.heap.size by omega)).trans hcv
          have hmx : Tryd.prog.follows .mixedOrders = true := by kernel_rfl
          have hwa : IntKind.i32.wrap ((x.1[0]'hx0).toNat : Int) = ((x.1[0]'hx0).toNat : Int) := wraps_i32 _ (by omega) (by have := (x.1[0]'hx0).toNat_lt; omega)
          have hwb : IntKind.i32.wrap ((x.1[1]'hx1).toNat : Int) = ((x.1[1]'hx1).toNat : Int) := wraps_i32 _ (by omega) (by have := (x.1[1]'hx1).toNat_lt; omega)
          have hsh : IntKind.i64.wrap ((y0 : Int) * 16) = (y0 : Int) * 16 := IntWalk.i64_in _ (by omega)
          clear hdig hd0 hd1 hzv
          gi_wp2
          refine region_round hmx (by kernel_rfl) (fun ⟨_, _, h⟩ => h) ?_
          refine wpAny_take (i := 1) (v := ?v1) rfl (by kernel_rfl) (by kernel_rfl) (by kernel_rfl) (fun _ _ _ h => h) (Or.inl ⟨by rfl, ?h1⟩) ?r1
          case h1 =>
            intro w
            go_simp
            try with_reducible rfl
          refine wpAny_take (i := 2) (v := ?v2) rfl (by kernel_rfl) (by kernel_rfl) (by kernel_rfl) (fun _ _ _ h => h) (Or.inl ⟨by rfl, ?h2⟩) ?r2
          case h2 =>
            intro w
            go_simp
            try with_reducible rfl
          refine wpAny_take (i := 3) (v := ?v3) rfl (by kernel_rfl) (by kernel_rfl) (by kernel_rfl) (fun _ _ _ h => h) (Or.inl ⟨by rfl, ?h3⟩) ?r3
          case h3 =>
            intro w
            go_simp
            try with_reducible rfl
          refine wpAny_take (i := 6) (v := ?v4) rfl (by kernel_rfl) (by kernel_rfl) (by kernel_rfl) (fun _ _ _ h => h) (Or.inl ⟨by rfl, ?h4⟩) ?r4
          case h4 =>
            intro w
            go_simp
            try with_reducible rfl
          refine wpAny_take (i := 7) (v := ?v5) rfl (by kernel_rfl) (by kernel_rfl) (by kernel_rfl) (fun _ _ _ h => h) (Or.inl ⟨by rfl, ?h5⟩) ?r5
          case h5 =>
            intro w
            go_simp
            try with_reducible rfl
          refine wpAny_take (i := 8) (v := ?v6) rfl (by kernel_rfl) (by kernel_rfl) (by kernel_rfl) (fun _ _ _ h => h) (Or.inl ⟨by rfl, ?h6⟩) ?r6
          case h6 =>
            intro w
            go_simp
            try with_reducible rfl
          refine wpAny_ready (rs := [0, 4]) (by kernel_rfl) (by simp) ?_
          refine AllReady.cons rfl (fun K hK => ?_) ?_
          · go_simp
            refine hK _ _ ?_
            clear hK K
            refine wpAny_ready (rs := [4]) (by kernel_rfl) (by simp) ?_
            refine AllReady.cons rfl (fun K hK => ?_) ?_
            · go_simp
              go_wp2_with (go_at_call 45; refine (digitW_u8 _ _).mono ?_)
              rintro e w1 ⟨rfl, hw1⟩
              rw [hw1]
              clear hw1 w1
              try go_simp
              refine hK _ _ ?_
              clear hK K
              refine wpAny_take (i := 5) (v := ?v7) rfl (by kernel_rfl) (by kernel_rfl) (by kernel_rfl) (fun _ _ _ h => h) (Or.inl ⟨by rfl, ?h7⟩) ?r7
              case h7 =>
                intro w
                go_simp
                try with_reducible rfl
              refine wpAny_ready (rs := [9]) (by kernel_rfl) (by simp) ?_
              refine AllReady.cons rfl (fun K hK => ?_) ?_
              · go_simp
                go_wp2_with (go_at_call 45; refine (digitW_u8 _ _).mono ?_)
                rintro e w1 ⟨rfl, hw1⟩
                rw [hw1]
                clear hw1 w1
                try go_simp
                refine hK _ _ ?_
                clear hK K
                refine wpAny_take (i := 10) (v := ?v8) rfl (by kernel_rfl) (by kernel_rfl) (by kernel_rfl) (fun _ _ _ h => h) (Or.inl ⟨by rfl, ?h8⟩) ?r8
                case h8 =>
                  intro w
                  go_simp
                  try with_reducible rfl
                refine wpAny_take (i := 11) (v := ?v9) rfl (by kernel_rfl) (by kernel_rfl) (by kernel_rfl) (fun _ _ _ h => h) (Or.inl ⟨by rfl, ?h9⟩) ?r9
                case h9 =>
                  intro w
                  go_simp
                  try with_reducible rfl
                refine wpAny_ready (rs := [12]) (by kernel_rfl) (by simp) ?_
                refine AllReady.cons rfl (fun K hK => ?_) ?_
                · go_simp
                  refine hK _ _ ?_
                  clear hK K
                  refine wpAny_ready (rs := [13]) (by kernel_rfl) (by simp) ?_
                  refine AllReady.cons rfl (fun K hK => ?_) ?_
                  · refine step_append_lies _ rfl (.tmp 23) (.tmp 35) 49 rfl (bb + 3) 5 i0 (.int .u8 0) 1 1 Tryd.underlying49 hi hz0 hz1 hz2 rfl (by decide) v (unP pre).length (Lib.byteCells (unP pre)) (by simp [Act.eval]) (hrow.alloc _) ⟨W.drew.heap.size, 0, none⟩ 1 1 [.int .u8 (z.toNat : Int)] (by simp [Act.eval]) rfl (cell_one_new _ _ _) (by intro u hu; simp at hu; subst hu; rfl) (by decide) (by unfold maxLen; omega) (by omega) (by simp; omega) _ rfl ?_
                    intro g cap w2 hown2 hgrow _ _
                    have hown3 := own_snoc (c := z) hown2
                    rw [hl2] at hown3
                    obtain ⟨hS, hK2, hKF, hcell, hfr⟩ := hX.step hw0 hbd hgrow hown3
                    clear hgrow hown2 hown3
                    try go_simp
                    refine hK _ _ ?_
                    clear hK K
                    refine wpAny_ready (rs := [14]) (by kernel_rfl) (by simp) ?_
                    refine AllReady.cons rfl (fun K hK => ?_) ?_
                    · go_simp
                      refine hK _ _ ?_
                      clear hK K
                      refine wpAny_done (by kernel_rfl) ?_ _
                      rw [hul] at hS hK2 hKF
                      exact ⟨by rw [hsz0]; exact hKF, hK2, _, by rw [unP_snoc, hz, hl2]; exact hS⟩
                    exact AllReady.nil
                  exact AllReady.nil
                exact AllReady.nil
              exact AllReady.nil
            exact AllReady.nil
          refine AllReady.cons rfl (fun K hK => ?_) ?_
          · go_simp
            go_wp2_with (go_at_call 45; refine (digitW_u8 _ _).mono ?_)
            rintro e w1 ⟨rfl, hw1⟩
            rw [hw1]
            clear hw1 w1
            try go_simp
            refine hK _ _ ?_
            clear hK K
            refine wpAny_take (i := 5) (v := ?v10) rfl (by kernel_rfl) (by kernel_rfl) (by kernel_rfl) (fun _ _ _ h => h) (Or.inl ⟨by rfl, ?h10⟩) ?r10
            case h10 =>
              intro w
              go_simp
              try with_reducible rfl
            refine wpAny_ready (rs := [0, 9]) (by kernel_rfl) (by simp) ?_
            refine AllReady.cons rfl (fun K hK => ?_) ?_
            · go_simp
              refine hK _ _ ?_
              clear hK K
              refine wpAny_ready (rs := [9]) (by kernel_rfl) (by simp) ?_
              refine AllReady.cons rfl (fun K hK => ?_) ?_
              · go_simp
                go_wp2_with (go_at_call 45; refine (digitW_u8 _ _).mono ?_)
                rintro e w1 ⟨rfl, hw1⟩
                rw [hw1]
                clear hw1 w1
                try go_simp
                refine hK _ _ ?_
                clear hK K
                refine wpAny_take (i := 10) (v := ?v11) rfl (by kernel_rfl) (by kernel_rfl) (by kernel_rfl) (fun _ _ _ h => h) (Or.inl ⟨by rfl, ?h11⟩) ?r11
                case h11 =>
                  intro w
                  go_simp
                  try with_reducible rfl
                refine wpAny_take (i := 11) (v := ?v12) rfl (by kernel_rfl) (by kernel_rfl) (by kernel_rfl) (fun _ _ _ h => h) (Or.inl ⟨by rfl, ?h12⟩) ?r12
                case h12 =>
                  intro w
                  go_simp
                  try with_reducible rfl
                refine wpAny_ready (rs := [12]) (by kernel_rfl) (by simp) ?_
                refine AllReady.cons rfl (fun K hK => ?_) ?_
                · go_simp
                  refine hK _ _ ?_
                  clear hK K
                  refine wpAny_ready (rs := [13]) (by kernel_rfl) (by simp) ?_
                  refine AllReady.cons rfl (fun K hK => ?_) ?_
                  · refine step_append_lies _ rfl (.tmp 23) (.tmp 35) 49 rfl (bb + 3) 5 i0 (.int .u8 0) 1 1 Tryd.underlying49 hi hz0 hz1 hz2 rfl (by decide) v (unP pre).length (Lib.byteCells (unP pre)) (by simp [Act.eval]) (hrow.alloc _) ⟨W.drew.heap.size, 0, none⟩ 1 1 [.int .u8 (z.toNat : Int)] (by simp [Act.eval]) rfl (cell_one_new _ _ _) (by intro u hu; simp at hu; subst hu; rfl) (by decide) (by unfold maxLen; omega) (by omega) (by simp; omega) _ rfl ?_
                    intro g cap w2 hown2 hgrow _ _
                    have hown3 := own_snoc (c := z) hown2
                    rw [hl2] at hown3
                    obtain ⟨hS, hK2, hKF, hcell, hfr⟩ := hX.step hw0 hbd hgrow hown3
                    clear hgrow hown2 hown3
                    try go_simp
                    refine hK _ _ ?_
                    clear hK K
                    refine wpAny_ready (rs := [14]) (by kernel_rfl) (by simp) ?_
                    refine AllReady.cons rfl (fun K hK => ?_) ?_
                    · go_simp
                      refine hK _ _ ?_
                      clear hK K
                      refine wpAny_done (by kernel_rfl) ?_ _
                      rw [hul] at hS hK2 hKF
                      exact ⟨by rw [hsz0]; exact hKF, hK2, _, by rw [unP_snoc, hz, hl2]; exact hS⟩
                    exact AllReady.nil
                  exact AllReady.nil
                exact AllReady.nil
              exact AllReady.nil
            refine AllReady.cons rfl (fun K hK => ?_) ?_
            · go_simp
              go_wp2_with (go_at_call 45; refine (digitW_u8 _ _).mono ?_)
              rintro e w1 ⟨rfl, hw1⟩
              rw [hw1]
              clear hw1 w1
              try go_simp
              refine hK _ _ ?_
              clear hK K
              refine wpAny_take (i := 10) (v := ?v13) rfl (by kernel_rfl) (by kernel_rfl) (by kernel_rfl) (fun _ _ _ h => h) (Or.inl ⟨by rfl, ?h13⟩) ?r13
              case h13 =>
                intro w
                go_simp
                try with_reducible rfl
              refine wpAny_take (i := 11) (v := ?v14) rfl (by kernel_rfl) (by kernel_rfl) (by kernel_rfl) (fun _ _ _ h => h) (Or.inl ⟨by rfl, ?h14⟩) ?r14
              case h14 =>
                intro w
                go_simp
                try with_reducible rfl
              refine wpAny_ready (rs := [0, 12]) (by kernel_rfl) (by simp) ?_
              refine AllReady.cons rfl (fun K hK => ?_) ?_
              · go_simp
                refine hK _ _ ?_
                clear hK K
                refine wpAny_ready (rs := [12]) (by kernel_rfl) (by simp) ?_
                refine AllReady.cons rfl (fun K hK => ?_) ?_
                · go_simp
                  refine hK _ _ ?_
                  clear hK K
                  refine wpAny_ready (rs := [13]) (by kernel_rfl) (by simp) ?_
                  refine AllReady.cons rfl (fun K hK => ?_) ?_
                  · refine step_append_lies _ rfl (.tmp 23) (.tmp 35) 49 rfl (bb + 3) 5 i0 (.int .u8 0) 1 1 Tryd.underlying49 hi hz0 hz1 hz2 rfl (by decide) v (unP pre).length (Lib.byteCells (unP pre)) (by simp [Act.eval]) (hrow.alloc _) ⟨W.drew.heap.size, 0, none⟩ 1 1 [.int .u8 (z.toNat : Int)] (by simp [Act.eval]) rfl (cell_one_new _ _ _) (by intro u hu; simp at hu; subst hu; rfl) (by decide) (by unfold maxLen; omega) (by omega) (by simp; omega) _ rfl ?_
                    intro g cap w2 hown2 hgrow _ _
                    have hown3 := own_snoc (c := z) hown2
                    rw [hl2] at hown3
                    obtain ⟨hS, hK2, hKF, hcell, hfr⟩ := hX.step hw0 hbd hgrow hown3
                    clear hgrow hown2 hown3
                    try go_simp
                    refine hK _ _ ?_
                    clear hK K
                    refine wpAny_ready (rs := [14]) (by kernel_rfl) (by simp) ?_
                    refine AllReady.cons rfl (fun K hK => ?_) ?_
                    · go_simp
                      refine hK _ _ ?_
                      clear hK K
                      refine wpAny_done (by kernel_rfl) ?_ _
                      rw [hul] at hS hK2 hKF
                      exact ⟨by rw [hsz0]; exact hKF, hK2, _, by rw [unP_snoc, hz, hl2]; exact hS⟩
                    exact AllReady.nil
                  exact AllReady.nil
                exact AllReady.nil
              refine AllReady.cons rfl (fun K hK => ?_) ?_
              · go_simp
                refine hK _ _ ?_
                clear hK K
                refine wpAny_ready (rs := [0]) (by kernel_rfl) (by simp) ?_
                refine AllReady.cons rfl (fun K hK => ?_) ?_
                · go_simp
                  refine hK _ _ ?_
                  clear hK K
                  refine wpAny_ready (rs := [13]) (by kernel_rfl) (by simp) ?_
                  refine AllReady.cons rfl (fun K hK => ?_) ?_
                  · refine step_append_lies _ rfl (.tmp 23) (.tmp 35) 49 rfl (bb + 3) 5 i0 (.int .u8 0) 1 1 Tryd.underlying49 hi hz0 hz1 hz2 rfl (by decide) v (unP pre).length (Lib.byteCells (unP pre)) (by simp [Act.eval]) (hrow.alloc _) ⟨W.drew.heap.size, 0, none⟩ 1 1 [.int .u8 (z.toNat : Int)] (by simp [Act.eval]) rfl (cell_one_new _ _ _) (by intro u hu; simp at hu; subst hu; rfl) (by decide) (by unfold maxLen; omega) (by omega) (by simp; omega) _ rfl ?_
                    intro g cap w2 hown2 hgrow _ _
                    have hown3 := own_snoc (c := z) hown2
                    rw [hl2] at hown3
                    obtain ⟨hS, hK2, hKF, hcell, hfr⟩ := hX.step hw0 hbd hgrow hown3
                    clear hgrow hown2 hown3
                    try go_simp
                    refine hK _ _ ?_
                    clear hK K
                    refine wpAny_ready (rs := [14]) (by kernel_rfl) (by simp) ?_
                    refine AllReady.cons rfl (fun K hK => ?_) ?_
                    · go_simp
                      refine hK _ _ ?_
                      clear hK K
                      refine wpAny_done (by kernel_rfl) ?_ _
                      rw [hul] at hS hK2 hKF
                      exact ⟨by rw [hsz0]; exact hKF, hK2, _, by rw [unP_snoc, hz, hl2]; exact hS⟩
                    exact AllReady.nil
                  exact AllReady.nil
                exact AllReady.nil
              exact AllReady.nil
            exact AllReady.nil
          exact AllReady.nil
        case done =>
          rintro D ys W hD hys ⟨v, hX⟩ hK
          rw [unP_all hys] at hX
          have hcv := (cell_of_block hX.box).1
          gi_wp2
          refine ⟨by simp, .inl ⟨_, _, rfl, run_takeDeferred hK, ?_⟩⟩
          have hb2 : Below w.heap.size W (W.putObj D (.deferred none)) := belowK_b (w := w) (Nat.le_refl _) W D _ _ (by omega) hK rfl rfl
          refine ⟨_, results_tmp2 rfl _ _ _, _, ret_pair hE.out.symm, ?_, hX.below.trans hb2⟩
          rw [hB.out]
          exact list_bytes (row_own hX.row (grownBy_putObj' W D _) (fun r e => by cases e; exact ⟨_, hK, rfl⟩))
        case stop =>
          rintro D c pre W _ _ h _
          exact h.elim
      · have hE : Hid (unhexE s.data.toList = 10) := by
          unfold Hid unhexE
          rw [if_pos hA.out, len_eq, if_neg hodd]
        have hb : Hid (unhexB s.data.toList = []) := by unfold Hid unhexB; rw [hE.out]; rfl
        have e2 : ((s.size : Int) % 2 != 0) = true := by simp; omega
        gi_wp2
        refine ⟨_, results_tmp2 rfl _ _ _, ⟨_, ret_pair hE.out.symm, ?_, hbw⟩⟩
        rw [hb.out]
        exact bytes_nil _
end Go.Proofs.YtnkefpopkaagaaaDoor
