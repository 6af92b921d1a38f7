/-
  DerOne, walked.
-/
import Derived.Test.YthdoginhbhdmbaaXAwake
import Derived.Test.YthdoginhbhdmbaaHFree
namespace Go.Proofs.Ythdoginhbhdmbaa
open Go.RowKit Ch
set_option maxRecDepth 100000

theorem lenL_err {b : List UInt8} {k : Nat} (h : lenL b = .error k) : k ≠ 0 := by
  unfold lenL at h
  split at h
  · cases h; decide
  · repeat' split at h
    all_goals (cases h <;> decide)
theorem pieceL_err {b : List UInt8} {k : Nat} (h : pieceL b = .error k) : k ≠ 0 := by
  unfold pieceL at h
  split at h
  · cases h; decide
  · split at h
    · cases h; decide
    · split at h
      · next e => cases h; exact lenL_err e
      · split at h
        · cases h; decide
        · cases h
theorem splitL_err : ∀ (f : Nat) {b : List UInt8} {k : Nat}, splitL f b = .error k → k ≠ 0
  | 0, b, k, h => by cases h
  | f + 1, b, k, h => by
    unfold splitL at h
    split at h
    · cases h
    · split at h
      · next e => cases h; exact pieceL_err e
      · split at h
        · next e => cases h; exact splitL_err f e
        · cases h
theorem putL_len : ∀ ps : List (UInt8 × List UInt8), ps.length ≤ (putL ps).length
  | [] => Nat.le_refl _
  | p :: ps => by
    have h1 := putL1_length p
    have h2 := putL_len ps
    simp only [putL, List.length_cons, List.length_append]
    omega
/-- The first bytes of a slice of bytes. -/
theorem IsBytes.upto {w : World} {x : Option Addr} {cx : Nat} {s : ByteArray} (h : IsBytes w (.slice x s.size cx) s) {n : Nat} (hn : n ≤ s.size) : IsBytes w (.slice x n cx) ⟨(s.data.toList.take n).toArray⟩ := by
  have h1 := h.head hn
  have e : seg s 0 n = s.data.toList.take n := by unfold seg; simp
  rw [e] at h1
  exact h1
theorem below_drew {w wr u : World} (hb : Below w.heap.size w wr) (hbu : Below wr.drew.heap.size wr.drew u) : Below w.heap.size w u := by
  have h1 : Below wr.heap.size wr wr.drew := (Below.refl _ _).drew
  exact hb.trans ((h1.trans (hbu.mono h1.size)).mono hb.size)
def semClO : Array Oper := #[{ dst := some 23, op := Go.Op.move (Go.Operand.tmp 0), type := 24, pos := "ref.go:39", after := #[], guard := none }, { dst := some 24, op := Go.Op.move (Go.Operand.tmp 5), type := 3, pos := "ref.go:39", after := #[], guard := none }, { dst := some 25, op := Go.Op.indexAddr 24 (Go.Operand.tmp 23) (Go.Operand.tmp 24), type := 0, pos := "ref.go:39", after := #[{ on := 0, ground := Go.Ground.data }, { on := 1, ground := Go.Ground.data }], guard := none }, { dst := some 26, op := Go.Op.load 3 (Go.Operand.tmp 25), type := 3, pos := "ref.go:39", after := #[{ on := 2, ground := Go.Ground.data }], guard := none }, { dst := some 27, op := Go.Op.move (Go.Operand.tmp 1), type := 24, pos := "ref.go:39", after := #[], guard := none }, { dst := some 28, op := Go.Op.move (Go.Operand.tmp 5), type := 3, pos := "ref.go:39", after := #[], guard := none }, { dst := some 29, op := Go.Op.indexAddr 24 (Go.Operand.tmp 27) (Go.Operand.tmp 28), type := 0, pos := "ref.go:39", after := #[{ on := 4, ground := Go.Ground.data }, { on := 5, ground := Go.Ground.data }], guard := none }, { dst := some 30, op := Go.Op.load 3 (Go.Operand.tmp 29), type := 3, pos := "ref.go:39", after := #[{ on := 6, ground := Go.Ground.data }], guard := none }, { dst := some 31, op := Go.Op.binOp Go.BinOp.lss 3 (Go.Operand.tmp 26) (Go.Operand.tmp 30) 3, type := 4, pos := "ref.go:39", after := #[{ on := 3, ground := Go.Ground.data }, { on := 7, ground := Go.Ground.data }], guard := none }]
def semCl (b b2 o o2 n m k p q cx cy : Nat) : Nat → Value → World → Prop := fun ix v _ => match ix with
  | 0 => v = .slice (some ⟨b, o, none⟩) n cx
  | 1 => v = .int .i64 (k : Int)
  | 2 => v = .pointer (some ⟨b, o + k, none⟩)
  | 3 => v = .int .i64 (p : Int)
  | 4 => v = .slice (some ⟨b2, o2, none⟩) m cy
  | 5 => v = .int .i64 (k : Int)
  | 6 => v = .pointer (some ⟨b2, o2 + k, none⟩)
  | 7 => v = .int .i64 (q : Int)
  | 8 => v = .bool (decide (p < q))
  | _ => True
def semLxO (x y3 : Option Addr) (cx c3 nn : Nat) (s S1 : ByteArray) : Nat → Value → World → Prop := fun ix v _ => match ix with
  | 0 => v = .int .i64 0
  | 1 => v = .bool true
  | 2 => v = .bool true
  | 3 => v = .int .i64 (nn : Int)
  | 4 => v = .slice x s.size cx
  | 5 => v = .int .i64 (s.size : Int)
  | 6 => v = .bool true
  | 7 => v = .bool true
  | 8 => v = .bool true
  | 9 => v = .slice y3 nn c3
  | 10 => v = .string S1
  | 11 => v = .slice x s.size cx
  | 12 => v = .int .i64 (nn : Int)
  | 13 => v = .slice x nn cx
  | 14 => v = .string S1
  | 15 => v = .bool true
  | 16 => v = .bool true
  | 17 => v = .bool true
  | _ => True
set_option maxHeartbeats 8000000 in
theorem lxOne_any (x : Option Addr) (cx : Nat) (s : ByteArray) (w : World) (hS : IsBytes w (.slice x s.size cx) s) :
    Calls Try.prog 5 #[.slice x s.size cx] w fun e w' => e = .returned (.bool true) ∧ Below w.heap.size w w' := by
  have hcx : s.size ≤ cx := by
    obtain ⟨_, _, h1, h2, _⟩ := id hS
    simp only [Value.slice.injEq] at h1
    omega
  have HU := show Hid (∀ u, Below w.heap.size w u → IsBytes u (.slice x s.size cx) s) from fun u hu => hS.later hu
  clear hS
  go_enter Try.func5, Try.ntmps5
  by_cases hg0 : 2000 < s.size
  · have hi0 : (2000 : Int) < (s.size : Int) := by omega
    clear HU
    go_wp2_with fail
    refine (lxAwake_any w).mono ?_
    rintro e w1 ⟨rfl, hb1⟩
    go_wp2_with fail
    refine (lxAwake_any w1).mono ?_
    rintro e w2 ⟨rfl, hb2⟩
    have HF := show Hid (Below w.heap.size w w2) from bl2 hb1 hb2
    clear hb1 hb2
    go_wp2_with fail
    go_ret
    exact ⟨rfl, HF.out⟩
  have hi0 : ¬ (2000 : Int) < (s.size : Int) := by omega
  have hs0 : s.size ≤ 2000 := by omega
  have hls : s.data.toList.length = s.size := len_eq s
  go_wp2_with fail
  refine (lxAwake_any w).mono ?_
  rintro e w1 ⟨rfl, hb1⟩
  have hT := xTake_any x cx s w1 (HU.out w1 hb1) (by omega)
  go_wp2_with fail
  refine hT.mono ?_
  intro e w2 h2
  clear hT
  cases hp : pieceL s.data.toList with
  | error k =>
    rw [hp] at h2
    obtain ⟨rfl, hb2⟩ := h2
    have hk := pieceL_err hp
    have hk0 : ((k : Int) == 0) = false := beq_eq_false_iff_ne.2 (by omega)
    have hk1 : ¬ (k : Int) = 0 := by omega
    have hN := heap_push_at w2 (.cells #[.int .u8 0, .slice none 0 0] 26)
    have k1 := block_cell (v := .slice none 0 0) 1 hN rfl
    have HF := show Hid (Below w.heap.size w (w2.alloc (.cells #[.int .u8 0, .slice none 0 0] 26))) from bl2 (bl2 hb1 hb2) (alB _ _)
    clear hb1 hb2 hp hN hk HU
    go_wp2_with fail
    go_ret
    exact ⟨rfl, HF.out⟩
  | ok r0 =>
    obtain ⟨⟨t, bl⟩, r⟩ := r0
    rw [hp] at h2
    obtain ⟨⟨y, c, rfl, hby⟩, hb2⟩ := h2
    have hpb := pieceL_back hp
    obtain ⟨nn, hnn⟩ : ∃ nn, (putL [(t, bl)]).length = nn := ⟨_, rfl⟩
    have hp1 : putL [(t, bl)] = putL1 (t, bl) := by simp [putL]
    have hsum : nn + r.length = s.size := by
      have := congrArg List.length hpb.1
      rw [List.length_append, hls, ← hp1, hnn] at this
      exact this
    have hnI : (s.size : Int) - (r.length : Int) = (nn : Int) := by omega
    have htk : s.data.toList.take nn = putL [(t, bl)] := by
      rw [← hpb.1, ← hnn, ← hp1]
      simp
    obtain ⟨S1, hS1⟩ : ∃ S : ByteArray, S = ⟨(putL [(t, bl)]).toArray⟩ := ⟨_, rfl⟩
    have HX := show Hid (∀ u, Below w.heap.size w u → IsBytes u (.slice x nn cx) S1) from fun u hu => by
      have := IsBytes.upto (HU.out u hu) (n := nn) (by omega)
      rw [htk, ← hS1] at this
      exact this
    have hnl : (nn : Int) ≤ (s.size : Int) := by omega
    have hnc : nn ≤ cx := by omega
    obtain ⟨W1, hW1⟩ : ∃ W, w2.alloc (.cells #[.int .u8 (t.toNat : Int), .slice y bl.length c] 26) = W := ⟨_, rfl⟩
    obtain ⟨W2, hW2⟩ : ∃ W, W1.alloc (.cells #[.int .u8 (t.toNat : Int), .slice y bl.length c] 26) = W := ⟨_, rfl⟩
    have bW1 : Below w2.heap.size w2 W1 := by rw [← hW1]; exact alB _ _
    have bW2 : Below W1.heap.size W1 W2 := by rw [← hW2]; exact alB _ _
    have hps : IsPs W2 (.slice (some ⟨W1.heap.size, 0, none⟩) 1 1) [(t, bl)] := by rw [← hW2]; exact isPs_one W1 t bl y c (hby.later bW1)
    have hN := heap_push_at w2 (.cells #[.int .u8 (t.toNat : Int), .slice y bl.length c] 26)
    rw [hW1] at hN
    have k0 := block_cell (v := .int .u8 (t.toNat : Int)) 0 hN rfl
    have k1 := block_cell (v := .slice y bl.length c) 1 hN rfl
    have hP := show Calls Try.prog 8 #[.slice (some ⟨W1.heap.size, 0, none⟩) 1 1] W2 _ from xPut_any _ 1 [(t, bl)] W2 hps (by intro p hp; simp at hp; subst hp; exact hpb.2) (show (1 : Nat) ≤ 100000 by decide) (by omega)
    have HB := show Hid (Below w.heap.size w W2) from bl2 (bl2 hb1 hb2) (bl2 bW1 bW2)
    have HN := show Hid ((putL [(t, bl)]).length = nn ∧ S1 = ⟨(putL [(t, bl)]).toArray⟩ ∧ s.data.toList.length = s.size) from ⟨hnn, hS1, hls⟩
    rw [hnI]
    clear hpb hp1 hsum htk hps hby hp hb1 hb2 bW1 bW2 hN hnn hS1 hnI hls
    go_wp2_with fail
    refine hP.mono ?_
    rintro e w3 ⟨⟨v3, rfl, h3⟩, hb3⟩
    clear hP
    obtain ⟨y3, c3, rfl⟩ := own_shape h3
    rw [HN.out.1] at h3 ⊢
    have h3i : IsBytes w3 (.slice y3 nn c3) S1 := by rw [HN.out.2.1]; exact OwnL.is h3
    have HB3 := show Hid (Below w.heap.size w w3 ∧ IsBytes w3 (.slice y3 nn c3) S1) from ⟨bl2 HB.out hb3, h3i⟩
    have hSp := xSplit_any x cx s w3 (HU.out w3 HB3.out.1) (by omega)
    clear h3 hb3 h3i hW1 hW2 k0 k1 HB
    go_wp2_with fail
    refine hSp.mono ?_
    intro e w4 h4
    clear hSp
    cases hq : splitL s.size s.data.toList with
    | error k =>
      rw [hq] at h4
      obtain ⟨rfl, hb4⟩ := h4
      have hk := splitL_err _ hq
      have hk0 : ((k : Int) == 0) = false := beq_eq_false_iff_ne.2 (by omega)
      have hk1 : ¬ (k : Int) = 0 := by omega
      have hb14 := bl2 HB3.out.1 hb4
      have h3w := HB3.out.2.later hb4
      have HF := show Hid (∀ u, Below w4.drew.heap.size w4.drew u → Below w.heap.size w u) from fun u hu => below_drew hb14 hu
      have HU2 := show Hid (∀ u, Below w4.drew.heap.size w4.drew u → IsBytes u (.slice x nn cx) S1 ∧ IsBytes u (.slice y3 nn c3) S1) from fun u hu => ⟨HX.out u (below_drew hb14 hu), h3w.later (below_drew (Below.refl _ _) hu)⟩
      have tS : (S1.toList == S1.toList) = true := by simp
      clear hb4 hb14 h3w hq hk HU HX HB3 HN
      go_wp2_with fail
      refine free_walk (Sem := semLxO x y3 cx c3 nn s S1) rfl (n := 80) (by kernel_rfl) rfl (by kernel_rfl) ?_ ?_ ?_
      · intro ix v u u' h hb
        match ix, h with
        | 0, h => exact h
        | 1, h => exact h
        | 2, h => exact h
        | 3, h => exact h
        | 4, h => exact h
        | 5, h => exact h
        | 6, h => exact h
        | 7, h => exact h
        | 8, h => exact h
        | 9, h => exact h
        | 10, h => exact h
        | 11, h => exact h
        | 12, h => exact h
        | 13, h => exact h
        | 14, h => exact h
        | 15, h => exact h
        | 16, h => exact h
        | 17, h => exact h
        | _ + 18, _ => exact trivial
      · intro ix o a u ho hF hbu
        match ix, ho, hF with
        | 0, ho, hF =>
          obtain rfl := Option.some.inj ho
          have h7 : a.tmps[7]? = some (.int .i64 0) := (hF.out 7 rfl).trans rfl
          refine free_step rfl (by rfl) (fun K' hK => ?_)
          go_simp
          exact hK.out _ _ rfl (Below.refl _ _)
        | 1, ho, hF =>
          obtain rfl := Option.some.inj ho
          obtain ⟨v63, h63, s63⟩ := hF.dep 0 63 rfl rfl
          obtain rfl : v63 = .int .i64 0 := s63
          refine free_step rfl (by rfl) (fun K' hK => ?_)
          go_simp
          exact hK.out _ _ rfl (Below.refl _ _)
        | 2, ho, hF =>
          obtain rfl := Option.some.inj ho
          obtain ⟨v64, h64, s64⟩ := hF.dep 1 64 rfl rfl
          obtain rfl : v64 = .bool true := s64
          refine free_step rfl (by rfl) (fun K' hK => ?_)
          go_simp
          exact hK.out _ _ rfl (Below.refl _ _)
        | 3, ho, hF =>
          obtain rfl := Option.some.inj ho
          have h4 : a.tmps[4]? = some (.int .i64 (nn : Int)) := (hF.out 4 rfl).trans rfl
          obtain ⟨v65, h65, s65⟩ := hF.dep 2 65 rfl rfl
          obtain rfl : v65 = .bool true := s65
          refine free_step rfl (by show (yielded _ a.tmps 2 == some true) = true; unfold yielded; simp [h65]) (fun K' hK => ?_)
          go_simp
          exact hK.out _ _ rfl (Below.refl _ _)
        | 4, ho, hF =>
          obtain rfl := Option.some.inj ho
          have h0 : a.tmps[0]? = some (.slice x s.size cx) := (hF.out 0 rfl).trans rfl
          obtain ⟨v65, h65, s65⟩ := hF.dep 2 65 rfl rfl
          obtain rfl : v65 = .bool true := s65
          refine free_step rfl (by show (yielded _ a.tmps 2 == some true) = true; unfold yielded; simp [h65]) (fun K' hK => ?_)
          go_simp
          exact hK.out _ _ rfl (Below.refl _ _)
        | 5, ho, hF =>
          obtain rfl := Option.some.inj ho
          obtain ⟨v67, h67, s67⟩ := hF.dep 4 67 rfl rfl
          obtain rfl : v67 = .slice x s.size cx := s67
          obtain ⟨v65, h65, s65⟩ := hF.dep 2 65 rfl rfl
          obtain rfl : v65 = .bool true := s65
          refine free_step rfl (by show (yielded _ a.tmps 2 == some true) = true; unfold yielded; simp [h65]) (fun K' hK => ?_)
          go_simp
          exact hK.out _ _ rfl (Below.refl _ _)
        | 6, ho, hF =>
          obtain rfl := Option.some.inj ho
          obtain ⟨v66, h66, s66⟩ := hF.dep 3 66 rfl rfl
          obtain rfl : v66 = .int .i64 (nn : Int) := s66
          obtain ⟨v68, h68, s68⟩ := hF.dep 5 68 rfl rfl
          obtain rfl : v68 = .int .i64 (s.size : Int) := s68
          obtain ⟨v65, h65, s65⟩ := hF.dep 2 65 rfl rfl
          obtain rfl : v65 = .bool true := s65
          refine free_step rfl (by show (yielded _ a.tmps 2 == some true) = true; unfold yielded; simp [h65]) (fun K' hK => ?_)
          go_simp
          exact hK.out _ _ rfl (Below.refl _ _)
        | 7, ho, hF =>
          obtain rfl := Option.some.inj ho
          obtain ⟨v65, h65, s65⟩ := hF.dep 2 65 rfl rfl
          obtain rfl : v65 = .bool true := s65
          obtain ⟨v69, h69, s69⟩ := hF.dep 6 69 rfl rfl
          obtain rfl : v69 = .bool true := s69
          refine free_step rfl (by rfl) (fun K' hK => ?_)
          go_simp
          exact hK.out _ _ rfl (Below.refl _ _)
        | 8, ho, hF =>
          obtain rfl := Option.some.inj ho
          obtain ⟨v70, h70, s70⟩ := hF.dep 7 70 rfl rfl
          obtain rfl : v70 = .bool true := s70
          refine free_step rfl (by rfl) (fun K' hK => ?_)
          go_simp
          exact hK.out _ _ rfl (Below.refl _ _)
        | 9, ho, hF =>
          obtain rfl := Option.some.inj ho
          have h6 : a.tmps[6]? = some (.slice y3 nn c3) := (hF.out 6 rfl).trans rfl
          obtain ⟨v71, h71, s71⟩ := hF.dep 8 71 rfl rfl
          obtain rfl : v71 = .bool true := s71
          refine free_step rfl (by show (yielded _ a.tmps 8 == some true) = true; unfold yielded; simp [h71]) (fun K' hK => ?_)
          go_simp
          exact hK.out _ _ rfl (Below.refl _ _)
        | 10, ho, hF =>
          obtain rfl := Option.some.inj ho
          obtain ⟨v72, h72, s72⟩ := hF.dep 9 72 rfl rfl
          obtain rfl : v72 = .slice y3 nn c3 := s72
          obtain ⟨v71, h71, s71⟩ := hF.dep 8 71 rfl rfl
          obtain rfl : v71 = .bool true := s71
          have hcv := IsBytes.convert (HU2.out u hbu).2
          refine free_step rfl (by show (yielded _ a.tmps 8 == some true) = true; unfold yielded; simp [h71]) (fun K' hK => ?_)
          go_simp
          exact hK.out _ _ rfl (Below.refl _ _)
        | 11, ho, hF =>
          obtain rfl := Option.some.inj ho
          have h0 : a.tmps[0]? = some (.slice x s.size cx) := (hF.out 0 rfl).trans rfl
          obtain ⟨v71, h71, s71⟩ := hF.dep 8 71 rfl rfl
          obtain rfl : v71 = .bool true := s71
          refine free_step rfl (by show (yielded _ a.tmps 8 == some true) = true; unfold yielded; simp [h71]) (fun K' hK => ?_)
          go_simp
          exact hK.out _ _ rfl (Below.refl _ _)
        | 12, ho, hF =>
          obtain rfl := Option.some.inj ho
          have h4 : a.tmps[4]? = some (.int .i64 (nn : Int)) := (hF.out 4 rfl).trans rfl
          obtain ⟨v71, h71, s71⟩ := hF.dep 8 71 rfl rfl
          obtain rfl : v71 = .bool true := s71
          refine free_step rfl (by show (yielded _ a.tmps 8 == some true) = true; unfold yielded; simp [h71]) (fun K' hK => ?_)
          go_simp
          exact hK.out _ _ rfl (Below.refl _ _)
        | 13, ho, hF =>
          obtain rfl := Option.some.inj ho
          obtain ⟨v74, h74, s74⟩ := hF.dep 11 74 rfl rfl
          obtain rfl : v74 = .slice x s.size cx := s74
          obtain ⟨v75, h75, s75⟩ := hF.dep 12 75 rfl rfl
          obtain rfl : v75 = .int .i64 (nn : Int) := s75
          obtain ⟨v71, h71, s71⟩ := hF.dep 8 71 rfl rfl
          obtain rfl : v71 = .bool true := s71
          refine free_step rfl (by show (yielded _ a.tmps 8 == some true) = true; unfold yielded; simp [h71]) (fun K' hK => ?_)
          go_simp
          exact hK.out _ _ rfl (Below.refl _ _)
        | 14, ho, hF =>
          obtain rfl := Option.some.inj ho
          obtain ⟨v76, h76, s76⟩ := hF.dep 13 76 rfl rfl
          obtain rfl : v76 = .slice x nn cx := s76
          obtain ⟨v71, h71, s71⟩ := hF.dep 8 71 rfl rfl
          obtain rfl : v71 = .bool true := s71
          have hcv := IsBytes.convert (HU2.out u hbu).1
          refine free_step rfl (by show (yielded _ a.tmps 8 == some true) = true; unfold yielded; simp [h71]) (fun K' hK => ?_)
          go_simp
          exact hK.out _ _ rfl (Below.refl _ _)
        | 15, ho, hF =>
          obtain rfl := Option.some.inj ho
          obtain ⟨v73, h73, s73⟩ := hF.dep 10 73 rfl rfl
          obtain rfl : v73 = .string S1 := s73
          obtain ⟨v77, h77, s77⟩ := hF.dep 14 77 rfl rfl
          obtain rfl : v77 = .string S1 := s77
          obtain ⟨v71, h71, s71⟩ := hF.dep 8 71 rfl rfl
          obtain rfl : v71 = .bool true := s71
          refine free_step rfl (by show (yielded _ a.tmps 8 == some true) = true; unfold yielded; simp [h71]) (fun K' hK => ?_)
          go_simp
          exact hK.out _ _ rfl (Below.refl _ _)
        | 16, ho, hF =>
          obtain rfl := Option.some.inj ho
          obtain ⟨v71, h71, s71⟩ := hF.dep 8 71 rfl rfl
          obtain rfl : v71 = .bool true := s71
          obtain ⟨v78, h78, s78⟩ := hF.dep 15 78 rfl rfl
          obtain rfl : v78 = .bool true := s78
          refine free_step rfl (by rfl) (fun K' hK => ?_)
          go_simp
          exact hK.out _ _ rfl (Below.refl _ _)
        | 17, ho, hF =>
          obtain rfl := Option.some.inj ho
          obtain ⟨v79, h79, s79⟩ := hF.dep 16 79 rfl rfl
          obtain rfl : v79 = .bool true := s79
          refine free_step rfl (by rfl) (fun K' hK => ?_)
          go_simp
          exact hK.out _ _ rfl (Below.refl _ _)
        | n + 18, ho, _ => exact absurd (Array.getElem?_eq_some_iff.1 ho).1 (by show ¬ n + 18 < 18; omega)
      · intro vs u hS hbu
        have e17 : vs 17 = .bool true := hS 17 2 rfl
        simp only [putFrom, Act.put, List.setIfInBounds_toArray, List.set_cons_succ, List.set_cons_zero, Nat.reduceAdd]
        rw [e17]
        clear hS e17
        generalize vs 0 = z0
        generalize vs 1 = z1
        generalize vs 2 = z2
        generalize vs 3 = z3
        generalize vs 4 = z4
        generalize vs 5 = z5
        generalize vs 6 = z6
        generalize vs 7 = z7
        generalize vs 8 = z8
        generalize vs 9 = z9
        generalize vs 10 = z10
        generalize vs 11 = z11
        generalize vs 12 = z12
        generalize vs 13 = z13
        generalize vs 14 = z14
        generalize vs 15 = z15
        generalize vs 16 = z16
        have HF2 := show Hid (Below w.heap.size w u) from HF.out u hbu
        clear hbu HF
        go_wp2_with fail
        go_ret
        exact ⟨rfl, HF2.out⟩
    | ok ps =>
      rw [hq] at h4
      obtain ⟨⟨v4, rfl, h4⟩, hb4⟩ := h4
      obtain ⟨y4, c4, rfl⟩ := h4.shape
      have hbk := splitL_back _ _ _ (Nat.le_of_eq HN.out.2.2) hq
      have hpl : (putL ps).length = s.size := by rw [hbk.1]; exact HN.out.2.2
      have hP2 := xPut_any y4 c4 ps w4 h4 hbk.2 (by have := putL_len ps; omega) (by omega)
      rw [hbk.1] at hP2
      have HB4 := show Hid (Below w.heap.size w w4 ∧ IsBytes w4 (.slice y3 nn c3) S1) from ⟨bl2 HB3.out.1 hb4, HB3.out.2.later hb4⟩
      clear h4 hb4 hbk hpl hq HB3
      go_wp2_with fail
      refine hP2.mono ?_
      rintro e w5 ⟨⟨v5, rfl, h5⟩, hb5⟩
      clear hP2
      obtain ⟨y5, c5, rfl⟩ := own_shape h5
      have h5i := OwnL.is h5
      have es : (⟨s.data.toList.toArray⟩ : ByteArray) = s := by simp
      rw [es] at h5i
      rw [HN.out.2.2] at h5i ⊢
      have hb15 := bl2 HB4.out.1 hb5
      have h3w := HB4.out.2.later hb5
      have hcv1 := IsBytes.convert h5i
      have hcv2 := IsBytes.convert (HU.out w5 hb15)
      have tS2 : (s.toList == s.toList) = true := by simp
      have HF := show Hid (∀ u, Below w5.drew.heap.size w5.drew u → Below w.heap.size w u) from fun u hu => below_drew hb15 hu
      have HU2 := show Hid (∀ u, Below w5.drew.heap.size w5.drew u → IsBytes u (.slice x nn cx) S1 ∧ IsBytes u (.slice y3 nn c3) S1) from fun u hu => ⟨HX.out u (below_drew hb15 hu), h3w.later (below_drew (Below.refl _ _) hu)⟩
      have tS : (S1.toList == S1.toList) = true := by simp
      clear hb5 hb15 h3w h5 h5i es HU HX HB4 HN
      go_wp2_with fail
      refine free_walk (Sem := semLxO x y3 cx c3 nn s S1) rfl (n := 80) (by kernel_rfl) rfl (by kernel_rfl) ?_ ?_ ?_
      · intro ix v u u' h hb
        match ix, h with
        | 0, h => exact h
        | 1, h => exact h
        | 2, h => exact h
        | 3, h => exact h
        | 4, h => exact h
        | 5, h => exact h
        | 6, h => exact h
        | 7, h => exact h
        | 8, h => exact h
        | 9, h => exact h
        | 10, h => exact h
        | 11, h => exact h
        | 12, h => exact h
        | 13, h => exact h
        | 14, h => exact h
        | 15, h => exact h
        | 16, h => exact h
        | 17, h => exact h
        | _ + 18, _ => exact trivial
      · intro ix o a u ho hF hbu
        match ix, ho, hF with
        | 0, ho, hF =>
          obtain rfl := Option.some.inj ho
          have h7 : a.tmps[7]? = some (.int .i64 0) := (hF.out 7 rfl).trans rfl
          refine free_step rfl (by rfl) (fun K' hK => ?_)
          go_simp
          exact hK.out _ _ rfl (Below.refl _ _)
        | 1, ho, hF =>
          obtain rfl := Option.some.inj ho
          obtain ⟨v63, h63, s63⟩ := hF.dep 0 63 rfl rfl
          obtain rfl : v63 = .int .i64 0 := s63
          refine free_step rfl (by rfl) (fun K' hK => ?_)
          go_simp
          exact hK.out _ _ rfl (Below.refl _ _)
        | 2, ho, hF =>
          obtain rfl := Option.some.inj ho
          obtain ⟨v64, h64, s64⟩ := hF.dep 1 64 rfl rfl
          obtain rfl : v64 = .bool true := s64
          refine free_step rfl (by rfl) (fun K' hK => ?_)
          go_simp
          exact hK.out _ _ rfl (Below.refl _ _)
        | 3, ho, hF =>
          obtain rfl := Option.some.inj ho
          have h4 : a.tmps[4]? = some (.int .i64 (nn : Int)) := (hF.out 4 rfl).trans rfl
          obtain ⟨v65, h65, s65⟩ := hF.dep 2 65 rfl rfl
          obtain rfl : v65 = .bool true := s65
          refine free_step rfl (by show (yielded _ a.tmps 2 == some true) = true; unfold yielded; simp [h65]) (fun K' hK => ?_)
          go_simp
          exact hK.out _ _ rfl (Below.refl _ _)
        | 4, ho, hF =>
          obtain rfl := Option.some.inj ho
          have h0 : a.tmps[0]? = some (.slice x s.size cx) := (hF.out 0 rfl).trans rfl
          obtain ⟨v65, h65, s65⟩ := hF.dep 2 65 rfl rfl
          obtain rfl : v65 = .bool true := s65
          refine free_step rfl (by show (yielded _ a.tmps 2 == some true) = true; unfold yielded; simp [h65]) (fun K' hK => ?_)
          go_simp
          exact hK.out _ _ rfl (Below.refl _ _)
        | 5, ho, hF =>
          obtain rfl := Option.some.inj ho
          obtain ⟨v67, h67, s67⟩ := hF.dep 4 67 rfl rfl
          obtain rfl : v67 = .slice x s.size cx := s67
          obtain ⟨v65, h65, s65⟩ := hF.dep 2 65 rfl rfl
          obtain rfl : v65 = .bool true := s65
          refine free_step rfl (by show (yielded _ a.tmps 2 == some true) = true; unfold yielded; simp [h65]) (fun K' hK => ?_)
          go_simp
          exact hK.out _ _ rfl (Below.refl _ _)
        | 6, ho, hF =>
          obtain rfl := Option.some.inj ho
          obtain ⟨v66, h66, s66⟩ := hF.dep 3 66 rfl rfl
          obtain rfl : v66 = .int .i64 (nn : Int) := s66
          obtain ⟨v68, h68, s68⟩ := hF.dep 5 68 rfl rfl
          obtain rfl : v68 = .int .i64 (s.size : Int) := s68
          obtain ⟨v65, h65, s65⟩ := hF.dep 2 65 rfl rfl
          obtain rfl : v65 = .bool true := s65
          refine free_step rfl (by show (yielded _ a.tmps 2 == some true) = true; unfold yielded; simp [h65]) (fun K' hK => ?_)
          go_simp
          exact hK.out _ _ rfl (Below.refl _ _)
        | 7, ho, hF =>
          obtain rfl := Option.some.inj ho
          obtain ⟨v65, h65, s65⟩ := hF.dep 2 65 rfl rfl
          obtain rfl : v65 = .bool true := s65
          obtain ⟨v69, h69, s69⟩ := hF.dep 6 69 rfl rfl
          obtain rfl : v69 = .bool true := s69
          refine free_step rfl (by rfl) (fun K' hK => ?_)
          go_simp
          exact hK.out _ _ rfl (Below.refl _ _)
        | 8, ho, hF =>
          obtain rfl := Option.some.inj ho
          obtain ⟨v70, h70, s70⟩ := hF.dep 7 70 rfl rfl
          obtain rfl : v70 = .bool true := s70
          refine free_step rfl (by rfl) (fun K' hK => ?_)
          go_simp
          exact hK.out _ _ rfl (Below.refl _ _)
        | 9, ho, hF =>
          obtain rfl := Option.some.inj ho
          have h6 : a.tmps[6]? = some (.slice y3 nn c3) := (hF.out 6 rfl).trans rfl
          obtain ⟨v71, h71, s71⟩ := hF.dep 8 71 rfl rfl
          obtain rfl : v71 = .bool true := s71
          refine free_step rfl (by show (yielded _ a.tmps 8 == some true) = true; unfold yielded; simp [h71]) (fun K' hK => ?_)
          go_simp
          exact hK.out _ _ rfl (Below.refl _ _)
        | 10, ho, hF =>
          obtain rfl := Option.some.inj ho
          obtain ⟨v72, h72, s72⟩ := hF.dep 9 72 rfl rfl
          obtain rfl : v72 = .slice y3 nn c3 := s72
          obtain ⟨v71, h71, s71⟩ := hF.dep 8 71 rfl rfl
          obtain rfl : v71 = .bool true := s71
          have hcv := IsBytes.convert (HU2.out u hbu).2
          refine free_step rfl (by show (yielded _ a.tmps 8 == some true) = true; unfold yielded; simp [h71]) (fun K' hK => ?_)
          go_simp
          exact hK.out _ _ rfl (Below.refl _ _)
        | 11, ho, hF =>
          obtain rfl := Option.some.inj ho
          have h0 : a.tmps[0]? = some (.slice x s.size cx) := (hF.out 0 rfl).trans rfl
          obtain ⟨v71, h71, s71⟩ := hF.dep 8 71 rfl rfl
          obtain rfl : v71 = .bool true := s71
          refine free_step rfl (by show (yielded _ a.tmps 8 == some true) = true; unfold yielded; simp [h71]) (fun K' hK => ?_)
          go_simp
          exact hK.out _ _ rfl (Below.refl _ _)
        | 12, ho, hF =>
          obtain rfl := Option.some.inj ho
          have h4 : a.tmps[4]? = some (.int .i64 (nn : Int)) := (hF.out 4 rfl).trans rfl
          obtain ⟨v71, h71, s71⟩ := hF.dep 8 71 rfl rfl
          obtain rfl : v71 = .bool true := s71
          refine free_step rfl (by show (yielded _ a.tmps 8 == some true) = true; unfold yielded; simp [h71]) (fun K' hK => ?_)
          go_simp
          exact hK.out _ _ rfl (Below.refl _ _)
        | 13, ho, hF =>
          obtain rfl := Option.some.inj ho
          obtain ⟨v74, h74, s74⟩ := hF.dep 11 74 rfl rfl
          obtain rfl : v74 = .slice x s.size cx := s74
          obtain ⟨v75, h75, s75⟩ := hF.dep 12 75 rfl rfl
          obtain rfl : v75 = .int .i64 (nn : Int) := s75
          obtain ⟨v71, h71, s71⟩ := hF.dep 8 71 rfl rfl
          obtain rfl : v71 = .bool true := s71
          refine free_step rfl (by show (yielded _ a.tmps 8 == some true) = true; unfold yielded; simp [h71]) (fun K' hK => ?_)
          go_simp
          exact hK.out _ _ rfl (Below.refl _ _)
        | 14, ho, hF =>
          obtain rfl := Option.some.inj ho
          obtain ⟨v76, h76, s76⟩ := hF.dep 13 76 rfl rfl
          obtain rfl : v76 = .slice x nn cx := s76
          obtain ⟨v71, h71, s71⟩ := hF.dep 8 71 rfl rfl
          obtain rfl : v71 = .bool true := s71
          have hcv := IsBytes.convert (HU2.out u hbu).1
          refine free_step rfl (by show (yielded _ a.tmps 8 == some true) = true; unfold yielded; simp [h71]) (fun K' hK => ?_)
          go_simp
          exact hK.out _ _ rfl (Below.refl _ _)
        | 15, ho, hF =>
          obtain rfl := Option.some.inj ho
          obtain ⟨v73, h73, s73⟩ := hF.dep 10 73 rfl rfl
          obtain rfl : v73 = .string S1 := s73
          obtain ⟨v77, h77, s77⟩ := hF.dep 14 77 rfl rfl
          obtain rfl : v77 = .string S1 := s77
          obtain ⟨v71, h71, s71⟩ := hF.dep 8 71 rfl rfl
          obtain rfl : v71 = .bool true := s71
          refine free_step rfl (by show (yielded _ a.tmps 8 == some true) = true; unfold yielded; simp [h71]) (fun K' hK => ?_)
          go_simp
          exact hK.out _ _ rfl (Below.refl _ _)
        | 16, ho, hF =>
          obtain rfl := Option.some.inj ho
          obtain ⟨v71, h71, s71⟩ := hF.dep 8 71 rfl rfl
          obtain rfl : v71 = .bool true := s71
          obtain ⟨v78, h78, s78⟩ := hF.dep 15 78 rfl rfl
          obtain rfl : v78 = .bool true := s78
          refine free_step rfl (by rfl) (fun K' hK => ?_)
          go_simp
          exact hK.out _ _ rfl (Below.refl _ _)
        | 17, ho, hF =>
          obtain rfl := Option.some.inj ho
          obtain ⟨v79, h79, s79⟩ := hF.dep 16 79 rfl rfl
          obtain rfl : v79 = .bool true := s79
          refine free_step rfl (by rfl) (fun K' hK => ?_)
          go_simp
          exact hK.out _ _ rfl (Below.refl _ _)
        | n + 18, ho, _ => exact absurd (Array.getElem?_eq_some_iff.1 ho).1 (by show ¬ n + 18 < 18; omega)
      · intro vs u hS hbu
        have e17 : vs 17 = .bool true := hS 17 2 rfl
        simp only [putFrom, Act.put, List.setIfInBounds_toArray, List.set_cons_succ, List.set_cons_zero, Nat.reduceAdd]
        rw [e17]
        clear hS e17
        generalize vs 0 = z0
        generalize vs 1 = z1
        generalize vs 2 = z2
        generalize vs 3 = z3
        generalize vs 4 = z4
        generalize vs 5 = z5
        generalize vs 6 = z6
        generalize vs 7 = z7
        generalize vs 8 = z8
        generalize vs 9 = z9
        generalize vs 10 = z10
        generalize vs 11 = z11
        generalize vs 12 = z12
        generalize vs 13 = z13
        generalize vs 14 = z14
        generalize vs 15 = z15
        generalize vs 16 = z16
        have HF2 := show Hid (Below w.heap.size w u) from HF.out u hbu
        clear hbu HF
        go_wp2_with fail
        go_ret
        exact ⟨rfl, HF2.out⟩
end Go.Proofs.Ythdoginhbhdmbaa
