/-
  rsa.Seal: the sealed form of bytes.
  Package rsa: lessOne, leastCommon, rest.
  Package rsa: rest (of at most 512 bytes).
-/
import Derived.Test.YtpcmpeeflnlkpaaGreatDoorKSumEtc
import Derived.Lib.AppendStr
import Derived.Test.YtpcmpeeflnlkpaaGreatDoorNInvEtc
namespace Go.Proofs.YtpcmpeeflnlkpaaGreatDoor
open Go.RowKit Ch
set_option maxRecDepth 100000

/-- append of a constant string onto a row of the call's own. -/
theorem wpList_append_s {w : World} {ops : Array Oper} {rest : List Oper} {o : Oper} {ac : Act} {Q : Exit → Act → World → Prop} (hgd : o.guard = none) (so x : Operand)
    (ho : o.op = .call { callee := .builtin .append, args := #[so, x], argTypes := #[22, 9] })
    (base : Nat) (v : Value) (l : List UInt8) (hs : ac.eval so = v) (hown : OwnL base w v l)
    (t : ByteArray) (hx : ac.eval x = .string t) (hsz : l.length + t.size ≤ 1000000) (hbase : base ≤ w.heap.size)
    (h : ∀ v' w', OwnL base w' v' (l ++ t.data.toList) → Below base w w' → wpList Tryz.prog ops Q rest (ac.put o.dst v') w') : wpList Tryz.prog ops Q (o :: rest) ac w := by
  obtain ⟨i0, hi, hz0, hz1, hz2⟩ := info5
  refine Lib.wpList_append_own_string w hgd so x 22 9 ho base 5 i0 Tryz.underlying22 Tryz.underlying9 hi hz0 hz1 hz2 v l.length _ hs hown t hx (by unfold maxLen; omega) (by omega) hbase ?_
  intro v' w' ho' hg _
  refine h v' w' ?_ ((Below.refl _ w).grown hg hbase (own_ge hown))
  have e1 : (l ++ t.data.toList).length = l.length + t.size := by rw [List.length_append, len_eq]
  have e2 : Lib.byteCells (l ++ t.data.toList) = Lib.byteCells l ++ Lib.strCells t := by simp [Lib.byteCells, Lib.strCells]
  unfold OwnL
  rw [e1, e2]
  exact ho'
def algL : List UInt8 := [48, 49, 48, 13, 6, 9, 96, 134, 72, 1, 101, 3, 4, 2, 1, 5, 0, 4, 32]
/-- The sealed form of bytes in n bytes. -/
def sealL (b : List UInt8) (n : Nat) : List UInt8 := [0, 1] ++ List.replicate (n - 54) 255 ++ (0 :: algL) ++ shaL b
theorem sealL_length (b : List UInt8) {n : Nat} (h : 54 ≤ n) : (sealL b n).length = n := by
  unfold sealL algL
  simp only [List.length_append, List.length_cons, List.length_nil, List.length_replicate, shaL_length]
  omega
theorem own20 {base : Nat} {w : World} {v : Value} (h : OwnL base w v ([0] ++ algL)) : ∃ y c, v = .slice y 20 c := isb_shape h.is
set_option maxHeartbeats 8000000 in
theorem qSeal_any (v : Value) (b : List UInt8) (n : Nat) (w : World) (h : IsBytes w v ⟨b.toArray⟩) (hK : KTab w) (hl : b.length ≤ 900000) (h1 : 62 ≤ n) (h2 : n ≤ 512) :
    Calls Tryz.prog 16 #[v, .int .i64 (n : Int)] w fun e w' => (∃ x, e = .returned (.tuple #[x, .int .i64 0]) ∧ IsBytes w' x ⟨(sealL b n).toArray⟩) ∧ Below w.heap.size w w' := by
  obtain ⟨y, k, c, rfl⟩ := isb_open h
  have hFt := rFits_any n w (by omega)
  rw [decide_eq_true ⟨h1, h2⟩] at hFt
  obtain ⟨W1, hW1⟩ : ∃ W, w.alloc (.cells #[.int .u8 0, .int .u8 1] 5) = W := ⟨_, rfl⟩
  have b1 : Below w.heap.size w W1 := by rw [← hW1]; exact alB _ _
  have i1 : IsBytes W1 (.slice (some ⟨w.heap.size, 0, none⟩) 2 2) ⟨([0, 1] : List UInt8).toArray⟩ := by rw [← hW1]; exact litM w ⟨#[0, 1]⟩ _ _ rfl (show (2 : Nat) ≤ maxLen by unfold maxLen; decide)
  obtain ⟨W2, hW2⟩ : ∃ W, W1.alloc (.cells #[.slice y k c] 22) = W := ⟨_, rfl⟩
  have b2 : Below W1.heap.size W1 W2 := by rw [← hW2]; exact alB _ _
  have s2 : IsSl W2 (.slice (some ⟨W1.heap.size, 0, none⟩) 1 1) [⟨b.toArray⟩] := by rw [← hW2]; exact IsSl.one (h.later b1)
  have hSum := kSum_any (.slice (some ⟨W1.heap.size, 0, none⟩) 1 1) [⟨b.toArray⟩] W2 s2 (hK.later (bl2 b1 b2)) (by simp [flatB]; omega) (by simp)
  have hfl : flatB [⟨b.toArray⟩] = b := by simp [flatB]
  rw [hfl] at hSum
  have hs32 := shaL_length b
  have HG := show Hid (IsBytes W2 (.slice (some ⟨w.heap.size, 0, none⟩) 2 2) ⟨([0, 1] : List UInt8).toArray⟩ ∧ Below w.heap.size w W2) from ⟨i1.later b2, bl2 b1 b2⟩
  obtain ⟨m, hm⟩ : ∃ m, n - 54 = m := ⟨_, rfl⟩
  have HSL := show Hid (sealL b n = [0, 1] ++ List.replicate m 255 ++ (0 :: algL) ++ shaL b) from by unfold Hid sealL; rw [hm]
  generalize sealL b n = ZL at *
  have hm1 : 1 ≤ m := by omega
  have hm2 : m ≤ 8192 := by omega
  have p1 : IntKind.i64.wrap ((n : Int) - 2) = ((n - 2 : Nat) : Int) := by rw [IntKind.wrap_i64]; omega
  have p2 : IntKind.i64.wrap (((n - 2 : Nat) : Int) - 20) = ((n - 22 : Nat) : Int) := by rw [IntKind.wrap_i64]; omega
  have p3 : IntKind.i64.wrap (((n - 22 : Nat) : Int) - 32) = (m : Int) := by rw [IntKind.wrap_i64]; omega
  generalize shaL b = SH at *
  obtain ⟨n2, hn2⟩ : ∃ n2, n - 2 = n2 := ⟨_, rfl⟩
  obtain ⟨n22, hn22⟩ : ∃ n22, n - 22 = n22 := ⟨_, rfl⟩
  rw [hn2] at p1 p2
  rw [hn22] at p2 p3
  clear hn2 hn22 hm h b1 hfl i1 b2 s2 hK
  go_enter Tryz.func16, Tryz.ntmps16
  go_wp2_with fail
  refine hFt.mono ?_
  rintro e w0 ⟨rfl, rfl⟩
  clear hFt
  go_wp2_with fail
  refine hSum.mono ?_
  rintro e w3 ⟨⟨B, rfl, _, hIB⟩, hb3⟩
  clear hSum
  obtain ⟨W4, hW4⟩ : ∃ W, w3.alloc (.cells #[.int .u8 0] 5) = W := ⟨_, rfl⟩
  have b4 : Below w3.heap.size w3 W4 := by rw [← hW4]; exact alB _ _
  have o4 : OwnL w3.heap.size W4 (.slice (some ⟨w3.heap.size, 0, none⟩) 1 1) [0] := by rw [← hW4]; exact ownL_one w3 0
  have HG3 := show Hid (IsBytes w3 (.slice (some ⟨w0.heap.size, 0, none⟩) 2 2) ⟨([0, 1] : List UInt8).toArray⟩ ∧ IsBytes w3 (.slice (some ⟨B, 0, none⟩) 32 32) ⟨SH.toArray⟩ ∧ Below w0.heap.size w0 w3) from ⟨HG.out.1.later hb3, hIB, bl2 HG.out.2 hb3⟩
  clear HG hIB hb3
  go_wp2_with (at_builtin; go_must (refine wpList_append_s rfl _ _ rfl w3.heap.size (.slice (some ⟨w3.heap.size, 0, none⟩) 1 1) [0] rfl o4 ⟨#[48, 49, 48, 13, 6, 9, 96, 134, 72, 1, 101, 3, 4, 2, 1, 5, 0, 4, 32]⟩ rfl (by decide) b4.size ?_; intro v5 w5 ho5 hb5; obtain ⟨y5, c5, rfl⟩ := own20 ho5))
  have HG5 := show Hid (IsBytes w5 (.slice (some ⟨w0.heap.size, 0, none⟩) 2 2) ⟨([0, 1] : List UInt8).toArray⟩ ∧ IsBytes w5 (.slice (some ⟨B, 0, none⟩) 32 32) ⟨SH.toArray⟩ ∧ IsBytes w5 (.slice y5 20 c5) ⟨(0 :: algL).toArray⟩ ∧ Below w0.heap.size w0 w5) from by
    have hbb := b4.trans hb5
    exact ⟨HG3.out.1.later hbb, HG3.out.2.1.later hbb, ho5.is, bl2 HG3.out.2.2 hbb⟩
  have b6 := alB w5 (.cells #[.int .u8 255] 5)
  have i6 : IsBytes (w5.alloc (.cells #[.int .u8 255] 5)) (.slice (some ⟨w5.heap.size, 0, none⟩) 1 1) ⟨([255] : List UInt8).toArray⟩ := litM w5 ⟨#[255]⟩ _ _ rfl (show (1 : Nat) ≤ maxLen by unfold maxLen; decide)
  refine (sRepeat_ff m (.slice (some ⟨w5.heap.size, 0, none⟩) 1 1) (w5.alloc (.cells #[.int .u8 255] 5)) i6 hm1 hm2).mono ?_
  rintro e w7 ⟨⟨x7, rfl, i7⟩, b7⟩
  have hb7 := bl2 b6 b7
  obtain ⟨y7, c7, rfl⟩ := isb_shape i7
  obtain ⟨W8, hW8⟩ : ∃ W, w7.alloc (.cells #[.slice (some ⟨w0.heap.size, 0, none⟩) 2 2, .slice y7 (List.replicate m (255 : UInt8)).length c7, .slice y5 20 c5, .slice (some ⟨B, 0, none⟩) 32 32] 22) = W := ⟨_, rfl⟩
  have b8 : Below w7.heap.size w7 W8 := by rw [← hW8]; exact alB _ _
  have s8 : IsSl W8 (.slice (some ⟨w7.heap.size, 0, none⟩) 4 4) [⟨([0, 1] : List UInt8).toArray⟩, ⟨(List.replicate m (255 : UInt8)).toArray⟩, ⟨(0 :: algL).toArray⟩, ⟨SH.toArray⟩] := by
    rw [← hW8]
    exact isSl_lit w7 [(.slice (some ⟨w0.heap.size, 0, none⟩) 2 2, ⟨([0, 1] : List UInt8).toArray⟩), (.slice y7 (List.replicate m (255 : UInt8)).length c7, ⟨(List.replicate m (255 : UInt8)).toArray⟩), (.slice y5 20 c5, ⟨(0 :: algL).toArray⟩), (.slice (some ⟨B, 0, none⟩) 32 32, ⟨SH.toArray⟩)] (allc (HG5.out.1.later hb7) (allc i7 (allc (HG5.out.2.2.1.later hb7) (allc (HG5.out.2.1.later hb7) alln)))) _ rfl 4 rfl
  have hFL : flatL [⟨([0, 1] : List UInt8).toArray⟩, ⟨(List.replicate m (255 : UInt8)).toArray⟩, ⟨(0 :: algL).toArray⟩, ⟨SH.toArray⟩] = ZL := by
    rw [HSL.out]
    simp [flatL]
  have hCc := sConcat_any (some ⟨w7.heap.size, 0, none⟩) 4 4 _ W8 s8 rfl (by rw [hFL, HSL.out]; simp only [List.length_append, List.length_cons, List.length_nil, List.length_replicate, algL]; omega) (by omega)
  rw [hFL] at hCc
  have HB8 := show Hid (Below w0.heap.size w0 W8) from bl2 (bl2 HG5.out.2.2.2 hb7) b8
  have hrl : (List.replicate m (255 : UInt8)).length = m := List.length_replicate
  rw [hrl] at hW8 ⊢
  clear i6 b6 b7 hb7 i7 b8 s8 hFL ho5 hb5 HG3 HG5 o4 b4 hrl
  go_wp2_with fail
  refine hCc.mono ?_
  rintro e w9 ⟨⟨v9, rfl, o9⟩, b9⟩
  have HF := show Hid (IsBytes w9 v9 ⟨ZL.toArray⟩ ∧ Below w0.heap.size w0 w9) from ⟨o9.is, bl2 HB8.out b9⟩
  clear o9 b9 hCc
  go_wp2_with fail
  go_ret2
  exact ⟨⟨_, rfl, HF.out.1⟩, HF.out.2⟩
theorem qSeal_none (v : Value) (n : Nat) (w : World) (hn : n ≤ 1000000) (h : ¬ (62 ≤ n ∧ n ≤ 512)) :
    Calls Tryz.prog 16 #[v, .int .i64 (n : Int)] w fun e w' => e = .returned (.tuple #[.slice none 0 0, .int .i64 21]) ∧ w' = w := by
  have hFt := rFits_any n w hn
  rw [decide_eq_false h] at hFt
  go_enter Tryz.func16, Tryz.ntmps16
  go_wp2_with fail
  refine hFt.mono ?_
  rintro e w0 ⟨rfl, rfl⟩
  clear hFt
  go_wp2_with fail
  go_ret2
  exact ⟨rfl, rfl⟩
end Go.Proofs.YtpcmpeeflnlkpaaGreatDoor

namespace Go.Proofs.YtpcmpeeflnlkpaaGreatDoor
open Go.RowKit Ch
set_option maxRecDepth 100000

theorem one_byte (w : World) : IsNb 1 (w.alloc (.cells #[.int .u8 1] 5)) (.slice (some ⟨w.heap.size, 0, none⟩) 1 1) 1 := by
  refine ⟨[1], ?_, rfl, rfl, Nat.le_refl _⟩
  refine ⟨some ⟨w.heap.size, 0, none⟩, 1, rfl, Nat.le_refl _, by unfold maxLen; decide, .inr ⟨_, rfl, .inr ⟨w.heap.size, 0, rfl, by simp, ?_⟩⟩⟩
  intro i hi
  have hi' : 0 + i < 1 := hi
  obtain rfl : i = 0 := by omega
  exact block_cell 0 (heap_push_at w _) rfl
set_option maxHeartbeats 4000000 in
theorem qLessOne_any {n N : Nat} (v : Value) (w : World) (h : IsNb n w v N) (hn : n ≤ 1024) (h0 : 1 ≤ N) : Calls Tryz.prog 45 #[v] w fun e w' => (∃ x, e = .returned x ∧ IsNb n w' x (N - 1)) ∧ Below w.heap.size w w' := by
  obtain ⟨y, k, c, rfl⟩ := h.open
  obtain ⟨W1, hW1⟩ : ∃ W, w.alloc (.cells #[.int .u8 1] 5) = W := ⟨_, rfl⟩
  have b1 : Below w.heap.size w W1 := by rw [← hW1]; exact alB _ _
  have i1 : IsNb 1 W1 (.slice (some ⟨w.heap.size, 0, none⟩) 1 1) 1 := by rw [← hW1]; exact one_byte w
  have hS := nSubV (.slice y k c) (.slice (some ⟨w.heap.size, 0, none⟩) 1 1) W1 (h.later b1) i1 hn (by decide) h0
  have HB := show Hid (Below w.heap.size w W1) from b1
  clear b1 i1 h h0
  go_enter Tryz.func45, Tryz.ntmps45
  go_wp2_with fail
  refine hS.mono ?_
  rintro e w2 ⟨⟨x, rfl, i2⟩, b2⟩
  have HF := show Hid (IsNb n w2 x (N - 1) ∧ Below w.heap.size w w2) from ⟨i2, bl2 HB.out b2⟩
  clear hS i2 b2 hW1
  go_wp2_with fail
  go_ret
  exact ⟨⟨_, rfl, HF.out.1⟩, HF.out.2⟩
/-- The least number that both divide. -/
def lcmN (A B : Nat) : Nat := A / Nat.gcd A B * B
set_option maxHeartbeats 4000000 in
theorem qLeast_any {n m A B : Nat} (v u : Value) (w : World) (h1 : IsNb n w v A) (h2 : IsNb m w u B) (hn : n ≤ 1024) (hm : m ≤ 1024) (hA : 0 < A) : Calls Tryz.prog 44 #[v, u] w fun e w' => (∃ x, e = .returned x ∧ IsNb (n + m) w' x (lcmN A B)) ∧ Below w.heap.size w w' := by
  obtain ⟨y, k, c, rfl⟩ := h1.open
  obtain ⟨y2, k2, c2, rfl⟩ := h2.open
  have hG := nGcdV _ _ w h1 h2 hn hm hA
  have H := show Hid (IsNb n w (.slice y k c) A ∧ IsNb m w (.slice y2 k2 c2) B ∧ 0 < Nat.gcd A B) from ⟨h1, h2, Nat.gcd_pos_of_pos_left B hA⟩
  clear h1 h2 hA
  go_enter Tryz.func44, Tryz.ntmps44
  go_wp2_with fail
  refine hG.mono ?_
  rintro e w1 ⟨⟨x1, rfl, i1⟩, b1⟩
  obtain ⟨y3, k3, c3, rfl⟩ := i1.open
  have hD := nDivV (.slice y k c) (.slice y3 k3 c3) w1 (H.out.1.later b1) i1 hn hn H.out.2.2
  have H1 := show Hid (IsNb m w1 (.slice y2 k2 c2) B ∧ Below w.heap.size w w1) from ⟨H.out.2.1.later b1, b1⟩
  clear hG i1 b1
  go_wp2_with fail
  refine hD.mono ?_
  rintro e w2 ⟨⟨x2, x3, rfl, i2, i3⟩, b2⟩
  obtain ⟨y4, k4, c4, rfl⟩ := i2.open
  obtain ⟨y5, k5, c5, rfl⟩ := i3.open
  have hM := nMulV (.slice y4 k4 c4) (.slice y2 k2 c2) w2 i2 (H1.out.1.later b2) hn hm
  have H2 := show Hid (Below w.heap.size w w2) from bl2 H1.out.2 b2
  clear hD i2 i3 b2 H1
  go_wp2_with fail
  refine hM.mono ?_
  rintro e w3 ⟨⟨x4, rfl, i4⟩, b4⟩
  have HF := show Hid (IsNb (n + m) w3 x4 (lcmN A B) ∧ Below w.heap.size w w3) from ⟨i4, bl2 H2.out b4⟩
  clear hM i4 b4 H2
  go_wp2_with fail
  go_ret
  exact ⟨⟨_, rfl, HF.out.1⟩, HF.out.2⟩
end Go.Proofs.YtpcmpeeflnlkpaaGreatDoor

namespace Go.Proofs.YtpcmpeeflnlkpaaGreatDoor
open Go.RowKit Ch
set_option maxRecDepth 100000

theorem isb_le {w : World} {x : Option Addr} {n c : Nat} {s : ByteArray} (h : IsBytes w (.slice x n c) s) : n ≤ c := by
  obtain ⟨a, cap, hv, h2, _⟩ := h
  simp only [Value.slice.injEq] at hv
  omega
theorem nb_nil (w : World) : IsNb 0 w (.slice none 0 0) 0 := ⟨[], ⟨none, 0, rfl, Nat.le_refl _, by unfold maxLen; decide, .inl ⟨rfl, rfl, rfl⟩⟩, rfl, rfl, Nat.le_refl _⟩
def sliceLen : Value → Nat
  | .slice _ k _ => k
  | _ => 0
set_option maxHeartbeats 4000000 in
theorem qRest_any {m M : Nat} (E : List UInt8) (v u : Value) (w : World) (h1 : IsBytes w v ⟨E.toArray⟩) (hb : bareL E = E) (hE : E.length ≤ 512) (h2 : IsNb m w u M) (hm : m ≤ 1024) (hM : 0 < M) : Calls Tryz.prog 47 #[v, u] w fun e w' => (∃ x, e = .returned x ∧ IsNb m w' x (numB E % M)) ∧ Below w.heap.size w w' := by
  obtain ⟨y, c, rfl⟩ := isb_shape h1
  obtain ⟨y2, k2, c2, rfl⟩ := h2.open
  obtain ⟨n, hn⟩ : ∃ n, E.length = n := ⟨_, rfl⟩
  have hnc := isb_le h1
  have H := show Hid (IsBytes w (.slice y n c) ⟨E.toArray⟩ ∧ IsNb m w (.slice y2 k2 c2) M ∧ 0 < M ∧ bareL E = E ∧ E.length = n ∧ (n = 0 → numB E % M = 0) ∧ m ≤ 1024) from ⟨hn ▸ h1, h2, hM, hb, hn, fun h0 => by
    rw [List.eq_nil_of_length_eq_zero (hn.trans h0)]
    exact Nat.zero_mod M, hm⟩
  rw [hn] at hE hnc ⊢
  clear h1 h2 hM hb hn hm
  go_enter Tryz.func47, Tryz.ntmps47
  go_wp2_with fail
  go_loopw [0, 5] (fun a r wr => (a = .slice y n c ∧ r = .slice none 0 0 ∧ Hid (wr = w)) ∨ (∃ y c, a = .slice y 0 c) ∧ Hid (IsNb m wr r (numB E % M) ∧ Below w.heap.size w wr)) (fun a _ _ => sliceLen a)
  case atStart => exact .inl ⟨rfl, rfl, rfl⟩
  case round =>
    rcases hrel with ⟨rfl, rfl, hw⟩ | ⟨⟨y9, c9, rfl⟩, hr⟩
    · have hww := hw.out
      clear hw
      subst hww
      by_cases h0 : n = 0
      · subst h0
        have HF := show Hid (IsNb m wr (.slice none 0 0) (numB E % M)) from by
          unfold Hid
          rw [H.out.2.2.2.2.2.1 rfl]
          exact (nb_nil wr).more (Nat.zero_le _)
        go_wp2_with fail
        go_ret
        exact ⟨⟨_, rfl, HF.out⟩, Below.refl _ _⟩
      · have i1 : (0 : Int) < (n : Int) := by omega
        have i2 : (n : Int) ≤ 512 := by omega
        have i3 : (n : Int) ≤ (c : Int) := by omega
        have i4 : (0 : Int) ≤ (n : Int) := by omega
        have hz : (⟨E.toArray⟩ : ByteArray).size = n := by rw [size_of_list, H.out.2.2.2.2.1]
        obtain ⟨b, o, rfl, _, _⟩ := IsBytes.cellAt (s := ⟨E.toArray⟩) (by rw [hz]; exact H.out.1) (i := 0) (by omega)
        have key : ∀ (v4 : Value) (w4 : World), wr.heap.size ≤ w4.heap.size → Below wr.heap.size wr w4 → IsBytes w4 v4 ⟨E.toArray⟩ → Calls Tryz.prog 71 #[v4, .slice y2 k2 c2] w4 fun e w' => (∃ x y, e = .returned (.tuple #[x, y, .int .i64 0]) ∧ IsNb 512 w' x (numB E / M) ∧ IsNb m w' y (numB E % M)) ∧ Below w4.heap.size w4 w' := fun v4 w4 _ hb4 h4 =>
          nDivV v4 (.slice y2 k2 c2) w4 ⟨E, h4, H.out.2.2.2.1, rfl, by have := H.out.2.2.2.2.1; omega⟩ (H.out.2.1.later hb4) (by decide) H.out.2.2.2.2.2.2 H.out.2.2.1
        by_cases hcn : c = n
        · subst hcn
          have hmin : min (c : Int) 512 = (c : Int) := by omega
          clear i2 hz
          go_wp2_with (at_builtin; go_must (refine wpList_append_bytes rfl _ _ rfl wr.heap.size (.slice none 0 0) ByteArray.empty rfl (own_nil wr _ _) (.slice (some ⟨b, o, none⟩) c c) ⟨E.toArray⟩ rfl H.out.1 (by have h9 : (⟨E.toArray⟩ : ByteArray).size = E.length := size_of_list E; have h8 : ByteArray.empty.size = 0 := rfl; have := H.out.2.2.2.2.1; omega) (Nat.le_refl _) ?_; intro v4 w4 ho4 hb4; have i4' := own_bytes ho4; have hD := key v4 w4 hb4.size hb4 (by rw [cat_empty] at i4'; exact i4')))
          refine hD.mono ?_
          rintro e w5 ⟨⟨x5, y5, rfl, _, i5⟩, b5⟩
          have HF := show Hid (IsNb m w5 y5 (numB E % M) ∧ Below wr.heap.size wr w5) from ⟨i5, bl2 hb4 b5⟩
          clear hD ho4 hb4 i4' i5 b5 key
          go_wp2_with fail
          go_roundw
          case rel => exact .inr ⟨⟨_, _, by simp; exact ⟨rfl, rfl⟩⟩, HF.out⟩
          case measure => simp [sliceLen]; omega
        · have hcn' : ¬ (c : Int) = (n : Int) := by omega
          have hmin : min (n : Int) 512 = (n : Int) := by omega
          clear i2 hz
          go_wp2_with (at_builtin; go_must (refine wpList_append_bytes rfl _ _ rfl wr.heap.size (.slice none 0 0) ByteArray.empty rfl (own_nil wr _ _) (.slice (some ⟨b, o, none⟩) n c) ⟨E.toArray⟩ rfl H.out.1 (by have h9 : (⟨E.toArray⟩ : ByteArray).size = E.length := size_of_list E; have h8 : ByteArray.empty.size = 0 := rfl; have := H.out.2.2.2.2.1; omega) (Nat.le_refl _) ?_; intro v4 w4 ho4 hb4; have i4' := own_bytes ho4; have hD := key v4 w4 hb4.size hb4 (by rw [cat_empty] at i4'; exact i4')))
          refine hD.mono ?_
          rintro e w5 ⟨⟨x5, y5, rfl, _, i5⟩, b5⟩
          have HF := show Hid (IsNb m w5 y5 (numB E % M) ∧ Below wr.heap.size wr w5) from ⟨i5, bl2 hb4 b5⟩
          clear hD ho4 hb4 i4' i5 b5 key
          go_wp2_with fail
          go_roundw
          case rel => exact .inr ⟨⟨_, _, by simp; exact ⟨rfl, rfl⟩⟩, HF.out⟩
          case measure => simp [sliceLen]; omega
    · obtain ⟨r, hr6⟩ : ∃ a, a = u5 := ⟨_, rfl⟩
      subst hr6
      go_wp2_with fail
      go_ret
      exact ⟨⟨_, rfl, hr.out.1⟩, hr.out.2⟩
end Go.Proofs.YtpcmpeeflnlkpaaGreatDoor
