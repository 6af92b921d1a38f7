/-
  rsa.Seal: the sealed form of bytes.
  Package rsa: private, opens; bytes.Clone; nat.Cmp and nat.Exp by bytes.
-/
import Derived.Test.YtpcmpeeflnlkpaaDoorKSumEtc
import Derived.Test.YtpcmpeeflnlkpaaDoorQRight
import Derived.Lib.AppendStr
import Derived.Test.YtpcmpeeflnlkpaaDoorQMake
namespace Go.Proofs.YtpcmpeeflnlkpaaDoor
open Go.RowKit Ch
set_option maxRecDepth 100000

/-- append of a constant string onto a row of the call's own. -/
theorem wpList_append_s {w : World} {ops : Array Oper} {rest : List Oper} {o : Oper} {ac : Act} {Q : Exit → Act → World → Prop} (hgd : o.guard = none) (so x : Operand)
    (ho : o.op = .call { callee := .builtin .append, args := #[so, x], argTypes := #[22, 9] })
    (base : Nat) (v : Value) (l : List UInt8) (hs : ac.eval so = v) (hown : OwnL base w v l)
    (t : ByteArray) (hx : ac.eval x = .string t) (hsz : l.length + t.size ≤ 1000000) (hbase : base ≤ w.heap.size)
    (h : ∀ v' w', OwnL base w' v' (l ++ t.data.toList) → Below base w w' → wpList Tryd.prog ops Q rest (ac.put o.dst v') w') : wpList Tryd.prog ops Q (o :: rest) ac w := by
  obtain ⟨i0, hi, hz0, hz1, hz2⟩ := info5
  refine Lib.wpList_append_own_string w hgd so x 22 9 ho base 5 i0 Tryd.underlying22 Tryd.underlying9 hi hz0 hz1 hz2 v l.length _ hs hown t hx (by unfold maxLen; omega) (by omega) hbase ?_
  intro v' w' ho' hg _
  refine h v' w' ?_ ((Below.refl _ w).grown hg hbase (own_ge hown))
  have e1 : (l ++ t.data.toList).length = l.length + t.size := by rw [List.length_append, len_eq]
  have e2 : Lib.byteCells (l ++ t.data.toList) = Lib.byteCells l ++ Lib.strCells t := by simp [Lib.byteCells, Lib.strCells]
  unfold OwnL
  rw [e1, e2]
  exact ho'
def algL : List UInt8 := [48, 49, 48, 13, 6, 9, 96, 134, 72, 1, 101, 3, 4, 2, 1, 5, 0, 4, 32]
/-- The sealed form of bytes in n bytes. -/
def sealL (b : List UInt8) (n : Nat) : List UInt8 := [0, 1] ++ List.replicate (n - 54) 255 ++ (0 :: algL) ++ shaL b
theorem sealL_length (b : List UInt8) {n : Nat} (h : 54 ≤ n) : (sealL b n).length = n := by
  unfold sealL algL
  simp only [List.length_append, List.length_cons, List.length_nil, List.length_replicate, shaL_length]
  omega
theorem own20 {base : Nat} {w : World} {v : Value} (h : OwnL base w v ([0] ++ algL)) : ∃ y c, v = .slice y 20 c := isb_shape h.is
set_option maxHeartbeats 8000000 in
theorem qSeal_any (v : Value) (b : List UInt8) (n : Nat) (w : World) (h : IsBytes w v ⟨b.toArray⟩) (hK : KTab w) (hl : b.length ≤ 900000) (h1 : 62 ≤ n) (h2 : n ≤ 512) :
    Calls Tryd.prog 36 #[v, .int .i64 (n : Int)] w fun e w' => (∃ x, e = .returned (.tuple #[x, .int .i64 0]) ∧ IsBytes w' x ⟨(sealL b n).toArray⟩) ∧ Below w.heap.size w w' := by
  obtain ⟨y, k, c, rfl⟩ := isb_open h
  have hFt := rFits_any n w (by omega)
  rw [decide_eq_true ⟨h1, h2⟩] at hFt
  obtain ⟨W1, hW1⟩ : ∃ W, w.alloc (.cells #[.int .u8 0, .int .u8 1] 5) = W := ⟨_, rfl⟩
  have b1 : Below w.heap.size w W1 := by rw [← hW1]; exact alB _ _
  have i1 : IsBytes W1 (.slice (some ⟨w.heap.size, 0, none⟩) 2 2) ⟨([0, 1] : List UInt8).toArray⟩ := by rw [← hW1]; exact litM w ⟨#[0, 1]⟩ _ _ rfl (show (2 : Nat) ≤ maxLen by unfold maxLen; decide)
  obtain ⟨W2, hW2⟩ : ∃ W, W1.alloc (.cells #[.slice y k c] 22) = W := ⟨_, rfl⟩
  have b2 : Below W1.heap.size W1 W2 := by rw [← hW2]; exact alB _ _
  have s2 : IsSl W2 (.slice (some ⟨W1.heap.size, 0, none⟩) 1 1) [⟨b.toArray⟩] := by rw [← hW2]; exact IsSl.one (h.later b1)
  have hSum := kSum_any (.slice (some ⟨W1.heap.size, 0, none⟩) 1 1) [⟨b.toArray⟩] W2 s2 (hK.later (bl2 b1 b2)) (by simp [flatB]; omega) (by simp)
  have hfl : flatB [⟨b.toArray⟩] = b := by simp [flatB]
  rw [hfl] at hSum
  have hs32 := shaL_length b
  have HG := show Hid (IsBytes W2 (.slice (some ⟨w.heap.size, 0, none⟩) 2 2) ⟨([0, 1] : List UInt8).toArray⟩ ∧ Below w.heap.size w W2) from ⟨i1.later b2, bl2 b1 b2⟩
  obtain ⟨m, hm⟩ : ∃ m, n - 54 = m := ⟨_, rfl⟩
  have HSL := show Hid (sealL b n = [0, 1] ++ List.replicate m 255 ++ (0 :: algL) ++ shaL b) from by unfold Hid sealL; rw [hm]
  generalize sealL b n = ZL at *
  have hm1 : 1 ≤ m := by omega
  have hm2 : m ≤ 8192 := by omega
  have p1 : IntKind.i64.wrap ((n : Int) - 2) = ((n - 2 : Nat) : Int) := by rw [IntKind.wrap_i64]; omega
  have p2 : IntKind.i64.wrap (((n - 2 : Nat) : Int) - 20) = ((n - 22 : Nat) : Int) := by rw [IntKind.wrap_i64]; omega
  have p3 : IntKind.i64.wrap (((n - 22 : Nat) : Int) - 32) = (m : Int) := by rw [IntKind.wrap_i64]; omega
  generalize shaL b = SH at *
  obtain ⟨n2, hn2⟩ : ∃ n2, n - 2 = n2 := ⟨_, rfl⟩
  obtain ⟨n22, hn22⟩ : ∃ n22, n - 22 = n22 := ⟨_, rfl⟩
  rw [hn2] at p1 p2
  rw [hn22] at p2 p3
  clear hn2 hn22 hm h b1 hfl i1 b2 s2 hK
  go_enter Tryd.func36, Tryd.ntmps36
  go_wp2_with fail
  refine hFt.mono ?_
  rintro e w0 ⟨rfl, rfl⟩
  clear hFt
  go_wp2_with fail
  refine hSum.mono ?_
  rintro e w3 ⟨⟨B, rfl, _, hIB⟩, hb3⟩
  clear hSum
  obtain ⟨W4, hW4⟩ : ∃ W, w3.alloc (.cells #[.int .u8 0] 5) = W := ⟨_, rfl⟩
  have b4 : Below w3.heap.size w3 W4 := by rw [← hW4]; exact alB _ _
  have o4 : OwnL w3.heap.size W4 (.slice (some ⟨w3.heap.size, 0, none⟩) 1 1) [0] := by rw [← hW4]; exact ownL_one w3 0
  have HG3 := show Hid (IsBytes w3 (.slice (some ⟨w0.heap.size, 0, none⟩) 2 2) ⟨([0, 1] : List UInt8).toArray⟩ ∧ IsBytes w3 (.slice (some ⟨B, 0, none⟩) 32 32) ⟨SH.toArray⟩ ∧ Below w0.heap.size w0 w3) from ⟨HG.out.1.later hb3, hIB, bl2 HG.out.2 hb3⟩
  clear HG hIB hb3
  go_wp2_with (at_builtin; go_must (refine wpList_append_s rfl _ _ rfl w3.heap.size (.slice (some ⟨w3.heap.size, 0, none⟩) 1 1) [0] rfl o4 ⟨#[48, 49, 48, 13, 6, 9, 96, 134, 72, 1, 101, 3, 4, 2, 1, 5, 0, 4, 32]⟩ rfl (by decide) b4.size ?_; intro v5 w5 ho5 hb5; obtain ⟨y5, c5, rfl⟩ := own20 ho5))
  have HG5 := show Hid (IsBytes w5 (.slice (some ⟨w0.heap.size, 0, none⟩) 2 2) ⟨([0, 1] : List UInt8).toArray⟩ ∧ IsBytes w5 (.slice (some ⟨B, 0, none⟩) 32 32) ⟨SH.toArray⟩ ∧ IsBytes w5 (.slice y5 20 c5) ⟨(0 :: algL).toArray⟩ ∧ Below w0.heap.size w0 w5) from by
    have hbb := b4.trans hb5
    exact ⟨HG3.out.1.later hbb, HG3.out.2.1.later hbb, ho5.is, bl2 HG3.out.2.2 hbb⟩
  have b6 := alB w5 (.cells #[.int .u8 255] 5)
  have i6 : IsBytes (w5.alloc (.cells #[.int .u8 255] 5)) (.slice (some ⟨w5.heap.size, 0, none⟩) 1 1) ⟨([255] : List UInt8).toArray⟩ := litM w5 ⟨#[255]⟩ _ _ rfl (show (1 : Nat) ≤ maxLen by unfold maxLen; decide)
  refine (sRepeat_ff m (.slice (some ⟨w5.heap.size, 0, none⟩) 1 1) (w5.alloc (.cells #[.int .u8 255] 5)) i6 hm1 hm2).mono ?_
  rintro e w7 ⟨⟨x7, rfl, i7⟩, b7⟩
  have hb7 := bl2 b6 b7
  obtain ⟨y7, c7, rfl⟩ := isb_shape i7
  obtain ⟨W8, hW8⟩ : ∃ W, w7.alloc (.cells #[.slice (some ⟨w0.heap.size, 0, none⟩) 2 2, .slice y7 (List.replicate m (255 : UInt8)).length c7, .slice y5 20 c5, .slice (some ⟨B, 0, none⟩) 32 32] 22) = W := ⟨_, rfl⟩
  have b8 : Below w7.heap.size w7 W8 := by rw [← hW8]; exact alB _ _
  have s8 : IsSl W8 (.slice (some ⟨w7.heap.size, 0, none⟩) 4 4) [⟨([0, 1] : List UInt8).toArray⟩, ⟨(List.replicate m (255 : UInt8)).toArray⟩, ⟨(0 :: algL).toArray⟩, ⟨SH.toArray⟩] := by
    rw [← hW8]
    exact isSl_lit w7 [(.slice (some ⟨w0.heap.size, 0, none⟩) 2 2, ⟨([0, 1] : List UInt8).toArray⟩), (.slice y7 (List.replicate m (255 : UInt8)).length c7, ⟨(List.replicate m (255 : UInt8)).toArray⟩), (.slice y5 20 c5, ⟨(0 :: algL).toArray⟩), (.slice (some ⟨B, 0, none⟩) 32 32, ⟨SH.toArray⟩)] (allc (HG5.out.1.later hb7) (allc i7 (allc (HG5.out.2.2.1.later hb7) (allc (HG5.out.2.1.later hb7) alln)))) _ rfl 4 rfl
  have hFL : flatL [⟨([0, 1] : List UInt8).toArray⟩, ⟨(List.replicate m (255 : UInt8)).toArray⟩, ⟨(0 :: algL).toArray⟩, ⟨SH.toArray⟩] = ZL := by
    rw [HSL.out]
    simp [flatL]
  have hCc := sConcat_any (some ⟨w7.heap.size, 0, none⟩) 4 4 _ W8 s8 rfl (by rw [hFL, HSL.out]; simp only [List.length_append, List.length_cons, List.length_nil, List.length_replicate, algL]; omega) (by omega)
  rw [hFL] at hCc
  have HB8 := show Hid (Below w0.heap.size w0 W8) from bl2 (bl2 HG5.out.2.2.2 hb7) b8
  have hrl : (List.replicate m (255 : UInt8)).length = m := List.length_replicate
  rw [hrl] at hW8 ⊢
  clear i6 b6 b7 hb7 i7 b8 s8 hFL ho5 hb5 HG3 HG5 o4 b4 hrl
  go_wp2_with fail
  refine hCc.mono ?_
  rintro e w9 ⟨⟨v9, rfl, o9⟩, b9⟩
  have HF := show Hid (IsBytes w9 v9 ⟨ZL.toArray⟩ ∧ Below w0.heap.size w0 w9) from ⟨o9.is, bl2 HB8.out b9⟩
  clear o9 b9 hCc
  go_wp2_with fail
  go_ret2
  exact ⟨⟨_, rfl, HF.out.1⟩, HF.out.2⟩
theorem qSeal_none (v : Value) (n : Nat) (w : World) (hn : n ≤ 1000000) (h : ¬ (62 ≤ n ∧ n ≤ 512)) :
    Calls Tryd.prog 36 #[v, .int .i64 (n : Int)] w fun e w' => e = .returned (.tuple #[.slice none 0 0, .int .i64 21]) ∧ w' = w := by
  have hFt := rFits_any n w hn
  rw [decide_eq_false h] at hFt
  go_enter Tryd.func36, Tryd.ntmps36
  go_wp2_with fail
  refine hFt.mono ?_
  rintro e w0 ⟨rfl, rfl⟩
  clear hFt
  go_wp2_with fail
  go_ret2
  exact ⟨rfl, rfl⟩
end Go.Proofs.YtpcmpeeflnlkpaaDoor

namespace Go.Proofs.YtpcmpeeflnlkpaaDoor
open Go.RowKit Ch
set_option maxRecDepth 100000

theorem isb_none (w : World) : IsBytes w (.slice none 0 0) ⟨([] : List UInt8).toArray⟩ := ⟨none, 0, rfl, Nat.le_refl _, by unfold maxLen; decide, .inl ⟨rfl, rfl, rfl⟩⟩
theorem cmpV (A B : List UInt8) (u v : Value) (w : World) (h1 : IsBytes w u ⟨A.toArray⟩) (h2 : IsBytes w v ⟨B.toArray⟩) (hA : A.length ≤ 1000000) (hB : B.length ≤ 1000000) :
    Calls Tryd.prog 32 #[u, v] w fun e w' => e = .returned (.int .i64 (cmpL A B)) ∧ w' = w := by
  obtain ⟨y, c, rfl⟩ := isb_shape h1
  obtain ⟨z, d, rfl⟩ := isb_shape h2
  have e1 : (⟨A.toArray⟩ : ByteArray).size = A.length := size_of_list A
  have e2 : (⟨B.toArray⟩ : ByteArray).size = B.length := size_of_list B
  have := nCmp_any y z c d ⟨A.toArray⟩ ⟨B.toArray⟩ w (by rw [e1]; exact h1) (by rw [e2]; exact h2) (by rw [e1]; exact hA) (by rw [e2]; exact hB)
  rw [e1, e2] at this
  exact this
theorem expV (A E N : List UInt8) (v u z : Value) (w : World) (h1 : IsBytes w v ⟨A.toArray⟩) (h2 : IsBytes w u ⟨E.toArray⟩) (h3 : IsBytes w z ⟨N.toArray⟩) (hA : A.length ≤ 1024) (hE : E.length ≤ 1024) (hN : N.length ≤ 1024) (h0 : numB N ≠ 0) (hb : bareL N = N) :
    Calls Tryd.prog 37 #[v, u, z] w fun e w' => (∃ x, e = .returned (.tuple #[x, .int .i64 0]) ∧ IsNb N.length w' x (numB A ^ numB E % numB N)) ∧ Below w.heap.size w w' := by
  have l3 : numB N < 256 ^ N.length := (show IsNb N.length w z (numB N) from ⟨N, h3, hb, rfl, Nat.le_refl _⟩).lt
  obtain ⟨x, cx, rfl⟩ := isb_shape h1
  obtain ⟨y, cy, rfl⟩ := isb_shape h2
  obtain ⟨z, cz, rfl⟩ := isb_shape h3
  have z1 : (⟨A.toArray⟩ : ByteArray).size = A.length := size_of_list A
  have z2 : (⟨E.toArray⟩ : ByteArray).size = E.length := size_of_list E
  have z3 : (⟨N.toArray⟩ : ByteArray).size = N.length := size_of_list N
  have := nExp_any x y z cx cy cz ⟨A.toArray⟩ ⟨E.toArray⟩ ⟨N.toArray⟩ w (by rw [z1]; exact h1) (by rw [z2]; exact h2) (by rw [z3]; exact h3) (by omega) (by omega) (by omega) (show numB N ≠ 0 from h0)
  rw [z1, z2, z3] at this
  refine this.mono ?_
  rintro e w' ⟨v, e1, e2, e3⟩
  have e2' := show IsNum w' v (numB A ^ numB E % numB N) from e2
  exact ⟨⟨v, e1, .of e2' (Nat.lt_trans (Nat.mod_lt _ (Nat.pos_of_ne_zero h0)) l3)⟩, e3⟩
/-- Has a key a private exponent? -/
theorem qPrivate_any (v1 v2 v3 : Value) (N E D : List UInt8) (w : World) (h1 : IsBytes w v1 ⟨N.toArray⟩) (h2 : IsBytes w v2 ⟨E.toArray⟩) (h3 : IsBytes w v3 ⟨D.toArray⟩) (lD : D.length ≤ 1000000) :
    Calls Tryd.prog 34 #[.agg #[v1, v2, v3]] w fun e w' => e = .returned (.bool (decide (numB D ≠ 0))) ∧ Below w.heap.size w w' := by
  obtain ⟨y1, k1, c1, rfl⟩ := isb_open h1
  obtain ⟨y2, k2, c2, rfl⟩ := isb_open h2
  obtain ⟨y3, k3, c3, rfl⟩ := isb_open h3
  have kb := keyBox w (.slice y1 k1 c1) (.slice y2 k2 c2) (.slice y3 k3 c3)
  obtain ⟨q, hq⟩ : ∃ q, w.heap.size = q := ⟨_, rfl⟩
  obtain ⟨W0, hW0⟩ : ∃ W, w.alloc (.cells #[.slice y1 k1 c1, .slice y2 k2 c2, .slice y3 k3 c3] 25) = W := ⟨_, rfl⟩
  rw [hW0, hq] at kb
  have hC := cmpV D [] (.slice y3 k3 c3) (.slice none 0 0) W0 (h3.later kb.below) (isb_none _) lD (by decide)
  have hc := (cmp_num D []).2
  obtain ⟨cc, hcc⟩ : ∃ c, cmpL D [] = c := ⟨_, rfl⟩
  rw [hcc] at hc hC
  have g2 := (kb.cells (Below.refl _ W0)).2.2
  have HB := show Hid (Below w.heap.size w W0) from kb.below
  have hn0 : numB ([] : List UInt8) = 0 := rfl
  rw [hn0] at hc
  clear kb hcc h1 h2 h3 hn0
  by_cases h : numB D = 0
  · obtain rfl : cc = 0 := hc.2 h
    rw [decide_eq_false (fun h' => h' h)]
    clear hc h
    go_enter Tryd.func34, Tryd.ntmps34
    go_wp2_with fail
    refine hC.mono ?_
    rintro e w2 ⟨rfl, rfl⟩
    clear hC
    go_wp2_with fail
    go_ret
    exact ⟨rfl, HB.out⟩
  · have hq0 : (cc != 0) = true := bne_iff_ne.2 (fun h' => h (hc.1 h'))
    rw [decide_eq_true (show numB D ≠ 0 from h)]
    clear hc h
    go_enter Tryd.func34, Tryd.ntmps34
    go_wp2_with fail
    refine hC.mono ?_
    rintro e w2 ⟨rfl, rfl⟩
    clear hC
    go_wp2_with fail
    go_ret
    exact ⟨by rw [← hq0] <;> rfl, HB.out⟩
/-- Does a power by D become the sealed form again? -/
theorem qOpens_any (v1 v2 v3 vp vf : Value) (N E D P F : List UInt8) (w : World) (h1 : IsBytes w v1 ⟨N.toArray⟩) (h2 : IsBytes w v2 ⟨E.toArray⟩) (h3 : IsBytes w v3 ⟨D.toArray⟩) (h4 : IsBytes w vp ⟨P.toArray⟩) (h5 : IsBytes w vf ⟨F.toArray⟩)
    (lN : N.length ≤ 1024) (lE : E.length ≤ 1024) (lP : P.length ≤ 1024) (lF : F.length ≤ 1000000) (h0 : numB N ≠ 0) (hb : bareL N = N) :
    Calls Tryd.prog 38 #[.agg #[v1, v2, v3], vp, vf] w fun e w' => e = .returned (.bool (decide (numB P ^ numB E % numB N = numB F))) ∧ Below w.heap.size w w' := by
  obtain ⟨y1, k1, c1, rfl⟩ := isb_open h1
  obtain ⟨y2, k2, c2, rfl⟩ := isb_open h2
  obtain ⟨y3, k3, c3, rfl⟩ := isb_open h3
  obtain ⟨y4, k4, c4, rfl⟩ := isb_open h4
  obtain ⟨y5, k5, c5, rfl⟩ := isb_open h5
  have kb := keyBox w (.slice y1 k1 c1) (.slice y2 k2 c2) (.slice y3 k3 c3)
  obtain ⟨q, hq⟩ : ∃ q, w.heap.size = q := ⟨_, rfl⟩
  obtain ⟨W0, hW0⟩ : ∃ W, w.alloc (.cells #[.slice y1 k1 c1, .slice y2 k2 c2, .slice y3 k3 c3] 25) = W := ⟨_, rfl⟩
  rw [hW0, hq] at kb
  have hX := expV P E N (.slice y4 k4 c4) (.slice y2 k2 c2) (.slice y1 k1 c1) W0 (h4.later kb.below) (h2.later kb.below) (h1.later kb.below) lP lE lN h0 hb
  have HF5 := show Hid (IsBytes W0 (.slice y5 k5 c5) ⟨F.toArray⟩ ∧ Below w.heap.size w W0 ∧ N.length ≤ 1024 ∧ F.length ≤ 1000000) from ⟨h5.later kb.below, kb.below, lN, lF⟩
  obtain ⟨g0, g1, _⟩ := kb.cells (Below.refl _ W0)
  generalize numB P ^ numB E % numB N = X at *
  obtain ⟨r, hr⟩ : ∃ r, Hid (decide (X = numB F) = r) := ⟨_, rfl⟩
  rw [hr.out]
  clear kb h1 h2 h3 h4 h5 lP lE lN h0 hb lF
  go_enter Tryd.func38, Tryd.ntmps38
  go_wp2_with fail
  refine hX.mono ?_
  rintro e w2 ⟨⟨x2, rfl, R, i2, _, n2, l2⟩, b2⟩
  obtain ⟨y6, k6, c6, rfl⟩ := isb_open i2
  have hC := cmpV R F (.slice y6 k6 c6) (.slice y5 k5 c5) w2 i2 (HF5.out.1.later b2) (by have := HF5.out.2.2.1; omega) HF5.out.2.2.2
  have hc := (cmp_num R F).2
  obtain ⟨cc, hcc⟩ : ∃ c, cmpL R F = c := ⟨_, rfl⟩
  rw [hcc] at hc hC
  rw [n2] at hc
  have HB := show Hid (Below w.heap.size w w2) from bl2 HF5.out.2.1 b2
  clear hX i2 n2 l2 b2 hcc HF5
  have HRC := show Hid ((cc == 0) = r) from by
    unfold Hid
    rw [← hr.out]
    by_cases h : X = numB F
    · rw [decide_eq_true h, hc.2 h]
      rfl
    · rw [decide_eq_false h]
      exact beq_eq_false_iff_ne.2 (fun h' => h (hc.1 h'))
  clear hc
  go_wp2_with fail
  refine hC.mono ?_
  rintro e w3 ⟨rfl, rfl⟩
  clear hC
  go_wp2_with fail
  go_ret
  exact ⟨by rw [← HRC.out] <;> rfl, HB.out⟩
/-- bytes.Clone. -/
theorem sClone_any (A : List UInt8) (v : Value) (w : World) (h : IsBytes w v ⟨A.toArray⟩) (hA : A.length ≤ 900000) : Calls Tryd.prog 39 #[v] w (Gives w A) := by
  obtain ⟨y, c, rfl⟩ := isb_shape h
  have hz : (⟨A.toArray⟩ : ByteArray).size = A.length := size_of_list A
  refine (cBytesClone_any y A.length c ⟨A.toArray⟩ w h hz.symm (by omega)).mono ?_
  rintro e w' ⟨v, h1, h2, h3⟩
  refine ⟨⟨v, h1, ?_⟩, h3⟩
  rw [hz] at h2
  exact (show OwnL w.heap.size w' v A from h2).is
end Go.Proofs.YtpcmpeeflnlkpaaDoor
