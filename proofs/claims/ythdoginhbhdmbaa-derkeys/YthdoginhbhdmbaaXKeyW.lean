/-
  Package der: keyWithin, of a right key's form.
-/
import Derived.Test.YthdoginhbhdmbaaXKeyA
import Derived.Deep.QuietTactic
import Derived.BigQuiet
namespace Go.Proofs.Ythdoginhbhdmbaa
open Go.RowKit Ch
set_option maxRecDepth 100000

theorem rest_one {w : World} {b o k c : Nat} {x : UInt8} {l : List UInt8} (h : IsBytes w (.slice (some ⟨b, o, none⟩) k c) ⟨(x :: l).toArray⟩) (hk : k = l.length + 1) (hl : 1 ≤ l.length) : c ≠ 1 ∧ 1 ≤ c ∧ IsBytes w (.slice (some ⟨b, o + 1, none⟩) (k - 1) (c - 1)) ⟨l.toArray⟩ := by
  have hz : (⟨(x :: l).toArray⟩ : ByteArray).size = k := by rw [size_of_list, hk]; rfl
  have hc : k ≤ c := by
    obtain ⟨_, _, e1, e2, _⟩ := h
    rw [hz] at e1 e2
    simp only [Value.slice.injEq] at e1
    omega
  have h3 := IsBytes.tail (s := ⟨(x :: l).toArray⟩) (by rw [hz]; exact h) (k := 1) (by omega)
  rw [hz] at h3
  have hseg : seg ⟨(x :: l).toArray⟩ 1 k = l := by
    unfold seg
    rw [List.toList_toArray]
    simp [hk]
  rw [hseg] at h3
  exact ⟨by omega, by omega, h3⟩
/-- A block in which no cell is a byte. -/
def BoxN (w : World) (p : Nat) : Prop := ∃ C t m, w.heap[p]? = some (.cells C t m) ∧ ∀ (i : Nat) (z : Int), C[i]? ≠ some (.int .u8 z)
theorem IsBytes.keptN {w w' : World} {v : Value} {s : ByteArray} {ps : List Nat} (h : IsBytes w v s) (hk : KeptX ps w w') (hb : ∀ p ∈ ps, BoxN w p) : IsBytes w' v s := by
  obtain ⟨a, cap, hv, hc, hm, hr⟩ := h
  refine ⟨a, cap, hv, hc, hm, ?_⟩
  rcases hr with h1 | ⟨x, h1, h2⟩
  · exact .inl h1
  · refine .inr ⟨x, h1, ?_⟩
    by_cases h0 : s.size = 0
    · exact .inl h0
    rcases h2 with h2 | ⟨b, o, h2, h7, h8⟩
    · exact .inl h2
    · refine .inr ⟨b, o, h2, Nat.lt_of_lt_of_le h7 hk.size, fun i hi => ?_⟩
      have hcell := h8 i hi
      have hnp : b ∉ ps := by
        intro hmem
        obtain ⟨C, t, m, hz, hne⟩ := hb b hmem
        have e : w.cell? ⟨b, o + i, none⟩ = C[o + i]? := by simp [World.cell?, hz]
        rw [e] at hcell
        exact hne _ _ hcell
      have e : w'.cell? ⟨b, o + i, none⟩ = w.cell? ⟨b, o + i, none⟩ := by
        unfold World.cell?
        rw [hk.block b h7 hnp]
      rw [e]
      exact hcell
theorem key_stored {u : World} {q : Nat} {a0 b0 c0 : Value} {t : TypeId} (a b c : Value) (h : u.heap[q]? = some (.cells #[a0, b0, c0] t (0, 0))) :
    (((u.setCell ⟨q, 0, none⟩ a).setCell ⟨q, 1, none⟩ b).setCell ⟨q, 2, none⟩ c).heap[q]? = some (.cells #[a, b, c] t (0, 0)) ∧ KeptX [q] u (((u.setCell ⟨q, 0, none⟩ a).setCell ⟨q, 1, none⟩ b).setCell ⟨q, 2, none⟩ c) :=
  ⟨setCell_block (i := 2) (u := c) (setCell_block (i := 1) (u := b) (setCell_block (i := 0) (u := a) h)), ((keptX_at u (by simp)).trans (keptX_at _ (by simp))).trans (keptX_at _ (by simp))⟩
theorem boxN_nil {u : World} {q : Nat} {t : TypeId} (h : u.heap[q]? = some (.cells #[.slice none 0 0, .slice none 0 0, .slice none 0 0] t (0, 0))) : BoxN u q := ⟨_, _, _, h, fun i z => by
  rcases i with _ | _ | _ | i <;> simp⟩
theorem below_drewQ (w : World) : ∀ n, Below w.heap.size w (w.drewN n) := fun _ => ⟨rfl, rfl, rfl, Nat.le_refl _, fun _ _ => rfl⟩
theorem bare_le (l : List UInt8) : (bareL l).length ≤ l.length := by
  unfold bareL
  exact (List.dropWhile_sublist _).length_le
theorem trimV (v : Value) (l : List UInt8) (w : World) (h : IsBytes w v ⟨l.toArray⟩) (hl : l.length ≤ 1000000) : Calls Try.prog 44 #[v] w (Gives w (bareL l)) := by
  obtain ⟨x, cx, rfl⟩ := isb_shape h
  have hz : (⟨l.toArray⟩ : ByteArray).size = l.length := size_of_list l
  have := nTrim_any x cx ⟨l.toArray⟩ w (by rw [hz]; exact h) (by rw [hz]; exact hl)
  rw [hz] at this
  refine this.mono ?_
  rintro e w' ⟨v, h1, h2, h3⟩
  exact ⟨⟨v, h1, (show OwnL w.heap.size w' v (bareL l) from h2).is⟩, h3⟩
theorem rightV (v1 v2 v3 : Value) (N E D : List UInt8) (w : World) (hN : IsBytes w v1 ⟨N.toArray⟩) (hE : IsBytes w v2 ⟨E.toArray⟩) (hD : IsBytes w v3 ⟨D.toArray⟩) (lN : N.length ≤ 1000000) (lE : E.length ≤ 1000000) (lD : D.length ≤ 1000000) :
    Calls Try.prog 26 #[.agg #[v1, v2, v3]] w fun e w' => e = .returned (.bool (decide (rightP N E D))) ∧ Below w.heap.size w w' := by
  obtain ⟨x, cx, rfl⟩ := isb_shape hN
  obtain ⟨y, cy, rfl⟩ := isb_shape hE
  obtain ⟨z, cz, rfl⟩ := isb_shape hD
  have h1 : (⟨N.toArray⟩ : ByteArray).size = N.length := size_of_list N
  have h2 : (⟨E.toArray⟩ : ByteArray).size = E.length := size_of_list E
  have h3 : (⟨D.toArray⟩ : ByteArray).size = D.length := size_of_list D
  have := rRight_any x y z cx cy cz ⟨N.toArray⟩ ⟨E.toArray⟩ ⟨D.toArray⟩ w (by rw [h1]; exact hN) (by rw [h2]; exact hE) (by rw [h3]; exact hD) (by rw [h1]; exact lN) (by rw [h2]; exact lE) (by rw [h3]; exact lD)
  rw [h1, h2, h3] at this
  exact this
set_option maxHeartbeats 16000000 in
theorem xKeyWithin_ok (N E : List UInt8) (v : Value) (w : World) (h : IsBytes w v ⟨(formB N E).toArray⟩) (zN : N.length ≤ 10000) (zE : E.length ≤ 10000) (bN : bareL N ≠ []) (bE : bareL E ≠ []) (hr : rightP (bareL N) (bareL E) []) :
    Calls Try.prog 37 #[v] w fun e w' => (∃ y k c y2 k2 c2, e = .returned (.agg #[.slice y k c, .slice y2 k2 c2, .slice none 0 0]) ∧ IsBytes w' (.slice y k c) ⟨(bareL N).toArray⟩ ∧ IsBytes w' (.slice y2 k2 c2) ⟨(bareL E).toArray⟩) ∧ Below w.heap.size w w' := by
  obtain ⟨y0, k0, c0, rfl⟩ := isb_open h
  obtain ⟨q, hq⟩ : ∃ q, w.heap.size = q := ⟨_, rfl⟩
  obtain ⟨W0, hW0⟩ : ∃ W, w.alloc (.cells #[.slice none 0 0, .slice none 0 0, .slice none 0 0] 36) = W := ⟨_, rfl⟩
  have kb0 := keyBox w (.slice none 0 0) (.slice none 0 0) (.slice none 0 0)
  rw [hW0, hq] at kb0
  obtain ⟨W1, hW1⟩ : ∃ W, W0.alloc (.cells #[.int .u8 48, .int .u8 3] 5) = W := ⟨_, rfl⟩
  have b1 : Below W0.heap.size W0 W1 := by rw [← hW1]; exact alB _ _
  have i1 : IsBytes W1 (.slice (some ⟨W0.heap.size, 0, none⟩) 2 2) ⟨([48, 3] : List UInt8).toArray⟩ := by rw [← hW1]; exact litM W0 ⟨#[48, 3]⟩ _ _ rfl (show (2 : Nat) ≤ maxLen by unfold maxLen; decide)
  have HZ := show Hid (N.length ≤ 10000 ∧ E.length ≤ 10000 ∧ bareL N ≠ [] ∧ bareL E ≠ [] ∧ rightP (bareL N) (bareL E) []) from ⟨zN, zE, bN, bE, hr⟩
  have HK0 := show Hid (KeyBox w W0 q (.slice none 0 0) (.slice none 0 0) (.slice none 0 0)) from kb0
  have hO1 := show Calls Try.prog 38 #[.slice y0 k0 c0, .slice (some ⟨W0.heap.size, 0, none⟩) 2 2] W1 _ from xOnly_ok (.slice y0 k0 c0) (.slice (some ⟨W0.heap.size, 0, none⟩) 2 2) (formB N E) [48, 3] [(48, kindB), (3, bitsB N E)] W1 (h.later (bl2 kb0.below b1)) i1 (formB_put N E) (allc ⟨tk rfl, by decide⟩ (allc ⟨tk rfl, by have := bitsB_le N E zN zE; simp only; omega⟩ alln)) rfl (by have := formB_le N E zN zE; omega)
  have HB := show Hid (Below W0.heap.size W0 W1) from b1
  clear i1 b1 kb0 h zN zE bN bE hr
  go_enter Try.func37, Try.ntmps37
  go_wp2_with fail
  refine hO1.mono ?_
  rintro e w2 ⟨⟨v2, rfl, p2⟩, b2⟩
  obtain ⟨x2, cx2, rfl⟩ := p2.shape
  obtain ⟨n2, hn2⟩ : ∃ n, ([(48, kindB), (3, bitsB N E)] : List (UInt8 × List UInt8)).length = n := ⟨_, rfl⟩
  have hn2' : n2 = 2 := hn2.symm
  rw [hn2] at p2 ⊢
  obtain ⟨_, b, o, ya, ka, ca, rfl, _, g0, g1, ia, hka⟩ := isPs_at p2 (i := 0) rfl
  obtain ⟨_, b', o', yb, kb, cb, e2, _, _, g3, ib, hkb⟩ := isPs_at p2 (i := 1) rfl
  simp only [Option.some.injEq, Addr.mk.injEq, and_true] at e2
  obtain ⟨rfl, rfl⟩ := e2
  rw [Nat.zero_mul, Nat.add_zero] at g0 g1
  rw [Nat.one_mul] at g3
  have HB2 := show Hid (Below W0.heap.size W0 w2) from bl2 HB.out b2
  have i0n : (0 : Int) < (n2 : Int) := by omega
  have i1n : (1 : Int) < (n2 : Int) := by omega
  -- Put of the first piece
  obtain ⟨W3, hW3⟩ : ∃ W, w2.alloc (.cells #[.int .u8 48, .slice ya ka ca] 26) = W := ⟨_, rfl⟩
  have b3 : Below w2.heap.size w2 W3 := by rw [← hW3]; exact alB _ _
  have hps : IsPs W3 (.slice (some ⟨w2.heap.size, 0, none⟩) 1 1) [(48, kindB)] := by rw [← hW3, hka]; exact isPs_one w2 48 kindB ya ca (hka ▸ ia)
  have hP := show Calls Try.prog 8 #[.slice (some ⟨w2.heap.size, 0, none⟩) 1 1] W3 _ from xPut_any _ 1 [(48, kindB)] W3 hps (allc ⟨tk rfl, by decide⟩ alln) (by decide) (by decide)
  rw [show putL [(48, kindB)] = kindL 1 from by rw [oneB_put]; rfl] at hP
  have HI := show Hid (∀ u, Below w2.heap.size w2 u → u.cell? ⟨b, o + 2 + 1, none⟩ = some (.slice yb kb cb) ∧ IsBytes u (.slice yb kb cb) ⟨(bitsB N E).toArray⟩ ∧ Below W0.heap.size W0 u) from fun u hu => ⟨(hu.cell (p := ⟨b, o + 2 + 1, none⟩) (cell_lt g3)).trans g3, ib.later hu, bl2 HB2.out hu⟩
  have HKB := show Hid (kb = (bitsB N E).length) from hkb
  have HB3 := show Hid (Below w2.heap.size w2 W3) from b3
  clear hO1 p2 b2 hn2 hn2' ia ib hka hkb g3 hps b3 HB HB2 hW0 hW1 hq
  go_wp2_with fail
  refine hP.mono ?_
  rintro e w4 ⟨⟨v4, rfl, o4⟩, b4⟩
  obtain ⟨y4, k4, c4, rfl⟩ := isb_open o4.is
  have hA := show Calls Try.prog 28 #[.string ⟨#[42, 134, 72, 134, 247, 13, 1, 1, 1]⟩] w4 (Gives w4 (kindL 1)) from dAlgorithm_any ⟨#[42, 134, 72, 134, 247, 13, 1, 1, 1]⟩ w4 (by decide)
  have HB4 := show Hid (IsBytes w4 (.slice y4 k4 c4) ⟨(kindL 1).toArray⟩ ∧ Below w2.heap.size w2 w4) from ⟨o4.is, bl2 HB3.out b4⟩
  clear hP o4 b4 HB3 hW3 g0 g1
  go_wp2_with fail
  refine hA.mono ?_
  rintro e w5 ⟨⟨v5, rfl, i5⟩, b5⟩
  obtain ⟨y5, k5, c5, rfl⟩ := isb_open i5
  have hEq := sEqual_ok (.slice y4 k4 c4) (.slice y5 k5 c5) ⟨(kindL 1).toArray⟩ w5 (HB4.out.1.later b5) i5
  have HB5 := show Hid (Below w2.heap.size w2 w5) from bl2 HB4.out.2 b5
  have hR := fun wx => xNeed_ok 10 wx
  clear hA i5 b5 HB4
  go_wp2_with fail
  refine hEq.mono ?_
  rintro e w6 ⟨rfl, rfl⟩
  clear hEq
  go_wp2_with fail
  refine (hR _).mono ?_
  rintro e w7 ⟨rfl, rfl⟩
  have g3 := (HI.out _ HB5.out).1
  have ib := (HI.out _ HB5.out).2.1
  -- the bits
  have hbl : kb = (putL1 (48, numsB N E)).length + 1 := HKB.out
  have hpl := putL1_length (48, numsB N E)
  have hz : (⟨(bitsB N E).toArray⟩ : ByteArray).size = kb := by rw [size_of_list, HKB.out]
  obtain ⟨bb, ob, rfl, _, gb'⟩ := IsBytes.cellAt (s := ⟨(bitsB N E).toArray⟩) (by rw [hz]; exact ib) (i := 0) (by omega)
  have gb : w7.cell? ⟨bb, ob, none⟩ = some (.int .u8 0) := by
    rw [byte_list, List.toList_toArray] at gb'
    simpa [bitsB] using gb'
  obtain ⟨hc1, hc2, it⟩ := rest_one (x := 0) (l := putL1 (48, numsB N E)) ib hbl (by omega)
  have i0k : (0 : Int) < (kb : Int) := by omega
  have i1k : (1 : Int) ≤ (kb : Int) := by omega
  have icb : (1 : Int) ≤ (cb : Int) := by omega
  have ikc : (kb : Int) ≤ (cb : Int) := by
    obtain ⟨_, _, e1, e3, _⟩ := ib
    rw [hz] at e1 e3
    simp only [Value.slice.injEq] at e1
    omega
  obtain ⟨W8, hW8⟩ : ∃ W, w7.alloc (.cells #[.int .u8 48] 5) = W := ⟨_, rfl⟩
  have b8 : Below w7.heap.size w7 W8 := by rw [← hW8]; exact alB _ _
  have i8 : IsBytes W8 (.slice (some ⟨w7.heap.size, 0, none⟩) 1 1) ⟨([48] : List UInt8).toArray⟩ := by rw [← hW8]; exact litM w7 ⟨#[48]⟩ _ _ rfl (show (1 : Nat) ≤ maxLen by unfold maxLen; decide)
  have hO2 := show Calls Try.prog 38 #[.slice (some ⟨bb, ob + 1, none⟩) (kb - 1) (cb - 1), .slice (some ⟨w7.heap.size, 0, none⟩) 1 1] W8 _ from xOnly_ok (.slice (some ⟨bb, ob + 1, none⟩) (kb - 1) (cb - 1)) (.slice (some ⟨w7.heap.size, 0, none⟩) 1 1) (putL1 (48, numsB N E)) [48] [(48, numsB N E)] W8 (it.later b8) i8 (oneB_put _) (allc ⟨tk (t := 48) rfl, by have := numsB_le N E HZ.out.1 HZ.out.2.1; simp only; omega⟩ alln) rfl (by have := bitsB_le N E HZ.out.1 HZ.out.2.1; have := HKB.out; omega)
  have HB8 := show Hid (Below W0.heap.size W0 W8) from bl2 (HI.out _ HB5.out).2.2 b8
  clear hbl hpl hz gb' it ib i8 b8 HB5 HI HKB
  go_wp2_with fail
  refine (hR _).mono ?_
  rintro e w9 ⟨rfl, rfl⟩
  go_wp2_with fail
  refine hO2.mono ?_
  rintro e w10 ⟨⟨v10, rfl, p10⟩, b10⟩
  obtain ⟨x10, cx10, rfl⟩ := p10.shape
  obtain ⟨n10, hn10⟩ : ∃ n, ([(48, numsB N E)] : List (UInt8 × List UInt8)).length = n := ⟨_, rfl⟩
  have hn10' : n10 = 1 := hn10.symm
  rw [hn10] at p10 ⊢
  obtain ⟨_, b11, o11, y11, k11, c11, rfl, _, _, g11, i11, hk11⟩ := isPs_at p10 (i := 0) rfl
  rw [Nat.zero_mul, Nat.add_zero] at g11
  have i0n10 : (0 : Int) < (n10 : Int) := by omega
  obtain ⟨W11, hW11⟩ : ∃ W, w10.alloc (.cells #[.int .u8 2, .int .u8 2] 5) = W := ⟨_, rfl⟩
  have b11' : Below w10.heap.size w10 W11 := by rw [← hW11]; exact alB _ _
  have j11 : IsBytes W11 (.slice (some ⟨w10.heap.size, 0, none⟩) 2 2) ⟨([2, 2] : List UInt8).toArray⟩ := by rw [← hW11]; exact litM w10 ⟨#[2, 2]⟩ _ _ rfl (show (2 : Nat) ≤ maxLen by unfold maxLen; decide)
  have hO3 := show Calls Try.prog 38 #[.slice y11 k11 c11, .slice (some ⟨w10.heap.size, 0, none⟩) 2 2] W11 _ from xOnly_ok (.slice y11 k11 c11) (.slice (some ⟨w10.heap.size, 0, none⟩) 2 2) (numsB N E) [2, 2] [(2, numL N), (2, numL E)] W11 (i11.later b11') j11 (numsB_put N E) (allc ⟨tk (t := 2) rfl, by have := numL_le N; have := HZ.out.1; simp only; omega⟩ (allc ⟨tk (t := 2) rfl, by have := numL_le E; have := HZ.out.2.1; simp only; omega⟩ alln)) rfl (by have := numsB_le N E HZ.out.1 HZ.out.2.1; omega)
  have HB11 := show Hid (Below W0.heap.size W0 W11) from bl2 (bl2 HB8.out b10) b11'
  clear hO2 p10 b10 hn10 hn10' i11 hk11 b11' j11 HB8 hW8 gb g3
  go_wp2_with fail
  refine hO3.mono ?_
  rintro e w12 ⟨⟨v12, rfl, p12⟩, b12⟩
  obtain ⟨x12, cx12, rfl⟩ := p12.shape
  obtain ⟨n12, hn12⟩ : ∃ n, ([(2, numL N), (2, numL E)] : List (UInt8 × List UInt8)).length = n := ⟨_, rfl⟩
  have hn12' : n12 = 2 := hn12.symm
  rw [hn12] at p12 ⊢
  obtain ⟨_, b13, o13, yN, kN, cN, rfl, hb13, _, gN, iN, hkN⟩ := isPs_at p12 (i := 0) rfl
  obtain ⟨_, b14, o14, yE, kE, cE, e14, _, _, gE, iE, hkE⟩ := isPs_at p12 (i := 1) rfl
  simp only [Option.some.injEq, Addr.mk.injEq, and_true] at e14
  obtain ⟨rfl, rfl⟩ := e14
  rw [Nat.zero_mul, Nat.add_zero] at gN
  rw [Nat.one_mul] at gE
  have i0n12 : (0 : Int) < (n12 : Int) := by omega
  have i1n12 : (1 : Int) < (n12 : Int) := by omega
  have HB12 := show Hid (IsBytes w12 (.slice yN kN cN) ⟨(numL N).toArray⟩ ∧ IsBytes w12 (.slice yE kE cE) ⟨(numL E).toArray⟩ ∧ Below W0.heap.size W0 w12) from ⟨iN, iE, bl2 HB11.out b12⟩
  clear hO3 p12 b12 hn12 hn12' iN iE hkN hkE HB11 hW11 g11
  go_wp2_with fail
  have HQ := show Hid (∀ n, Below w12.heap.size w12 (w12.drewN n)) from fun n => below_drewQ w12 n
  go_quiet (fail)
  have HB13 := show Hid (Below w12.heap.size w12 (w12.drewN nq)) from HQ.out nq
  generalize w12.drewN nq = w13 at *
  have HN := show Hid (IsBytes w13 (.slice yN kN cN) ⟨(numL N).toArray⟩ ∧ IsBytes w13 (.slice yE kE cE) ⟨(numL E).toArray⟩ ∧ Below W0.heap.size W0 w13) from ⟨HB12.out.1.later HB13.out, HB12.out.2.1.later HB13.out, bl2 HB12.out.2.2 HB13.out⟩
  have hN1 := xIsNumber_ok N (.slice yN kN cN) w13 HN.out.1 HZ.out.2.2.1
  have hE1 := xIsNumber_ok E (.slice yE kE cE) w13 HN.out.2.1 HZ.out.2.2.2.1
  clear HB12 HB13 HQ gN gE
  go_wp2_with fail
  refine hN1.mono ?_
  rintro e w14 ⟨rfl, rfl⟩
  go_wp2_with fail
  refine hE1.mono ?_
  rintro e w15 ⟨rfl, rfl⟩
  go_wp2_with fail
  refine (hR _).mono ?_
  rintro e w16 ⟨rfl, rfl⟩
  clear hN1 hE1 hR
  have hTN := trimV (.slice yN kN cN) (numL N) w16 HN.out.1 (by have := numL_le N; have := HZ.out.1; omega)
  rw [bare_num N HZ.out.2.2.1] at hTN
  go_wp2_with fail
  refine hTN.mono ?_
  rintro e w17 ⟨⟨v17, rfl, i17⟩, b17⟩
  obtain ⟨y17, k17, c17, rfl⟩ := isb_open i17
  have hTE := trimV (.slice yE kE cE) (numL E) w17 (HN.out.2.1.later b17) (by have := numL_le E; have := HZ.out.2.1; omega)
  rw [bare_num E HZ.out.2.2.2.1] at hTE
  have H17 := show Hid (IsBytes w17 (.slice y17 k17 c17) ⟨(bareL N).toArray⟩ ∧ Below W0.heap.size W0 w17) from ⟨i17, bl2 HN.out.2.2 b17⟩
  clear hTN i17 b17 HN
  go_wp2_with fail
  refine hTE.mono ?_
  rintro e w18 ⟨⟨v18, rfl, i18⟩, b18⟩
  obtain ⟨y18, k18, c18, rfl⟩ := isb_open i18
  have H18 := show Hid (IsBytes w18 (.slice y17 k17 c17) ⟨(bareL N).toArray⟩ ∧ IsBytes w18 (.slice y18 k18 c18) ⟨(bareL E).toArray⟩ ∧ Below W0.heap.size W0 w18) from ⟨H17.out.1.later b18, i18, bl2 H17.out.2 b18⟩
  clear hTE i18 b18 H17
  have hR2 := fun wx => xNeed_ok 2 wx
  obtain ⟨q2, hq2⟩ : ∃ q, w18.heap.size = q := ⟨_, rfl⟩
  obtain ⟨W19, hW19⟩ : ∃ W, w18.alloc (.cells #[.slice y17 k17 c17, .slice y18 k18 c18, .slice none 0 0] 36) = W := ⟨_, rfl⟩
  have kb18 := keyBox w18 (.slice y17 k17 c17) (.slice y18 k18 c18) (.slice none 0 0)
  rw [hW19, hq2] at kb18
  obtain ⟨W20, hW20⟩ : ∃ W, W19.setCell ⟨q2, 2, none⟩ (.slice none 0 0) = W := ⟨_, rfl⟩
  have kb19 : KeyBox w18 W20 q2 (.slice y17 k17 c17) (.slice y18 k18 c18) (.slice none 0 0) := by
    rw [← hW20]
    exact ⟨kb18.below.trans ((keptX_at (ps := [q2]) W19 (by simp)).below kb18.below.size (fun p hp => by simp at hp; omega)), kb18.size, setCell_block (i := 2) (u := .slice none 0 0) kb18.at0⟩
  have g0 := block_free 2 kb18.at0
  have gc := block_cell (v := .slice none 0 0) 2 kb18.at0 rfl
  clear kb18
  have HK19 := show Hid (KeyBox w18 W20 q2 (.slice y17 k17 c17) (.slice y18 k18 c18) (.slice none 0 0)) from kb19
  have hRt := rightV (.slice y17 k17 c17) (.slice y18 k18 c18) (.slice none 0 0) (bareL N) (bareL E) [] W20 (H18.out.1.later kb19.below) (H18.out.2.1.later kb19.below) (isBytes_nil W20) (by have := bare_le N; have := HZ.out.1; omega) (by have := bare_le E; have := HZ.out.2.1; omega) (by decide)
  rw [decide_eq_true HZ.out.2.2.2.2] at hRt
  obtain ⟨⟨r0, r1, r2⟩, _⟩ := And.intro (kb19.cells (Below.refl _ W20)) trivial
  have f0 := block_free 0 kb19.at0
  have f1 := block_free 1 kb19.at0
  have f2 := block_free 2 kb19.at0
  clear kb19
  go_wp2_with fail
  refine hRt.mono ?_
  rintro e w20 ⟨rfl, b20⟩
  clear hRt hW19 hW20 g0 gc r0 r1 r2 f0 f1 f2
  go_wp2_with fail
  refine (hR2 _).mono ?_
  rintro e w21 ⟨rfl, rfl⟩
  obtain ⟨⟨r0, r1, r2⟩, _⟩ := And.intro (HK19.out.cells b20) trivial
  have b021 := bl2 H18.out.2.2 (bl2 HK19.out.below b20)
  have hq21 := (b021.block q (block_lt HK0.out.at0)).trans HK0.out.at0
  have hq0 := block_cell (v := .slice none 0 0) 0 hq21 rfl
  have hq1 := block_cell (v := .slice none 0 0) 1 hq21 rfl
  have hq2' := block_cell (v := .slice none 0 0) 2 hq21 rfl
  have f0 := block_free 0 hq21
  have f1 := block_free 1 hq21
  have f2 := block_free 2 hq21
  have HE := show Hid (_ ∧ _) from key_stored (.slice y17 k17 c17) (.slice y18 k18 c18) (.slice none 0 0) hq21
  have H21 := show Hid (IsBytes w21 (.slice y17 k17 c17) ⟨(bareL N).toArray⟩ ∧ IsBytes w21 (.slice y18 k18 c18) ⟨(bareL E).toArray⟩ ∧ Below w.heap.size w w21 ∧ BoxN w21 q) from ⟨H18.out.1.later (bl2 HK19.out.below b20), H18.out.2.1.later (bl2 HK19.out.below b20), bl2 HK0.out.below b021, boxN_nil hq21⟩
  clear b021 hq21 b20 H18 HK19 hR2
  go_wp2_with fail
  generalize (((w21.setCell ⟨q, 0, none⟩ (.slice y17 k17 c17)).setCell ⟨q, 1, none⟩ (.slice y18 k18 c18)).setCell ⟨q, 2, none⟩ (.slice none 0 0)) = W22 at *
  obtain ⟨hb22, hk22⟩ := HE.out
  have q0 := block_cell (v := .slice y17 k17 c17) 0 hb22 rfl
  have q1 := block_cell (v := .slice y18 k18 c18) 1 hb22 rfl
  have q2'' := block_cell (v := .slice none 0 0) 2 hb22 rfl
  have HF := show Hid (IsBytes W22 (.slice y17 k17 c17) ⟨(bareL N).toArray⟩ ∧ IsBytes W22 (.slice y18 k18 c18) ⟨(bareL E).toArray⟩ ∧ Below w.heap.size w W22) from ⟨H21.out.1.keptN hk22 (allc H21.out.2.2.2 alln), H21.out.2.1.keptN hk22 (allc H21.out.2.2.2 alln), H21.out.2.2.1.trans (hk22.below H21.out.2.2.1.size (fun p hp => by
    simp at hp
    subst hp
    exact Nat.le_of_eq HK0.out.size))⟩
  (try simp only [Exit.inBlock, Exit.then])
  refine bodyPost_ret (v := .agg #[.slice y17 k17 c17, .slice y18 k18 c18, .slice none 0 0]) (by simp [results, Try.results37, go_sem, q0, q1, q2'']) rfl ⟨⟨_, _, _, _, _, _, rfl, HF.out.1, HF.out.2.1⟩, HF.out.2.2⟩
end Go.Proofs.Ythdoginhbhdmbaa
