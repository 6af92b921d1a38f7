/-
  The document's Mac, walked.
-/
import Derived.Test.YtgehgcnaoapbbaaDoorVSum
import Derived.Test.YtgehgcnaoapbbaaDoorHHeld
import Derived.Test.YtgehgcnaoapbbaaDoorVRootEtc
import Derived.Test.YtgehgcnaoapbbaaDoorKJoin
namespace Go.Proofs.YtgehgcnaoapbbaaDoor
open Go.RowKit Ch
set_option maxRecDepth 100000

/-- append of one byte, with another row kept. -/
theorem wpList_append_twob {w0 wr : World} {ops : Array Oper} {rest : List Oper} {o : Oper} {ac : Act} {Q : Exit → Act → World → Prop} (hgd : o.guard = none) (so x : Operand)
    (ho : o.op = .call { callee := .builtin .append, args := #[so, x], argTypes := #[23, 23] })
    (base : Nat) (v : Value) (acc : List UInt8) (hs : ac.eval so = v) (hown : wr.ownsRow base 5 1 v acc.length (Lib.byteCells acc))
    (z : Int) (hx : ac.eval x = .slice (some ⟨wr.heap.size, 0, none⟩) 1 1) (c : UInt8) (hc : Hid (z = (c.toNat : Int))) (acc' : List UInt8) (he : Hid (acc ++ [c] = acc')) (hlen : acc.length ≤ 1000000) (hbase : base ≤ wr.heap.size) (hb : Below base w0 wr)
    (e2 : TypeId) (size2 n2 : Nat) (u : Value) (xs : List Value) (hother : wr.ownsRow base e2 size2 u n2 xs) (hap : Apart v u)
    (h : ∀ v' w', w'.ownsRow base 5 1 v' acc'.length (Lib.byteCells acc') → Below base w0 w' → w'.ownsRow base e2 size2 u n2 xs → Apart v' u → wpList Tryd.prog ops Q rest (ac.put o.dst v') w') :
    wpList Tryd.prog ops Q (o :: rest) ac (wr.alloc (.cells #[.int .u8 z] 5)) := by
  obtain ⟨i0, hi, hz0, hz1, hz2⟩ := info5
  refine wpList_append_where _ hgd _ _ 23 ho base 5 i0 (.int .u8 0) 1 Tryd.underlying23 hi hz0 hz1 hz2 rfl v _ _ hs (hown.alloc _) ⟨wr.heap.size, 0, none⟩ 1 1 [_] hx rfl (cell_one_new _ _ _) (by intro u hu; simp at hu; subst hu; rfl) (by unfold maxLen; omega) (by omega) (by simp; omega) (by decide) ?_
  intro v' w2 hown2 hgrow hwhere
  have hb2 := below_grown hb hbase hown hgrow
  rw [hc.out] at hown2
  have hown3 := own_snoc (c := c) hown2
  rw [he.out] at hown3
  have hlt := World.ownsRow.lt hother
  refine h v' w2 hown3 hb2 ((hother.alloc _).kept hgrow ?_) ?_
  · rcases hu : u.ownBlock with _ | k
    · exact .inl rfl
    · exact .inr (fun hh => hap k hh.symm hu)
  · intro k hk hu
    rcases hwhere with h1 | h1
    · exact hap k (by rw [← h1]; exact hk) hu
    · rw [h1] at hk
      have := (hlt k hu).2
      simp at hk
      omega
/-- A key's block, xored, the first i bytes. -/
def padP (k : List UInt8) (pad i : Nat) : List UInt8 := (List.range i).map fun j => UInt8.ofNat (byL k j ^^^ pad)
theorem padP_succ (k : List UInt8) (pad i : Nat) : padP k pad i ++ [UInt8.ofNat (byL k i ^^^ pad)] = padP k pad (i + 1) := by simp [padP, List.range_succ]
theorem padP_length (k : List UInt8) (pad i : Nat) : (padP k pad i).length = i := by simp [padP]
theorem padP_64 (k : List UInt8) (pad : Nat) : padP k pad 64 = padK k pad := rfl
set_option maxHeartbeats 8000000 in
theorem vMac_any (au av x y : Option Addr) (cu cv cx cy : Nat) (k s : ByteArray) (w : World) (hU : IsN .u32 w (.slice au 8 cu) beginS.l) (hV : IsN .u32 w (.slice av 64 cv) roundK) (hKB : IsBytes w (.slice x k.size cx) k) (hB : IsBytes w (.slice y s.size cy) s) (hk : k.size ≤ 100000) (hs : s.size ≤ 50000) :
    Calls Tryd.prog 14 #[.agg #[.slice au 8 cu, .slice av 64 cv], .slice x k.size cx, .slice y s.size cy] w fun e w' => (∃ a c, e = .returned (.slice a 32 c) ∧ w'.ownsRow w.heap.size 5 1 (.slice a 32 c) 32 (Lib.byteCells (hmacL k.data.toList s.data.toList))) ∧ Below w.heap.size w w' := by
  have hb0 : Below w.heap.size w (w.alloc (.cells #[.slice au 8 cu, .slice av 64 cv] 30)) := (Below.refl _ w).alloc (Nat.le_refl _) _
  have hNb := heap_push_at w (.cells #[.slice au 8 cu, .slice av 64 cv] 30)
  have hz0 : (w.alloc (.cells #[.slice au 8 cu, .slice av 64 cv] 30)).heap.size = w.heap.size + 1 := by simp
  have hK0 := hKB.later hb0
  have hB0 := hB.later hb0
  have hU0 := hU.later hb0
  have hV0 := hV.later hb0
  generalize hW0 : w.alloc (.cells #[.slice au 8 cu, .slice av 64 cv] 30) = W0 at *
  have gb0 := block_cell 0 hNb rfl
  have gb1 := block_cell 1 hNb rfl
  by_cases h64 : k.size ≤ 64
  · have h642 : ¬ (64 : Int) < (k.size : Int) := by omega
    have hkey : keyB k.data.toList = k.data.toList := by unfold keyB; rw [if_neg (by rw [len_eq]; omega)]
    go_enter Tryd.func14, Tryd.ntmps14
    go_wp2_with fail
    obtain ⟨wk, hwk⟩ : ∃ wk, wk = W0 := ⟨_, rfl⟩
    have hbk : Below W0.heap.size W0 wk := by rw [hwk]; exact Below.refl _ _
    rw [← hwk]
    obtain ⟨KL, hKL⟩ : ∃ KL : ByteArray, KL = k := ⟨_, rfl⟩
    have hKI : IsBytes wk (.slice x k.size cx) KL := by rw [hwk, hKL]; exact hK0
    have hKe : KL.data.toList = keyB k.data.toList := by rw [hkey, hKL]
    have hKz : KL.size = k.size := by rw [hKL]
    obtain ⟨kz, hkz⟩ : ∃ kz, k.size = kz := ⟨_, rfl⟩
    rw [hkz] at hKI h64 hKz ⊢
    obtain ⟨xk, hxk⟩ : ∃ xk, xk = x := ⟨_, rfl⟩
    obtain ⟨ck, hck⟩ : ∃ ck, ck = cx := ⟨_, rfl⟩
    subst hxk hck
    clear hwk hkey hKL hW0
    have HIN := show Hid (wk.ownsRow wk.heap.size 5 1 (.slice none 0 0) 0 []) from ⟨rfl, .inl ⟨rfl, rfl⟩⟩
    go_loopw [7, 8, 9] (fun p q t wr => ∃ (i : Nat), i ≤ 64 ∧ t = .int .i64 (i : Int) ∧ wr.ownsRow wk.heap.size 5 1 p (padP KL.data.toList 54 i).length (Lib.byteCells (padP KL.data.toList 54 i)) ∧ wr.ownsRow wk.heap.size 5 1 q (padP KL.data.toList 92 i).length (Lib.byteCells (padP KL.data.toList 92 i)) ∧ Hid (Apart p q) ∧ Below wk.heap.size wk wr) (fun _ _ t _ => 64 - (intOf t).toNat)
    case atStart => exact ⟨0, by omega, rfl, ⟨rfl, .inl ⟨rfl, rfl⟩⟩, ⟨rfl, .inl ⟨rfl, rfl⟩⟩, apart_nil _, Below.refl _ _⟩
    case round =>
      obtain ⟨i, hi, rfl, hP, hQ, hap, hb⟩ := hrel
      by_cases hlt : i < 64
      · have hlt2 : (i : Int) < 64 := by omega
        obtain ⟨b, hbe⟩ : ∃ b, byL KL.data.toList i = b := ⟨_, rfl⟩
        have hb256 := byL_lt KL.data.toList i
        rw [hbe] at hb256
        have HP1 := show Hid (padP KL.data.toList 54 i ++ [UInt8.ofNat (b ^^^ 54)] = padP KL.data.toList 54 (i + 1)) from by unfold Hid; rw [← hbe]; exact padP_succ _ _ _
        have HQ1 := show Hid (padP KL.data.toList 92 i ++ [UInt8.ofNat (b ^^^ 92)] = padP KL.data.toList 92 (i + 1)) from by unfold Hid; rw [← hbe]; exact padP_succ _ _ _
        have x54 : bits .xor .u8 (b : Int) 54 = ((b ^^^ 54 : Nat) : Int) := xor8 b 54 hb256 (by omega)
        have x92 : bits .xor .u8 (b : Int) 92 = ((b ^^^ 92 : Nat) : Int) := xor8 b 92 hb256 (by omega)
        have l54 : b ^^^ 54 < 256 := Nat.xor_lt_two_pow (n := 8) hb256 (by decide)
        have l92 : b ^^^ 92 < 256 := Nat.xor_lt_two_pow (n := 8) hb256 (by decide)
        have HC1 := show Hid (((b ^^^ 54 : Nat) : Int) = ((UInt8.ofNat (b ^^^ 54)).toNat : Int)) from by unfold Hid; rw [UInt8.toNat_ofNat', Nat.mod_eq_of_lt l54]
        have HC2 := show Hid (((b ^^^ 92 : Nat) : Int) = ((UInt8.ofNat (b ^^^ 92)).toNat : Int)) from by unfold Hid; rw [UInt8.toNat_ofNat', Nat.mod_eq_of_lt l92]
        have hl1 : (padP KL.data.toList 54 i).length ≤ 1000000 := by rw [padP_length]; omega
        have hl2 : (padP KL.data.toList 92 i).length ≤ 1000000 := by rw [padP_length]; omega
        have hz := hb.size
        have HKC := show Hid (i < kz → ∃ bb oo, xk = some ⟨bb, oo, none⟩ ∧ wr.cell? ⟨bb, oo + i, none⟩ = some (.int .u8 (b : Int))) from fun h => by
          obtain ⟨bb, oo, e, _, g⟩ := IsBytes.cellAt (s := KL) (by rw [hKz]; exact hKI.later hb) (i := i) (by rw [hKz]; exact h)
          exact ⟨bb, oo, e, by rw [g, ← hbe, byte_list]; rfl⟩
        have HB0 := show Hid (¬ i < kz → b = 0) from fun h => by
          rw [← hbe]; unfold byL
          rw [List.getElem?_eq_none (by rw [len_eq, hKz]; omega)]
          rfl
        clear hbe
        generalize b ^^^ 54 = b54 at *
        generalize b ^^^ 92 = b92 at *
        by_cases hik : i < kz
        · have hik2 : (i : Int) < (kz : Int) := by omega
          obtain ⟨bb, oo, rfl, gk⟩ := HKC.out hik
          go_upto_region 12 with (at_builtin; go_must (refine wpList_append_twob rfl _ _ rfl wk.heap.size u7 _ rfl hP _ rfl _ HC1 _ HP1 hl1 hz hb 5 1 _ _ _ hQ hap.out ?_; intro v1 w1 ho1 hb1 hq1 hap1))
          have hz1 := hb1.size
          go_wp2_with (at_builtin; go_must (refine wpList_append_twob rfl _ _ rfl wk.heap.size u8 _ rfl hq1 _ rfl _ HC2 _ HQ1 hl2 hz1 hb1 5 1 _ _ _ ho1 hap1.symm ?_; intro v2 w2 ho2 hb2 hp2 hap2))
          go_roundw
          case rel => exact ⟨i + 1, by omega, by go_num, hp2, ho2, hap2.symm, hb2⟩
          case measure => simp [intOf]; omega
        · have hik2 : ¬ (i : Int) < (kz : Int) := by omega
          have hb00 := HB0.out hik
          subst hb00
          have y54 : bits BinOp.xor IntKind.u8 0 54 = (b54 : Int) := x54
          have y92 : bits BinOp.xor IntKind.u8 0 92 = (b92 : Int) := x92
          go_upto_region 12 with (at_builtin; go_must (refine wpList_append_twob rfl _ _ rfl wk.heap.size u7 _ rfl hP _ rfl _ HC1 _ HP1 hl1 hz hb 5 1 _ _ _ hQ hap.out ?_; intro v1 w1 ho1 hb1 hq1 hap1))
          have hz1 := hb1.size
          go_wp2_with (at_builtin; go_must (refine wpList_append_twob rfl _ _ rfl wk.heap.size u8 _ rfl hq1 _ rfl _ HC2 _ HQ1 hl2 hz1 hb1 5 1 _ _ _ ho1 hap1.symm ?_; intro v2 w2 ho2 hb2 hp2 hap2))
          go_roundw
          case rel => exact ⟨i + 1, by omega, by go_num, hp2, ho2, hap2.symm, hb2⟩
          case measure => simp [intOf]; omega
      · have hlt2 : ¬ (i : Int) < 64 := by omega
        obtain rfl : i = 64 := by omega
        have hzb : w.heap.size < wk.heap.size := by have := hbk.size; omega
        have hS0 : wr.drew.cell? ⟨w.heap.size, 0, none⟩ = some (.slice au 8 cu) ∧ wr.drew.cell? ⟨w.heap.size, 1, none⟩ = some (.slice av 64 cv) := ⟨(hb.drew.cell (p := ⟨w.heap.size, 0, none⟩) hzb).trans ((hbk.cell (p := ⟨w.heap.size, 0, none⟩) (show w.heap.size < W0.heap.size by omega)).trans gb0), (hb.drew.cell (p := ⟨w.heap.size, 1, none⟩) hzb).trans ((hbk.cell (p := ⟨w.heap.size, 1, none⟩) (show w.heap.size < W0.heap.size by omega)).trans gb1)⟩
        have hPd := ownsRow_later hP ((Below.refl wr.heap.size wr).drew)
        have hQd := ownsRow_later hQ ((Below.refl wr.heap.size wr).drew)
        have hSd : IsBytes wr.drew (.slice y s.size cy) s := ((hB0.later hbk).later hb).later ((Below.refl wr.heap.size wr).drew)
        have hbd : Below wk.heap.size wk wr.drew := hb.drew
        have hzd := hbd.size
        obtain ⟨R5, hR5e⟩ : ∃ R5, padP KL.data.toList 54 64 ++ s.data.toList = R5 := ⟨_, rfl⟩
        have HR5 := show Hid (padP KL.data.toList 54 64 ++ s.data.toList = R5) from hR5e
        have hR5 : R5.length ≤ 100000 := by rw [← hR5e, List.length_append, padP_length, len_eq]; omega
        have hsz5 : (padP KL.data.toList 54 64).length + s.size ≤ 1000000 := by rw [padP_length]; omega
        obtain ⟨R7, hR7e⟩ : ∃ R7, padP KL.data.toList 92 64 ++ shaL R5 = R7 := ⟨_, rfl⟩
        have HR7 := show Hid (padP KL.data.toList 92 64 ++ (⟨(shaL R5).toArray⟩ : ByteArray).data.toList = R7) from hR7e
        have hR7 : R7.length ≤ 100000 := by rw [← hR7e, List.length_append, padP_length, shaL_length]; omega
        have hsz7 : (padP KL.data.toList 92 64).length + (⟨(shaL R5).toArray⟩ : ByteArray).size ≤ 1000000 := by rw [padP_length, size_of_list, shaL_length]; omega
        have HHM := show Hid (hmacL k.data.toList s.data.toList = shaL R7) from by unfold Hid hmacL; rw [← hR7e, ← hR5e, hKe, padP_64, padP_64]
        have HRI := show Hid (∀ j, u7.ownBlock = some j → ¬ (j = w.heap.size)) from fun j hj => by have := own_ge hP j hj; omega
        have HRO := show Hid (∀ j, u8.ownBlock = some j → ¬ (j = w.heap.size)) from fun j hj => by have := own_ge hQ j hj; omega
        have HRB := show Hid (∀ j, u7.ownBlock = some j → wk.heap.size ≤ j) from own_ge hP
        have HRQ := show Hid (∀ j, u8.ownBlock = some j → wk.heap.size ≤ j) from own_ge hQ
        have HAQ := show Hid (u8.ownBlock = none ∨ u8.ownBlock ≠ u7.ownBlock) from by
          rcases hu : u8.ownBlock with _ | j
          · exact .inl rfl
          · exact .inr (fun h => hap.out j h.symm hu)
        have HUV := show Hid (∀ u, Below wk.heap.size wk u → IsN .u32 u (.slice au 8 cu) beginS.l ∧ IsN .u32 u (.slice av 64 cv) roundK) from fun u hbu => ⟨(hU0.later hbk).later hbu, (hV0.later hbk).later hbu⟩
        have HBW := show Hid (Below w.heap.size w wk) from hb0.trans (hbk.mono hb0.size)
        have hz0' := hz0
        clear hR5e hR7e hP hQ hKe hKI hU0 hV0 hU hV hKB hB hB0 hK0 gb0 gb1 hNb hb0
        go_wp2_with fail
        refine until_region (S := fun w' => w'.cell? ⟨w.heap.size, 0, none⟩ = some (.slice au 8 cu) ∧ w'.cell? ⟨w.heap.size, 1, none⟩ = some (.slice av 64 cv)) (z := 9) (by kernel_rfl) (hS0) (fun hS => ?_)
        replace hS : wr.drew.cell? ⟨w.heap.size, 0, none⟩ = some (.slice au 8 cu) ∧ wr.drew.cell? ⟨w.heap.size, 1, none⟩ = some (.slice av 64 cv) := hS
        refine until_take (i := 0) (oi := { dst := some 39, op := Go.Op.load 30 (Go.Operand.tmp 3), type := 30, pos := "ref.go:186", after := #[], guard := none }) (v := ?v1) rfl (by kernel_rfl) (by kernel_rfl) (by kernel_rfl) (by kernel_rfl) (fun _ _ _ h => h) (Or.inl ⟨by rfl, ?h1⟩) hS ?r1
        case h1 =>
          intro wS hSw
          replace hSw : wS.cell? ⟨w.heap.size, 0, none⟩ = some (.slice au 8 cu) ∧ wS.cell? ⟨w.heap.size, 1, none⟩ = some (.slice av 64 cv) := hSw
          obtain ⟨h0, h1⟩ := hSw
          go_simp
          try with_reducible rfl
        simp only [Act.put, List.setIfInBounds_toArray, List.set_cons_zero, List.set_cons_succ]
        refine until_take (i := 1) (oi := { dst := some 40, op := Go.Op.move (Go.Operand.tmp 8), type := 23, pos := "ref.go:186", after := #[], guard := none }) (v := ?v2) rfl (by kernel_rfl) (by kernel_rfl) (by kernel_rfl) (by kernel_rfl) (fun _ _ _ h => h) (Or.inl ⟨by rfl, ?h2⟩) hS ?r2
        case h2 =>
          intro wS hSw
          replace hSw : wS.cell? ⟨w.heap.size, 0, none⟩ = some (.slice au 8 cu) ∧ wS.cell? ⟨w.heap.size, 1, none⟩ = some (.slice av 64 cv) := hSw
          obtain ⟨h0, h1⟩ := hSw
          go_simp
          try with_reducible rfl
        simp only [Act.put, List.setIfInBounds_toArray, List.set_cons_zero, List.set_cons_succ]
        refine until_take (i := 2) (oi := { dst := some 41, op := Go.Op.load 30 (Go.Operand.tmp 3), type := 30, pos := "ref.go:186", after := #[], guard := none }) (v := ?v3) rfl (by kernel_rfl) (by kernel_rfl) (by kernel_rfl) (by kernel_rfl) (fun _ _ _ h => h) (Or.inl ⟨by rfl, ?h3⟩) hS ?r3
        case h3 =>
          intro wS hSw
          replace hSw : wS.cell? ⟨w.heap.size, 0, none⟩ = some (.slice au 8 cu) ∧ wS.cell? ⟨w.heap.size, 1, none⟩ = some (.slice av 64 cv) := hSw
          obtain ⟨h0, h1⟩ := hSw
          go_simp
          try with_reducible rfl
        simp only [Act.put, List.setIfInBounds_toArray, List.set_cons_zero, List.set_cons_succ]
        refine until_take (i := 3) (oi := { dst := some 42, op := Go.Op.move (Go.Operand.tmp 7), type := 23, pos := "ref.go:186", after := #[], guard := none }) (v := ?v4) rfl (by kernel_rfl) (by kernel_rfl) (by kernel_rfl) (by kernel_rfl) (fun _ _ _ h => h) (Or.inl ⟨by rfl, ?h4⟩) hS ?r4
        case h4 =>
          intro wS hSw
          replace hSw : wS.cell? ⟨w.heap.size, 0, none⟩ = some (.slice au 8 cu) ∧ wS.cell? ⟨w.heap.size, 1, none⟩ = some (.slice av 64 cv) := hSw
          obtain ⟨h0, h1⟩ := hSw
          go_simp
          try with_reducible rfl
        simp only [Act.put, List.setIfInBounds_toArray, List.set_cons_zero, List.set_cons_succ]
        refine until_take (i := 4) (oi := { dst := some 43, op := Go.Op.move (Go.Operand.tmp 2), type := 23, pos := "ref.go:186", after := #[], guard := none }) (v := ?v5) rfl (by kernel_rfl) (by kernel_rfl) (by kernel_rfl) (by kernel_rfl) (fun _ _ _ h => h) (Or.inl ⟨by rfl, ?h5⟩) hS ?r5
        case h5 =>
          intro wS hSw
          replace hSw : wS.cell? ⟨w.heap.size, 0, none⟩ = some (.slice au 8 cu) ∧ wS.cell? ⟨w.heap.size, 1, none⟩ = some (.slice av 64 cv) := hSw
          obtain ⟨h0, h1⟩ := hSw
          go_simp
          try with_reducible rfl
        simp only [Act.put, List.setIfInBounds_toArray, List.set_cons_zero, List.set_cons_succ]
        refine until_one (i := 5) (oi := { dst := some 44, op := Go.Op.call { callee := Go.Callee.builtin Go.Builtin.append, args := #[Go.Operand.tmp 42, Go.Operand.tmp 43], argTypes := #[23, 23] }, type := 23, pos := "ref.go:186", after := #[{ on := 3, ground := Go.Ground.data }, { on := 4, ground := Go.Ground.data }], guard := none }) rfl (by kernel_rfl) (fun K hK => ?_)
        refine step_append_grown rfl (.tmp 42) (.tmp 43) rfl wk.heap.size _ _ rfl hPd _ s rfl hSd (by omega) hzd R5 HR5 ?_
        intro a5 c5 w5 ho5 hg5
        have hSb : w5.cell? ⟨w.heap.size, 0, none⟩ = some (.slice au 8 cu) ∧ w5.cell? ⟨w.heap.size, 1, none⟩ = some (.slice av 64 cv) := ⟨hg5.cell hS.1 (fun h => HRI.out _ h.symm rfl), hg5.cell hS.2 (fun h => HRI.out _ h.symm rfl)⟩
        have hQ5 := hQd.kept hg5 (HAQ.out)
        have hb5 : Below wk.heap.size wk w5 := hbd.grown hg5 hbd.size HRB.out
        have hz5 := hb5.size
        have hI5 := own_text' ho5
        refine hK.out _ _ (fun _ => hSb) (fun hS' => ?_)
        replace hS := hS' (by decide)
        clear hS'
        try dsimp only at hS
        clear hK K
        refine until_one (i := 6) (oi := { dst := some 45, op := Go.Op.call { callee := Go.Callee.value (Go.Operand.func 12), args := #[Go.Operand.tmp 41, Go.Operand.tmp 44], argTypes := #[30, 23] }, type := 23, pos := "ref.go:186", after := #[{ on := 2, ground := Go.Ground.data }, { on := 5, ground := Go.Ground.data }, { on := 5, ground := Go.Ground.chain }], guard := none }) rfl (by kernel_rfl) (fun K hK => ?_)
        go_simp
        go_wp2_with fail
        refine (vSum_any au av a5 cu cv c5 ⟨R5.toArray⟩ w5 (HUV.out w5 hb5).1 (HUV.out w5 hb5).2 hI5 (by rw [size_of_list]; exact hR5)).mono ?_
        rintro e w6 ⟨⟨a6, c6, rfl, ho6⟩, hb6⟩
        go_simp
        have hb56 := hb5.trans (hb6.mono hb5.size)
        have hSc : w6.cell? ⟨w.heap.size, 0, none⟩ = some (.slice au 8 cu) ∧ w6.cell? ⟨w.heap.size, 1, none⟩ = some (.slice av 64 cv) := ⟨(hb6.cell (p := ⟨w.heap.size, 0, none⟩) (show w.heap.size < w5.heap.size by omega)).trans hSb.1, (hb6.cell (p := ⟨w.heap.size, 1, none⟩) (show w.heap.size < w5.heap.size by omega)).trans hSb.2⟩
        have hQ6 := ownsRow_later hQ5 hb6
        have hz6 := hb56.size
        have hI6 : IsBytes w6 (.slice a6 32 c6) ⟨(shaL R5).toArray⟩ := own_text' (by rw [shaL_length]; exact ho6)
        refine hK.out _ _ (fun _ => hSc) (fun hS' => ?_)
        replace hS := hS' (by decide)
        clear hS'
        try dsimp only at hS
        clear hK K
        refine until_one (i := 7) (oi := { dst := some 46, op := Go.Op.call { callee := Go.Callee.builtin Go.Builtin.append, args := #[Go.Operand.tmp 40, Go.Operand.tmp 45], argTypes := #[23, 23] }, type := 23, pos := "ref.go:186", after := #[{ on := 1, ground := Go.Ground.data }, { on := 6, ground := Go.Ground.data }, { on := 6, ground := Go.Ground.chain }], guard := none }) rfl (by kernel_rfl) (fun K hK => ?_)
        refine step_append_grown rfl (.tmp 40) (.tmp 45) rfl wk.heap.size _ _ rfl hQ6 _ ⟨(shaL R5).toArray⟩ rfl hI6 (by omega) hz6 R7 HR7 ?_
        intro a7 c7 w7 ho7 hg7
        have hb7 : Below wk.heap.size wk w7 := hb56.grown hg7 hb56.size HRQ.out
        have hSe : w7.cell? ⟨w.heap.size, 0, none⟩ = some (.slice au 8 cu) ∧ w7.cell? ⟨w.heap.size, 1, none⟩ = some (.slice av 64 cv) := ⟨hg7.cell hSc.1 (fun h => HRO.out _ h.symm rfl), hg7.cell hSc.2 (fun h => HRO.out _ h.symm rfl)⟩
        have hI7 := own_text' ho7
        have hz7 := hb7.size
        refine hK.out _ _ (fun _ => hSe) (fun hS' => ?_)
        replace hS := hS' (by decide)
        clear hS'
        try dsimp only at hS
        clear hK K
        refine until_one (i := 8) (oi := { dst := some 47, op := Go.Op.call { callee := Go.Callee.value (Go.Operand.func 12), args := #[Go.Operand.tmp 39, Go.Operand.tmp 46], argTypes := #[30, 23] }, type := 23, pos := "ref.go:186", after := #[{ on := 0, ground := Go.Ground.data }, { on := 7, ground := Go.Ground.data }, { on := 7, ground := Go.Ground.chain }], guard := none }) rfl (by kernel_rfl) (fun K hK => ?_)
        go_simp
        go_wp2_with fail
        refine (vSum_any au av a7 cu cv c7 ⟨R7.toArray⟩ w7 (HUV.out w7 hb7).1 (HUV.out w7 hb7).2 hI7 (by rw [size_of_list]; exact hR7)).mono ?_
        rintro e w8 ⟨⟨a8, c8, rfl, ho8⟩, hb8⟩
        go_simp
        have hSf : w8.cell? ⟨w.heap.size, 0, none⟩ = some (.slice au 8 cu) ∧ w8.cell? ⟨w.heap.size, 1, none⟩ = some (.slice av 64 cv) := ⟨(hb8.cell (p := ⟨w.heap.size, 0, none⟩) (show w.heap.size < w7.heap.size by omega)).trans hSe.1, (hb8.cell (p := ⟨w.heap.size, 1, none⟩) (show w.heap.size < w7.heap.size by omega)).trans hSe.2⟩
        have hb78 := hb7.trans (hb8.mono hb7.size)
        refine hK.out _ _ (fun _ => hSf) (fun hS' => ?_)
        replace hS := hS' (by decide)
        clear hS'
        try dsimp only at hS
        clear hK K
        refine until_one (i := 9) (oi := { dst := some 6, op := Go.Op.assign (Go.Operand.tmp 47), type := 23, pos := "ref.go:186", after := #[{ on := 8, ground := Go.Ground.data }, { on := 8, ground := Go.Ground.chain }, { on := 0, ground := Go.Ground.phase }, { on := 1, ground := Go.Ground.phase }, { on := 2, ground := Go.Ground.phase }, { on := 3, ground := Go.Ground.phase }, { on := 4, ground := Go.Ground.phase }, { on := 5, ground := Go.Ground.phase }, { on := 6, ground := Go.Ground.phase }, { on := 7, ground := Go.Ground.phase }, { on := 8, ground := Go.Ground.phase }], guard := none }) rfl (by kernel_rfl) (fun K hK => ?_)
        go_simp
        refine hK.out _ _ (fun h => absurd rfl h) (fun _ => ?_)
        clear hK K
        refine until_done (by kernel_rfl) ?_ _
        have hO8 := own_monoN ho8 (b := w.heap.size) (by omega)
        have hbF : Below w.heap.size w w8 := HBW.out.trans (hb78.mono HBW.out.size)
        clear hSf hSe hSc hSb
        go_wp2_with fail
        go_ret
        exact ⟨⟨_, _, rfl, by rw [HHM.out]; exact hO8⟩, hbF⟩
  · have h642 : (64 : Int) < (k.size : Int) := by omega
    have hkey : keyB k.data.toList = shaL k.data.toList := by unfold keyB; rw [if_pos (by rw [len_eq]; omega)]
    go_enter Tryd.func14, Tryd.ntmps14
    go_wp2_with fail
    refine (vSum_any au av x cu cv cx k W0 hU0 hV0 hK0 hk).mono ?_
    rintro e wk ⟨⟨xk, ck, rfl, hok⟩, hbk⟩
    obtain ⟨KL, hKL⟩ : ∃ KL : ByteArray, KL = ⟨(shaL k.data.toList).toArray⟩ := ⟨_, rfl⟩
    have hKI : IsBytes wk (.slice xk 32 ck) KL := by rw [hKL]; exact own_text' (by rw [shaL_length]; exact hok)
    have hKe : KL.data.toList = keyB k.data.toList := by rw [hkey, hKL]
    have hKz : KL.size = 32 := by rw [hKL, size_of_list]; exact shaL_length _
    clear hkey hKL hW0 hok h642
    go_wp2_with fail
    have HIN := show Hid (wk.ownsRow wk.heap.size 5 1 (.slice none 0 0) 0 []) from ⟨rfl, .inl ⟨rfl, rfl⟩⟩
    go_loopw [7, 8, 9] (fun p q t wr => ∃ (i : Nat), i ≤ 64 ∧ t = .int .i64 (i : Int) ∧ wr.ownsRow wk.heap.size 5 1 p (padP KL.data.toList 54 i).length (Lib.byteCells (padP KL.data.toList 54 i)) ∧ wr.ownsRow wk.heap.size 5 1 q (padP KL.data.toList 92 i).length (Lib.byteCells (padP KL.data.toList 92 i)) ∧ Hid (Apart p q) ∧ Below wk.heap.size wk wr) (fun _ _ t _ => 64 - (intOf t).toNat)
    case atStart => exact ⟨0, by omega, rfl, ⟨rfl, .inl ⟨rfl, rfl⟩⟩, ⟨rfl, .inl ⟨rfl, rfl⟩⟩, apart_nil _, Below.refl _ _⟩
    case round =>
      obtain ⟨i, hi, rfl, hP, hQ, hap, hb⟩ := hrel
      by_cases hlt : i < 64
      · have hlt2 : (i : Int) < 64 := by omega
        obtain ⟨b, hbe⟩ : ∃ b, byL KL.data.toList i = b := ⟨_, rfl⟩
        have hb256 := byL_lt KL.data.toList i
        rw [hbe] at hb256
        have HP1 := show Hid (padP KL.data.toList 54 i ++ [UInt8.ofNat (b ^^^ 54)] = padP KL.data.toList 54 (i + 1)) from by unfold Hid; rw [← hbe]; exact padP_succ _ _ _
        have HQ1 := show Hid (padP KL.data.toList 92 i ++ [UInt8.ofNat (b ^^^ 92)] = padP KL.data.toList 92 (i + 1)) from by unfold Hid; rw [← hbe]; exact padP_succ _ _ _
        have x54 : bits .xor .u8 (b : Int) 54 = ((b ^^^ 54 : Nat) : Int) := xor8 b 54 hb256 (by omega)
        have x92 : bits .xor .u8 (b : Int) 92 = ((b ^^^ 92 : Nat) : Int) := xor8 b 92 hb256 (by omega)
        have l54 : b ^^^ 54 < 256 := Nat.xor_lt_two_pow (n := 8) hb256 (by decide)
        have l92 : b ^^^ 92 < 256 := Nat.xor_lt_two_pow (n := 8) hb256 (by decide)
        have HC1 := show Hid (((b ^^^ 54 : Nat) : Int) = ((UInt8.ofNat (b ^^^ 54)).toNat : Int)) from by unfold Hid; rw [UInt8.toNat_ofNat', Nat.mod_eq_of_lt l54]
        have HC2 := show Hid (((b ^^^ 92 : Nat) : Int) = ((UInt8.ofNat (b ^^^ 92)).toNat : Int)) from by unfold Hid; rw [UInt8.toNat_ofNat', Nat.mod_eq_of_lt l92]
        have hl1 : (padP KL.data.toList 54 i).length ≤ 1000000 := by rw [padP_length]; omega
        have hl2 : (padP KL.data.toList 92 i).length ≤ 1000000 := by rw [padP_length]; omega
        have hz := hb.size
        have HKC := show Hid (i < 32 → ∃ bb oo, xk = some ⟨bb, oo, none⟩ ∧ wr.cell? ⟨bb, oo + i, none⟩ = some (.int .u8 (b : Int))) from fun h => by
          obtain ⟨bb, oo, e, _, g⟩ := IsBytes.cellAt (s := KL) (by rw [hKz]; exact hKI.later hb) (i := i) (by rw [hKz]; exact h)
          exact ⟨bb, oo, e, by rw [g, ← hbe, byte_list]; rfl⟩
        have HB0 := show Hid (¬ i < 32 → b = 0) from fun h => by
          rw [← hbe]; unfold byL
          rw [List.getElem?_eq_none (by rw [len_eq, hKz]; omega)]
          rfl
        clear hbe
        generalize b ^^^ 54 = b54 at *
        generalize b ^^^ 92 = b92 at *
        by_cases hik : i < 32
        · have hik2 : (i : Int) < (32 : Int) := by omega
          obtain ⟨bb, oo, rfl, gk⟩ := HKC.out hik
          go_upto_region 12 with (at_builtin; go_must (refine wpList_append_twob rfl _ _ rfl wk.heap.size u7 _ rfl hP _ rfl _ HC1 _ HP1 hl1 hz hb 5 1 _ _ _ hQ hap.out ?_; intro v1 w1 ho1 hb1 hq1 hap1))
          have hz1 := hb1.size
          go_wp2_with (at_builtin; go_must (refine wpList_append_twob rfl _ _ rfl wk.heap.size u8 _ rfl hq1 _ rfl _ HC2 _ HQ1 hl2 hz1 hb1 5 1 _ _ _ ho1 hap1.symm ?_; intro v2 w2 ho2 hb2 hp2 hap2))
          go_roundw
          case rel => exact ⟨i + 1, by omega, by go_num, hp2, ho2, hap2.symm, hb2⟩
          case measure => simp [intOf]; omega
        · have hik2 : ¬ (i : Int) < (32 : Int) := by omega
          have hb00 := HB0.out hik
          subst hb00
          have y54 : bits BinOp.xor IntKind.u8 0 54 = (b54 : Int) := x54
          have y92 : bits BinOp.xor IntKind.u8 0 92 = (b92 : Int) := x92
          go_upto_region 12 with (at_builtin; go_must (refine wpList_append_twob rfl _ _ rfl wk.heap.size u7 _ rfl hP _ rfl _ HC1 _ HP1 hl1 hz hb 5 1 _ _ _ hQ hap.out ?_; intro v1 w1 ho1 hb1 hq1 hap1))
          have hz1 := hb1.size
          go_wp2_with (at_builtin; go_must (refine wpList_append_twob rfl _ _ rfl wk.heap.size u8 _ rfl hq1 _ rfl _ HC2 _ HQ1 hl2 hz1 hb1 5 1 _ _ _ ho1 hap1.symm ?_; intro v2 w2 ho2 hb2 hp2 hap2))
          go_roundw
          case rel => exact ⟨i + 1, by omega, by go_num, hp2, ho2, hap2.symm, hb2⟩
          case measure => simp [intOf]; omega
      · have hlt2 : ¬ (i : Int) < 64 := by omega
        obtain rfl : i = 64 := by omega
        have hzb : w.heap.size < wk.heap.size := by have := hbk.size; omega
        have hS0 : wr.drew.cell? ⟨w.heap.size, 0, none⟩ = some (.slice au 8 cu) ∧ wr.drew.cell? ⟨w.heap.size, 1, none⟩ = some (.slice av 64 cv) := ⟨(hb.drew.cell (p := ⟨w.heap.size, 0, none⟩) hzb).trans ((hbk.cell (p := ⟨w.heap.size, 0, none⟩) (show w.heap.size < W0.heap.size by omega)).trans gb0), (hb.drew.cell (p := ⟨w.heap.size, 1, none⟩) hzb).trans ((hbk.cell (p := ⟨w.heap.size, 1, none⟩) (show w.heap.size < W0.heap.size by omega)).trans gb1)⟩
        have hPd := ownsRow_later hP ((Below.refl wr.heap.size wr).drew)
        have hQd := ownsRow_later hQ ((Below.refl wr.heap.size wr).drew)
        have hSd : IsBytes wr.drew (.slice y s.size cy) s := ((hB0.later hbk).later hb).later ((Below.refl wr.heap.size wr).drew)
        have hbd : Below wk.heap.size wk wr.drew := hb.drew
        have hzd := hbd.size
        obtain ⟨R5, hR5e⟩ : ∃ R5, padP KL.data.toList 54 64 ++ s.data.toList = R5 := ⟨_, rfl⟩
        have HR5 := show Hid (padP KL.data.toList 54 64 ++ s.data.toList = R5) from hR5e
        have hR5 : R5.length ≤ 100000 := by rw [← hR5e, List.length_append, padP_length, len_eq]; omega
        have hsz5 : (padP KL.data.toList 54 64).length + s.size ≤ 1000000 := by rw [padP_length]; omega
        obtain ⟨R7, hR7e⟩ : ∃ R7, padP KL.data.toList 92 64 ++ shaL R5 = R7 := ⟨_, rfl⟩
        have HR7 := show Hid (padP KL.data.toList 92 64 ++ (⟨(shaL R5).toArray⟩ : ByteArray).data.toList = R7) from hR7e
        have hR7 : R7.length ≤ 100000 := by rw [← hR7e, List.length_append, padP_length, shaL_length]; omega
        have hsz7 : (padP KL.data.toList 92 64).length + (⟨(shaL R5).toArray⟩ : ByteArray).size ≤ 1000000 := by rw [padP_length, size_of_list, shaL_length]; omega
        have HHM := show Hid (hmacL k.data.toList s.data.toList = shaL R7) from by unfold Hid hmacL; rw [← hR7e, ← hR5e, hKe, padP_64, padP_64]
        have HRI := show Hid (∀ j, u7.ownBlock = some j → ¬ (j = w.heap.size)) from fun j hj => by have := own_ge hP j hj; omega
        have HRO := show Hid (∀ j, u8.ownBlock = some j → ¬ (j = w.heap.size)) from fun j hj => by have := own_ge hQ j hj; omega
        have HRB := show Hid (∀ j, u7.ownBlock = some j → wk.heap.size ≤ j) from own_ge hP
        have HRQ := show Hid (∀ j, u8.ownBlock = some j → wk.heap.size ≤ j) from own_ge hQ
        have HAQ := show Hid (u8.ownBlock = none ∨ u8.ownBlock ≠ u7.ownBlock) from by
          rcases hu : u8.ownBlock with _ | j
          · exact .inl rfl
          · exact .inr (fun h => hap.out j h.symm hu)
        have HUV := show Hid (∀ u, Below wk.heap.size wk u → IsN .u32 u (.slice au 8 cu) beginS.l ∧ IsN .u32 u (.slice av 64 cv) roundK) from fun u hbu => ⟨(hU0.later hbk).later hbu, (hV0.later hbk).later hbu⟩
        have HBW := show Hid (Below w.heap.size w wk) from hb0.trans (hbk.mono hb0.size)
        have hz0' := hz0
        clear hR5e hR7e hP hQ hKe hKI hU0 hV0 hU hV hKB hB hB0 hK0 gb0 gb1 hNb hb0
        go_wp2_with fail
        refine until_region (S := fun w' => w'.cell? ⟨w.heap.size, 0, none⟩ = some (.slice au 8 cu) ∧ w'.cell? ⟨w.heap.size, 1, none⟩ = some (.slice av 64 cv)) (z := 9) (by kernel_rfl) (hS0) (fun hS => ?_)
        replace hS : wr.drew.cell? ⟨w.heap.size, 0, none⟩ = some (.slice au 8 cu) ∧ wr.drew.cell? ⟨w.heap.size, 1, none⟩ = some (.slice av 64 cv) := hS
        refine until_take (i := 0) (oi := { dst := some 39, op := Go.Op.load 30 (Go.Operand.tmp 3), type := 30, pos := "ref.go:186", after := #[], guard := none }) (v := ?vb1) rfl (by kernel_rfl) (by kernel_rfl) (by kernel_rfl) (by kernel_rfl) (fun _ _ _ h => h) (Or.inl ⟨by rfl, ?hb1⟩) hS ?rb1
        case hb1 =>
          intro wS hSw
          replace hSw : wS.cell? ⟨w.heap.size, 0, none⟩ = some (.slice au 8 cu) ∧ wS.cell? ⟨w.heap.size, 1, none⟩ = some (.slice av 64 cv) := hSw
          obtain ⟨h0, h1⟩ := hSw
          go_simp
          try with_reducible rfl
        simp only [Act.put, List.setIfInBounds_toArray, List.set_cons_zero, List.set_cons_succ]
        refine until_take (i := 1) (oi := { dst := some 40, op := Go.Op.move (Go.Operand.tmp 8), type := 23, pos := "ref.go:186", after := #[], guard := none }) (v := ?vb2) rfl (by kernel_rfl) (by kernel_rfl) (by kernel_rfl) (by kernel_rfl) (fun _ _ _ h => h) (Or.inl ⟨by rfl, ?hb2⟩) hS ?rb2
        case hb2 =>
          intro wS hSw
          replace hSw : wS.cell? ⟨w.heap.size, 0, none⟩ = some (.slice au 8 cu) ∧ wS.cell? ⟨w.heap.size, 1, none⟩ = some (.slice av 64 cv) := hSw
          obtain ⟨h0, h1⟩ := hSw
          go_simp
          try with_reducible rfl
        simp only [Act.put, List.setIfInBounds_toArray, List.set_cons_zero, List.set_cons_succ]
        refine until_take (i := 2) (oi := { dst := some 41, op := Go.Op.load 30 (Go.Operand.tmp 3), type := 30, pos := "ref.go:186", after := #[], guard := none }) (v := ?vb3) rfl (by kernel_rfl) (by kernel_rfl) (by kernel_rfl) (by kernel_rfl) (fun _ _ _ h => h) (Or.inl ⟨by rfl, ?hb3⟩) hS ?rb3
        case hb3 =>
          intro wS hSw
          replace hSw : wS.cell? ⟨w.heap.size, 0, none⟩ = some (.slice au 8 cu) ∧ wS.cell? ⟨w.heap.size, 1, none⟩ = some (.slice av 64 cv) := hSw
          obtain ⟨h0, h1⟩ := hSw
          go_simp
          try with_reducible rfl
        simp only [Act.put, List.setIfInBounds_toArray, List.set_cons_zero, List.set_cons_succ]
        refine until_take (i := 3) (oi := { dst := some 42, op := Go.Op.move (Go.Operand.tmp 7), type := 23, pos := "ref.go:186", after := #[], guard := none }) (v := ?vb4) rfl (by kernel_rfl) (by kernel_rfl) (by kernel_rfl) (by kernel_rfl) (fun _ _ _ h => h) (Or.inl ⟨by rfl, ?hb4⟩) hS ?rb4
        case hb4 =>
          intro wS hSw
          replace hSw : wS.cell? ⟨w.heap.size, 0, none⟩ = some (.slice au 8 cu) ∧ wS.cell? ⟨w.heap.size, 1, none⟩ = some (.slice av 64 cv) := hSw
          obtain ⟨h0, h1⟩ := hSw
          go_simp
          try with_reducible rfl
        simp only [Act.put, List.setIfInBounds_toArray, List.set_cons_zero, List.set_cons_succ]
        refine until_take (i := 4) (oi := { dst := some 43, op := Go.Op.move (Go.Operand.tmp 2), type := 23, pos := "ref.go:186", after := #[], guard := none }) (v := ?vb5) rfl (by kernel_rfl) (by kernel_rfl) (by kernel_rfl) (by kernel_rfl) (fun _ _ _ h => h) (Or.inl ⟨by rfl, ?hb5⟩) hS ?rb5
        case hb5 =>
          intro wS hSw
          replace hSw : wS.cell? ⟨w.heap.size, 0, none⟩ = some (.slice au 8 cu) ∧ wS.cell? ⟨w.heap.size, 1, none⟩ = some (.slice av 64 cv) := hSw
          obtain ⟨h0, h1⟩ := hSw
          go_simp
          try with_reducible rfl
        simp only [Act.put, List.setIfInBounds_toArray, List.set_cons_zero, List.set_cons_succ]
        refine until_one (i := 5) (oi := { dst := some 44, op := Go.Op.call { callee := Go.Callee.builtin Go.Builtin.append, args := #[Go.Operand.tmp 42, Go.Operand.tmp 43], argTypes := #[23, 23] }, type := 23, pos := "ref.go:186", after := #[{ on := 3, ground := Go.Ground.data }, { on := 4, ground := Go.Ground.data }], guard := none }) rfl (by kernel_rfl) (fun K hK => ?_)
        refine step_append_grown rfl (.tmp 42) (.tmp 43) rfl wk.heap.size _ _ rfl hPd _ s rfl hSd (by omega) hzd R5 HR5 ?_
        intro a5 c5 w5 ho5 hg5
        have hSb : w5.cell? ⟨w.heap.size, 0, none⟩ = some (.slice au 8 cu) ∧ w5.cell? ⟨w.heap.size, 1, none⟩ = some (.slice av 64 cv) := ⟨hg5.cell hS.1 (fun h => HRI.out _ h.symm rfl), hg5.cell hS.2 (fun h => HRI.out _ h.symm rfl)⟩
        have hQ5 := hQd.kept hg5 (HAQ.out)
        have hb5 : Below wk.heap.size wk w5 := hbd.grown hg5 hbd.size HRB.out
        have hz5 := hb5.size
        have hI5 := own_text' ho5
        refine hK.out _ _ (fun _ => hSb) (fun hS' => ?_)
        replace hS := hS' (by decide)
        clear hS'
        try dsimp only at hS
        clear hK K
        refine until_one (i := 6) (oi := { dst := some 45, op := Go.Op.call { callee := Go.Callee.value (Go.Operand.func 12), args := #[Go.Operand.tmp 41, Go.Operand.tmp 44], argTypes := #[30, 23] }, type := 23, pos := "ref.go:186", after := #[{ on := 2, ground := Go.Ground.data }, { on := 5, ground := Go.Ground.data }, { on := 5, ground := Go.Ground.chain }], guard := none }) rfl (by kernel_rfl) (fun K hK => ?_)
        go_simp
        go_wp2_with fail
        refine (vSum_any au av a5 cu cv c5 ⟨R5.toArray⟩ w5 (HUV.out w5 hb5).1 (HUV.out w5 hb5).2 hI5 (by rw [size_of_list]; exact hR5)).mono ?_
        rintro e w6 ⟨⟨a6, c6, rfl, ho6⟩, hb6⟩
        go_simp
        have hb56 := hb5.trans (hb6.mono hb5.size)
        have hSc : w6.cell? ⟨w.heap.size, 0, none⟩ = some (.slice au 8 cu) ∧ w6.cell? ⟨w.heap.size, 1, none⟩ = some (.slice av 64 cv) := ⟨(hb6.cell (p := ⟨w.heap.size, 0, none⟩) (show w.heap.size < w5.heap.size by omega)).trans hSb.1, (hb6.cell (p := ⟨w.heap.size, 1, none⟩) (show w.heap.size < w5.heap.size by omega)).trans hSb.2⟩
        have hQ6 := ownsRow_later hQ5 hb6
        have hz6 := hb56.size
        have hI6 : IsBytes w6 (.slice a6 32 c6) ⟨(shaL R5).toArray⟩ := own_text' (by rw [shaL_length]; exact ho6)
        refine hK.out _ _ (fun _ => hSc) (fun hS' => ?_)
        replace hS := hS' (by decide)
        clear hS'
        try dsimp only at hS
        clear hK K
        refine until_one (i := 7) (oi := { dst := some 46, op := Go.Op.call { callee := Go.Callee.builtin Go.Builtin.append, args := #[Go.Operand.tmp 40, Go.Operand.tmp 45], argTypes := #[23, 23] }, type := 23, pos := "ref.go:186", after := #[{ on := 1, ground := Go.Ground.data }, { on := 6, ground := Go.Ground.data }, { on := 6, ground := Go.Ground.chain }], guard := none }) rfl (by kernel_rfl) (fun K hK => ?_)
        refine step_append_grown rfl (.tmp 40) (.tmp 45) rfl wk.heap.size _ _ rfl hQ6 _ ⟨(shaL R5).toArray⟩ rfl hI6 (by omega) hz6 R7 HR7 ?_
        intro a7 c7 w7 ho7 hg7
        have hb7 : Below wk.heap.size wk w7 := hb56.grown hg7 hb56.size HRQ.out
        have hSe : w7.cell? ⟨w.heap.size, 0, none⟩ = some (.slice au 8 cu) ∧ w7.cell? ⟨w.heap.size, 1, none⟩ = some (.slice av 64 cv) := ⟨hg7.cell hSc.1 (fun h => HRO.out _ h.symm rfl), hg7.cell hSc.2 (fun h => HRO.out _ h.symm rfl)⟩
        have hI7 := own_text' ho7
        have hz7 := hb7.size
        refine hK.out _ _ (fun _ => hSe) (fun hS' => ?_)
        replace hS := hS' (by decide)
        clear hS'
        try dsimp only at hS
        clear hK K
        refine until_one (i := 8) (oi := { dst := some 47, op := Go.Op.call { callee := Go.Callee.value (Go.Operand.func 12), args := #[Go.Operand.tmp 39, Go.Operand.tmp 46], argTypes := #[30, 23] }, type := 23, pos := "ref.go:186", after := #[{ on := 0, ground := Go.Ground.data }, { on := 7, ground := Go.Ground.data }, { on := 7, ground := Go.Ground.chain }], guard := none }) rfl (by kernel_rfl) (fun K hK => ?_)
        go_simp
        go_wp2_with fail
        refine (vSum_any au av a7 cu cv c7 ⟨R7.toArray⟩ w7 (HUV.out w7 hb7).1 (HUV.out w7 hb7).2 hI7 (by rw [size_of_list]; exact hR7)).mono ?_
        rintro e w8 ⟨⟨a8, c8, rfl, ho8⟩, hb8⟩
        go_simp
        have hSf : w8.cell? ⟨w.heap.size, 0, none⟩ = some (.slice au 8 cu) ∧ w8.cell? ⟨w.heap.size, 1, none⟩ = some (.slice av 64 cv) := ⟨(hb8.cell (p := ⟨w.heap.size, 0, none⟩) (show w.heap.size < w7.heap.size by omega)).trans hSe.1, (hb8.cell (p := ⟨w.heap.size, 1, none⟩) (show w.heap.size < w7.heap.size by omega)).trans hSe.2⟩
        have hb78 := hb7.trans (hb8.mono hb7.size)
        refine hK.out _ _ (fun _ => hSf) (fun hS' => ?_)
        replace hS := hS' (by decide)
        clear hS'
        try dsimp only at hS
        clear hK K
        refine until_one (i := 9) (oi := { dst := some 6, op := Go.Op.assign (Go.Operand.tmp 47), type := 23, pos := "ref.go:186", after := #[{ on := 8, ground := Go.Ground.data }, { on := 8, ground := Go.Ground.chain }, { on := 0, ground := Go.Ground.phase }, { on := 1, ground := Go.Ground.phase }, { on := 2, ground := Go.Ground.phase }, { on := 3, ground := Go.Ground.phase }, { on := 4, ground := Go.Ground.phase }, { on := 5, ground := Go.Ground.phase }, { on := 6, ground := Go.Ground.phase }, { on := 7, ground := Go.Ground.phase }, { on := 8, ground := Go.Ground.phase }], guard := none }) rfl (by kernel_rfl) (fun K hK => ?_)
        go_simp
        refine hK.out _ _ (fun h => absurd rfl h) (fun _ => ?_)
        clear hK K
        refine until_done (by kernel_rfl) ?_ _
        have hO8 := own_monoN ho8 (b := w.heap.size) (by omega)
        have hbF : Below w.heap.size w w8 := HBW.out.trans (hb78.mono HBW.out.size)
        clear hSf hSe hSc hSb
        go_wp2_with fail
        go_ret
        exact ⟨⟨_, _, rfl, by rw [HHM.out]; exact hO8⟩, hbF⟩
end Go.Proofs.YtgehgcnaoapbbaaDoor
