/-
  
  
  
  
  
  
-/
import Derived.Test.YtpcmpeeflnlkpaaGreatDoorVBelowEtc
import Derived.Test.YtpcmpeeflnlkpaaGreatDoorVKb
import Derived.Handy
import Derived.Test.YtpcmpeeflnlkpaaGreatDoorKLeafEtc
import Derived.Test.YtpcmpeeflnlkpaaGreatDoorGPlainEtc
import Derived.Test.YtpcmpeeflnlkpaaGreatDoorKSumEtc
import Derived.Lib.SlBytesConst
import Derived.Test.YtpcmpeeflnlkpaaGreatDoorHFreeZEtc
import Derived.Test.YtpcmpeeflnlkpaaGreatDoorKSched
/-
  The document's Words and New.
-/
namespace Go.Proofs.YtpcmpeeflnlkpaaGreatDoor
open Go.RowKit Ch
set_option maxRecDepth 100000

def hL (i : Nat) : List Nat := ((prK 310).take (min i 8)).map (fun p => rootN p false)
def kL (i : Nat) : List Nat := ((prK 310).take i).map (fun p => rootN p true)
theorem hL_succ {i p : Nat} (h : (prK 310)[i]? = some p) (hi : i < 8) : hL i ++ [rootN p false] = hL (i + 1) := by
  unfold hL
  rw [Nat.min_eq_left (by omega), Nat.min_eq_left (by omega), List.take_add_one, h, List.map_append]
  rfl
theorem hL_same {i : Nat} (hi : ¬ i < 8) : hL (i + 1) = hL i := by
  unfold hL
  rw [Nat.min_eq_right (by omega), Nat.min_eq_right (by omega)]
theorem kL_succ {i p : Nat} (h : (prK 310)[i]? = some p) : kL i ++ [rootN p true] = kL (i + 1) := by
  unfold kL
  rw [List.take_add_one, h, List.map_append]
  rfl
theorem hL_64 : hL 64 = beginS.l := words_h
theorem kL_64 : kL 64 = roundK := by
  unfold kL
  rw [List.take_of_length_le (by rw [prK_310]; exact Nat.le_refl _)]
  exact words_k
theorem hL_len (i : Nat) : (hL i).length ≤ 8 := by
  unfold hL
  rw [List.length_map, List.length_take]; omega
theorem kL_len (i : Nat) : (kL i).length ≤ 64 := by
  unfold kL
  rw [List.length_map, List.length_take, prK_310]; omega
theorem prK_lt {i p : Nat} (h : (prK 310)[i]? = some p) : p < 18446744073709551616 := by
  have := prK_pos 310 p (List.mem_of_getElem? h)
  omega
set_option maxHeartbeats 2000000 in
theorem vWords_any (w : World) :
    Calls Tryz.prog 31 #[] w fun e w' => (∃ u v, e = .returned (.tuple #[u, v]) ∧ w'.ownsRow w.heap.size 63 1 u beginS.l.length (kc .u32 beginS.l) ∧ w'.ownsRow w.heap.size 63 1 v roundK.length (kc .u32 roundK)) ∧ Below w.heap.size w w' := by
  go_enter Tryz.func31, Tryz.ntmps31
  go_wp2_with fail
  refine (vPrimes_64 w).mono ?_
  rintro e w1 ⟨⟨vp, rfl, hop⟩, hb1⟩
  obtain ⟨xp, cp, rfl⟩ := own_shape hop
  have HIP := show Hid (IsN .u64 w1 (.slice xp 64 cp) (prK 310)) from by have := own_n hop; rw [prK_310] at this; exact this
  rw [prK_310]
  clear hop
  go_wp2_with fail
  go_loopw [3, 4, 5] (fun u v t wr => ∃ i : Nat, i ≤ 64 ∧ t = .int .i64 (i : Int) ∧ wr.ownsRow w1.heap.size 63 1 u (hL i).length (kc .u32 (hL i)) ∧ wr.ownsRow w1.heap.size 63 1 v (kL i).length (kc .u32 (kL i)) ∧ Hid (Apart u v) ∧ Below w1.heap.size w1 wr) (fun _ _ t _ => 64 - (intOf t).toNat)
  case atStart => exact ⟨0, by omega, rfl, own_nil _ _ _, own_nil _ _ _, apart_nil _, Below.refl _ _⟩
  case round =>
    obtain ⟨i, hi, rfl, hu, hv, hap, hb⟩ := hrel
    by_cases hlt : i < 64
    · have hlt2 : (i : Int) < 64 := by omega
      have hps : (prK 310)[i]? = some (atN (prK 310) i) := atN_some (by rw [prK_310]; exact hlt)
      obtain ⟨p, hp⟩ : ∃ p, atN (prK 310) i = p := ⟨_, rfl⟩
      rw [hp] at hps
      have hp64 := prK_lt hps
      obtain ⟨x1, bp, op, rfl, hbl, gP⟩ := IsN.cellAt (HIP.out.later hb) hps
      have HK := show Hid (kL i ++ [rootN p true] = kL (i + 1)) from kL_succ hps
      have HH := show Hid (∀ h : i < 8, hL i ++ [rootN p false] = hL (i + 1)) from fun h => hL_succ hps h
      have hkl : (kL i).length ≤ 1000000 := Nat.le_trans (kL_len i) (by omega)
      have hhl : (hL i).length ≤ 1000000 := Nat.le_trans (hL_len i) (by omega)
      have HPS := show Hid ((prK 310)[i]? = some p) from hps
      clear x1 hps hp
      by_cases h8 : i < 8
      · have h82 : (i : Int) < 8 := by omega
        have HHL := show Hid (hL i ++ [rootN p false] = hL (i + 1)) from HH.out h8
        have hr1 := vRoot_any p false wr hp64
        have hr2 := fun w => vRoot_any p true w hp64
        clear HH
        generalize rootN p false = rf at *
        generalize rootN p true = rt at *
        go_wp2_with fail
        refine hr1.mono ?_
        rintro e w3 ⟨rfl, hb3⟩
        have hu3 := ownsRow_later hu hb3
        have hv3 := ownsRow_later hv hb3
        have hbw3 := hb.trans (hb3.mono hb.size)
        have hz3 := hbw3.size
        clear hr1 hu hv hb3
        go_wp2_with (at_builtin; go_must (refine wpList_append_two R32 rfl _ _ rfl w1.heap.size u3 _ rfl hu3 _ rfl rf rfl _ HHL hhl hz3 hbw3 63 1 _ _ _ hv3 hap.out ?_; intro v4 w4 ho4 hb4 hv4 hap4; have HA4 := show Hid (Apart v4 _) from hap4; clear hap4; have hgP := IsN.cellIn (HIP.out.later hb4) HPS.out))
        refine (hr2 w4).mono ?_
        rintro e w5 ⟨rfl, hb5⟩
        have hu5 := ownsRow_later ho4 hb5
        have hv5 := ownsRow_later hv4 hb5
        have hbw5 := hb4.trans (hb5.mono hb4.size)
        have hz5 := hbw5.size
        clear hr2
        go_wp2_with (at_builtin; go_must (refine wpList_append_two R32 rfl _ _ rfl w1.heap.size u4 _ rfl hv5 _ rfl rt rfl _ HK hkl hz5 hbw5 63 1 _ _ _ hu5 HA4.out.symm ?_; intro v9 w9 ho9 hb9 hu9 hap9))
        go_roundw
        case rel => exact ⟨i + 1, by omega, by go_num, hu9, ho9, hap9.symm, hb9⟩
        case measure => simp [intOf]; omega
      · have h82 : ¬ (i : Int) < 8 := by omega
        have HHL := show Hid (hL (i + 1) = hL i) from hL_same h8
        have hr2 := fun w => vRoot_any p true w hp64
        generalize rootN p true = rt at *
        go_wp2_with fail
        refine (hr2 wr).mono ?_
        rintro e w5 ⟨rfl, hb5⟩
        have hu5 := ownsRow_later hu hb5
        have hv5 := ownsRow_later hv hb5
        have hbw5 := hb.trans (hb5.mono hb.size)
        have hz5 := hbw5.size
        go_wp2_with (at_builtin; go_must (refine wpList_append_two R32 rfl _ _ rfl w1.heap.size u4 _ rfl hv5 _ rfl rt rfl _ HK hkl hz5 hbw5 63 1 _ _ _ hu5 hap.out.symm ?_; intro v9 w9 ho9 hb9 hu9 hap9))
        go_roundw
        case rel => exact ⟨i + 1, by omega, by go_num, by rw [HHL.out]; exact hu9, ho9, hap9.symm, hb9⟩
        case measure => simp [intOf]; omega
    · have hlt2 : ¬ (i : Int) < 64 := by omega
      obtain rfl : i = 64 := by omega
      have hU := own_monoN hu hb1.size
      have hV := own_monoN hv hb1.size
      rw [hL_64] at hU
      rw [kL_64] at hV
      have hbw := hb1.trans (hb.mono hb1.size)
      clear hu hv
      go_wp2_with fail
      go_ret2
      exact ⟨⟨_, _, rfl, hU, hV⟩, hbw⟩
end Go.Proofs.YtpcmpeeflnlkpaaGreatDoor

/-
  The document's New.
-/
namespace Go.Proofs.YtpcmpeeflnlkpaaGreatDoor
open Go.RowKit Ch
set_option maxRecDepth 100000

theorem grown_setCell (w : World) (p : Addr) (u : Value) : w.grownBy (w.setCell p u) (some p.block) := by
  have hb := (Below.refl 0 w).setCell (p := p) (Nat.zero_le _) u
  exact ⟨hb.os, hb.tape, hb.output, by rw [setCell_size]; exact Nat.le_refl _, fun k _ hk => Below.heap_setCell _ _ _ _ (fun e => hk (by rw [e]))⟩
theorem own_setOther {w : World} {base n : Nat} {e : TypeId} {v : Value} {xs : List Value} (h : w.ownsRow base e 1 v n xs) (p : Addr) (u : Value) (hp : p.block < base) : (w.setCell p u).ownsRow base e 1 v n xs := by
  refine h.kept (grown_setCell w p u) ?_
  rcases hv : v.ownBlock with _ | k
  · exact .inl rfl
  · refine .inr (fun hk => ?_)
    have := (World.ownsRow.lt h k hv).1
    have := Option.some.inj hk
    omega
set_option maxHeartbeats 1000000 in
theorem vNew_any (w : World) :
    Calls Tryz.prog 13 #[] w fun e w' => (∃ u v, e = .returned (.agg #[u, v]) ∧ IsN .u32 w' u beginS.l ∧ IsN .u32 w' v roundK) ∧ Below w.heap.size w w' := by
  go_enter Tryz.func13, Tryz.ntmps13
  go_wp2_with fail
  refine (vWords_any _).mono ?_
  rintro e w1 ⟨⟨u, v, rfl, hU, hV⟩, hb1⟩
  have hN := heap_push_at w (.cells #[.slice none 0 0, .slice none 0 0] 39)
  have hb0 : Below w.heap.size w (w.alloc (.cells #[.slice none 0 0, .slice none 0 0] 39)) := (Below.refl _ w).alloc (Nat.le_refl _) _
  have hR := (hb1.block _ (block_lt hN)).trans hN
  have hbw := hb0.trans (hb1.mono hb0.size)
  obtain ⟨au, cu, rfl⟩ := own_shape hU
  obtain ⟨av, cv, rfl⟩ := own_shape hV
  have g0 := block_cell 0 hR rfl
  have g1 := block_cell 1 hR rfl
  have f0 := block_free 0 hR
  have f1 := block_free 1 hR
  clear hN hb0 hb1
  go_wp2_with fail
  have hi2 : (Tryz.prog.info? 39).map (·.size) = some 2 := by kernel_rfl
  have hB1 := setCell_block (i := 0) (u := .slice au beginS.l.length cu) hR
  have hB2 := setCell_block (i := 1) (u := .slice av roundK.length cv) hB1
  have hlt : w.heap.size < (w.alloc (.cells #[.slice none 0 0, .slice none 0 0] 39)).heap.size := by simp
  have hU2 := own_n (own_setOther (own_setOther hU ⟨w.heap.size, 0, none⟩ (.slice au beginS.l.length cu) hlt) ⟨w.heap.size, 1, none⟩ (.slice av roundK.length cv) hlt)
  have hV2 := own_n (own_setOther (own_setOther hV ⟨w.heap.size, 0, none⟩ (.slice au beginS.l.length cu) hlt) ⟨w.heap.size, 1, none⟩ (.slice av roundK.length cv) hlt)
  have hbs := (hbw.setCell (p := ⟨w.heap.size, 0, none⟩) (Nat.le_refl _) (.slice au beginS.l.length cu)).setCell (p := ⟨w.heap.size, 1, none⟩) (Nat.le_refl _) (.slice av roundK.length cv)
  refine bodyPost_ret (v := .agg #[.slice au beginS.l.length cu, .slice av roundK.length cv]) ?_ rfl ⟨⟨_, _, rfl, hU2, hV2⟩, hbs⟩
  exact results_cell_row rfl _ _ w.heap.size _ _ _ _ rfl hB2 Tryz.underlying39 rfl hi2
end Go.Proofs.YtpcmpeeflnlkpaaGreatDoor

/-
  PLAIN FACTS ON BASE64, DIGITS AND FOLDED LINES: the signs of six bits, the groups of a text's bits, what is written and what is read. No program is named here.
-/
namespace Go.Proofs.YtpcmpeeflnlkpaaGreatDoor.Ch

end Go.Proofs.YtpcmpeeflnlkpaaGreatDoor.Ch

/-
  The document's Hex, for every list of bytes.
-/
namespace Go.Proofs.YtpcmpeeflnlkpaaGreatDoor
open Go.RowKit Ch
set_option maxRecDepth 100000

end Go.Proofs.YtpcmpeeflnlkpaaGreatDoor

/-
  Package hash: a key's block.
-/
namespace Go.Proofs.YtpcmpeeflnlkpaaGreatDoor
open Go.RowKit Ch
set_option maxRecDepth 100000

end Go.Proofs.YtpcmpeeflnlkpaaGreatDoor

/-
  What the regions of the document's Sum want.
-/
namespace Go.Proofs.YtpcmpeeflnlkpaaGreatDoor
open Go.RowKit Ch
set_option maxRecDepth 100000
/-- append of one number, at an operation of a region that draws. -/
theorem wp_append_one (R : KR) {o : Oper} {a : Act} {u : World} {K : Act → World → Prop} {Q : Exit → Act → World → Prop} (so x : Operand) (ho : o.op = .call { callee := .builtin .append, args := #[so, x], argTypes := #[R.ts, R.ts] })
    (base : Nat) (v : Value) (acc : List Nat) (hs : a.eval so = v) (hown : u.ownsRow base R.e 1 v acc.length (kc R.k acc)) (g : Nat) (hx : a.eval x = .slice (some ⟨g, 0, none⟩) 1 1) (c : Nat) (hc : u.cell? ⟨g, 0, none⟩ = some (.int R.k (c : Int)))
    (acc' : List Nat) (he : acc ++ [c] = acc') (hlen : acc.length ≤ 1000000) (hbase : base ≤ u.heap.size)
    (h : ∀ v' u', u'.ownsRow base R.e 1 v' acc'.length (kc R.k acc') → u.grownBy u' v.ownBlock → K (a.put o.dst v') u') : o.wp Tryz.prog a u K Q := by
  obtain ⟨i0, hi, hz0, hz1, hz2⟩ := info_parts R.hi
  have h8 := R.hb8
  refine wp_append_own u so x R.ts ho base R.e i0 (.int R.k 0) 1 R.size R.hu hi hz0 hz1 hz2 rfl (by decide) v acc.length _ hs hown ⟨g, 0, none⟩ 1 1 [.int R.k (c : Int)] hx rfl ?_ (by intro q hq; simp at hq; subst hq; rfl) (by unfold maxLen; omega) (Nat.le_trans (Nat.mul_le_mul_left _ h8) (by omega)) hbase ?_
  · intro j q hj
    rcases j with _ | j
    · simp only [List.getElem?_cons_zero, Option.some.injEq] at hj
      rw [← hj]
      exact hc
    · cases hj
  · intro v' u' h1 h2 _
    have e : kc R.k acc ++ [Value.int R.k (c : Int)] = kc R.k acc' := by rw [← he, kc_append]; rfl
    have e2 : acc.length + 1 = acc'.length := by rw [← he]; simp
    rw [e, e2] at h1
    exact h v' u' h1 h2
theorem wrap32 (a b : Nat) : IntKind.u32.wrap ((a : Int) + (b : Int)) = (((a + b) % 4294967296 : Nat) : Int) := by rw [IntKind.wrap_u32]; omega
theorem grown_none {u u' : World} (h : u.grownBy u' none) : Below u.heap.size u u' := (Below.refl _ u).grown h (Nat.le_refl _) (fun _ h => by cases h)
theorem isN_lit (u : World) (L : List Nat) (hL : L.length ≤ 1000) : IsN .u32 (u.alloc (.cells (kc .u32 L).toArray 63)) (.slice (some ⟨u.heap.size, 0, none⟩) L.length L.length) L :=
  ⟨_, _, rfl, Nat.le_refl _, by unfold maxLen; omega, .inr ⟨_, rfl, .inr ⟨u.heap.size, 0, rfl, by simp, fun i n hn => by
    rw [Nat.zero_add]
    exact block_cell i (heap_push_at u _) (by rw [List.getElem?_toArray]; exact kc_at hn)⟩⟩⟩
/-- append of four bytes, at an operation of a region that draws. -/
theorem wp_append_four {o : Oper} {a : Act} {u : World} {K : Act → World → Prop} {Q : Exit → Act → World → Prop} (so x : Operand) (ho : o.op = .call { callee := .builtin .append, args := #[so, x], argTypes := #[22, 22] })
    (base : Nat) (v : Value) (acc : List UInt8) (hs : a.eval so = v) (hown : u.ownsRow base 5 1 v acc.length (Lib.byteCells acc)) (g : Nat) (hx : a.eval x = .slice (some ⟨g, 0, none⟩) 4 4) (c0 c1 c2 c3 : Nat) (h0 : u.cell? ⟨g, 0, none⟩ = some (.int .u8 (c0 : Int))) (h1 : u.cell? ⟨g, 1, none⟩ = some (.int .u8 (c1 : Int))) (h2 : u.cell? ⟨g, 2, none⟩ = some (.int .u8 (c2 : Int))) (h3 : u.cell? ⟨g, 3, none⟩ = some (.int .u8 (c3 : Int)))
    (acc' : List UInt8) (he : Lib.byteCells acc' = Lib.byteCells acc ++ [.int .u8 (c0 : Int), .int .u8 (c1 : Int), .int .u8 (c2 : Int), .int .u8 (c3 : Int)]) (hel : acc'.length = acc.length + 4) (hlen : acc.length ≤ 1000) (hbase : base ≤ u.heap.size)
    (h : ∀ v' u', u'.ownsRow base 5 1 v' acc'.length (Lib.byteCells acc') → u.grownBy u' v.ownBlock → K (a.put o.dst v') u') : o.wp Tryz.prog a u K Q := by
  obtain ⟨i0, hi, hz0, hz1, hz2⟩ := info5
  refine wp_append_own u so x 22 ho base 5 i0 (.int .u8 0) 1 1 Tryz.underlying22 hi hz0 hz1 hz2 rfl (by decide) v acc.length _ hs hown ⟨g, 0, none⟩ 4 4 [.int .u8 (c0 : Int), .int .u8 (c1 : Int), .int .u8 (c2 : Int), .int .u8 (c3 : Int)] hx rfl ?_ (by intro q hq; simp at hq; rcases hq with rfl | rfl | rfl | rfl <;> rfl) (by unfold maxLen; omega) (by omega) hbase ?_
  · intro j q hj
    rcases j with _ | _ | _ | _ | j
    · simp only [List.getElem?_cons_zero, Option.some.injEq] at hj
      rw [← hj]; exact h0
    · simp only [List.getElem?_cons_succ, List.getElem?_cons_zero, Option.some.injEq] at hj
      rw [← hj]; exact h1
    · simp only [List.getElem?_cons_succ, List.getElem?_cons_zero, Option.some.injEq] at hj
      rw [← hj]; exact h2
    · simp only [List.getElem?_cons_succ, List.getElem?_cons_zero, Option.some.injEq] at hj
      rw [← hj]; exact h3
    · cases hj
  · intro v' u' k1 k2 _
    rw [← he, ← hel] at k1
    exact h v' u' k1 k2
end Go.Proofs.YtpcmpeeflnlkpaaGreatDoor
