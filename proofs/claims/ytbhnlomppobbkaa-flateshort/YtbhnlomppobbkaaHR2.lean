/-
  The program's reader of bits: numbers.
-/
import Derived.Test.YtbhnlomppobbkaaHR1
namespace Go.Proofs.Ytbhnlomppobbkaa
open Go.RowKit Ch
set_option maxRecDepth 100000

theorem Rd.shape {rb : Nat} {s : ByteArray} {most p : Nat} {fv fx bk tv : Value} {text : List UInt8} {W : World} (h : Rd rb s most fv fx bk p text tv W) : ∃ a cap, fv = .slice a s.size cap ∧ s.size ≤ cap := by
  obtain ⟨a, cap, hv, hc, _⟩ := h.src.is
  exact ⟨a, cap, hv, hc⟩
theorem Rd.cells {rb : Nat} {s : ByteArray} {most p : Nat} {fv fx bk tv : Value} {text : List UInt8} {W : World} (h : Rd rb s most fv fx bk p text tv W) :
    W.cell? ⟨rb, 0, none⟩ = some fv ∧ W.cell? ⟨rb, 1, none⟩ = some (.int .i64 (p : Int)) ∧ W.cell? ⟨rb, 2, none⟩ = some tv ∧ W.cell? ⟨rb, 3, none⟩ = some (.int .i64 (most : Int)) ∧ W.cell? ⟨rb, 4, none⟩ = some fx ∧ W.cell? ⟨rb, 5, none⟩ = some bk :=
  ⟨block_cell 0 h.box rfl, block_cell 1 h.box rfl, block_cell 2 h.box rfl, block_cell 3 h.box rfl, block_cell 4 h.box rfl, block_cell 5 h.box rfl⟩
theorem Rd.free {rb : Nat} {s : ByteArray} {most p : Nat} {fv fx bk tv : Value} {text : List UInt8} {W : World} (h : Rd rb s most fv fx bk p text tv W) (i : Nat) : W.frozen? ⟨rb, i, none⟩ = false := block_free i h.box
theorem Rd.at {rb : Nat} {s : ByteArray} {most p : Nat} {fv fx bk tv : Value} {text : List UInt8} {W : World} (h : Rd rb s most fv fx bk p text tv W) {q : Nat} (hq : q ≤ 8 * s.size) : Rd rb s most fv fx bk q text tv (W.setCell ⟨rb, 1, none⟩ (.int .i64 (q : Int))) :=
  ⟨setCell_block (i := 1) h.box, ownsRow_setCell_below h.row (a := ⟨rb, 1, none⟩) (Nat.lt_succ_self _) _, h.src.later ((Below.refl rb W).setCell (p := ⟨rb, 1, none⟩) (Nat.le_refl _) _), hq⟩
theorem Rd.drewN {rb : Nat} {s : ByteArray} {most p : Nat} {fv fx bk tv : Value} {text : List UInt8} {W : World} (h : Rd rb s most fv fx bk p text tv W) (n : Nat) : Rd rb s most fv fx bk p text tv (W.drewN n) :=
  ⟨h.box, h.row, h.src.later (below_drewN (Below.refl rb W) n), h.le⟩
theorem Rd.drew {rb : Nat} {s : ByteArray} {most p : Nat} {fv fx bk tv : Value} {text : List UInt8} {W : World} (h : Rd rb s most fv fx bk p text tv W) : Rd rb s most fv fx bk p text tv W.drew :=
  ⟨h.box, h.row, h.src.later (Below.refl rb W).drew, h.le⟩
theorem bit_byte (s : ByteArray) (q : Nat) : bitL s.data.toList q = (byte s (q / 8)).testBit (q % 8) := by unfold bitL; rw [byte_list]
theorem u8_and_one {x i : Nat} (hx : x < 256) : bits .and .u8 ((x : Int) / 2 ^ i) 1 = ((x.testBit i).toNat : Int) := by
  have e : (x : Int) / 2 ^ i = ((x / 2 ^ i : Nat) : Int) := by simp
  have hle : x / 2 ^ i ≤ x := Nat.div_le_self _ _
  rw [e, Nat.toNat_testBit]
  have := bits_mask .u8 8 (by decide) wraps_u8 1 (by decide) ((x / 2 ^ i : Nat) : Int) (Int.natCast_nonneg _) (by generalize x / 2 ^ i = y at *; omega)
  simpa using this
theorem wraps_i64' (n : Int) (_h₀ : 0 ≤ n) (_h₁ : n < 2 ^ 62) : IntKind.i64.wrap n = n := by rw [IntKind.wrap_i64]; omega
theorem or_high {x y i : Nat} (hx : x < 2 ^ i) (hy : y < 2) (hi : i ≤ 16) : bits .or .i64 (x : Int) (wrap64 ((y : Int) * 2 ^ i)) = ((x + y * 2 ^ i : Nat) : Int) := by
  have h7' : 2 ^ i ≤ 2 ^ 16 := Nat.pow_le_pow_right (by omega) hi
  have h1 : y * 2 ^ i ≤ 1 * 2 ^ i := Nat.mul_le_mul_right _ (by omega)
  have e : (y : Int) * 2 ^ i = ((y * 2 ^ i : Nat) : Int) := by simp
  rw [e, Go.IntWalk.wrap64_in _ (by omega), (bits_nat .i64 62 (by decide) wraps_i64' x _ (by omega) (by omega)).2]
  congr 1
  rw [Nat.or_comm, Nat.mul_comm, ← Nat.two_pow_add_eq_or_of_lt hx, Nat.add_comm, Nat.mul_comm]
set_option maxHeartbeats 4000000 in
theorem rdNumber_ok (rb : Nat) (s : ByteArray) (most p : Nat) (fv fx bk tv : Value) (text : List UInt8) (w : World) (h : Rd rb s most fv fx bk p text tv w) (k : Nat) (hk : k ≤ 16) (hp : p + k ≤ 8 * s.size) (hs : s.size ≤ 1000000) :
    Calls Try.prog 42 #[.pointer (some ⟨rb, 0, none⟩), .int .i64 (k : Int)] w fun e w' => e = .returned (.int .i64 (numAt s.data.toList p k : Int)) ∧ Rd rb s most fv fx bk (p + k) text tv w' ∧ Kept rb w w' := by
  obtain ⟨a, cap, rfl, hcap⟩ := h.shape
  obtain ⟨h0, h1, _, _, _, _⟩ := h.cells
  have hc : decide ((k : Int) ≤ 8 * (s.size : Int) - (p : Int)) = true := decide_eq_true (by omega)
  have hR := fun w => hRequire_ok 11 w
  go_enter Try.func42, Try.ntmps42
  go_wp2_with fail
  go_quiet ((go_at_call 49; exact Calls.quiet_of_same (hR _)))
  go_wp2_with fail
  go_loopw [5, 6, 22] (fun x _ t wr => ∃ (i q n : Nat), i ≤ k ∧ t = .int .i64 (i : Int) ∧ x = .int .i64 (n : Int) ∧ Hid (q = p + i ∧ n = numAt s.data.toList p i) ∧ Rd rb s most (.slice a s.size cap) fx bk q text tv wr ∧ Kept rb w wr) (fun _ _ t _ => 20 - (intOf t).toNat)
  case atStart => exact ⟨0, p, 0, Nat.zero_le _, rfl, rfl, ⟨rfl, rfl⟩, h.drewN _, (Kept.refl rb w).drewN _⟩
  case round =>
    obtain ⟨i, q, n, hi, rfl, rfl, hq, hW, hK⟩ := hrel
    by_cases hlt : i < k
    · have hq1 := hq.out.1
      have hq8 : q / 8 < s.size := by omega
      obtain ⟨b, o, rfl, hb0, hcl⟩ := hW.src.is.cellAt hq8
      obtain ⟨g0, g1, _, _, _, _⟩ := hW.cells
      have f1 := hW.free 1
      have hby := byte_lt s (q / 8)
      have hbit := bit_byte s q
      have e1 := u8_and_one (x := byte s (q / 8)) (i := q % 8) hby
      rw [← hbit] at e1
      have hnl : n < 2 ^ i := by rw [hq.out.2]; exact numAt_lt _ _ _
      have e2 := or_high (x := n) (y := (bitL s.data.toList q).toNat) (i := i) hnl (by have := Bool.toNat_le (bitL s.data.toList q); omega) (by omega)
      have hN : Hid (n + (bitL s.data.toList q).toNat * 2 ^ i = numAt s.data.toList p (i + 1)) := by unfold Hid; rw [numAt_succ, hq.out.2, hq1]
      have hb1 := Bool.toNat_le (bitL s.data.toList q)
      generalize (bitL s.data.toList q).toNat = y at *
      generalize byte s (q / 8) = by8 at *
      obtain ⟨m, hm⟩ : ∃ m, n + y * 2 ^ i = m := ⟨_, rfl⟩
      rw [hm] at e2 hN
      have hq5 : q < 8 * s.size := by omega
      have HQ : Hid (q = p + i) := hq1
      have z1 : (0 : Int) ≤ (q : Int) / 8 := by omega
      have z2 : (q : Int) / 8 < (s.size : Int) := by omega
      clear hq hq1 hnl hm hbit
      go_wp2_with fail
      go_quiet (fail)
      go_wp2_with fail
      go_roundw
      case rel =>
        have e : ((q + 1 : Nat) : Int) = (q : Int) + 1 := by omega
        refine ⟨i + 1, q + 1, m, by omega, by go_num, rfl, ⟨by have := HQ.out; omega, hN.out⟩, ?_, (hK.drewN nq).setCell 1 _⟩
        rw [← e]
        exact (hW.drewN nq).at (by omega)
      case measure => simp [intOf]; omega
    · obtain rfl : i = k := by omega
      have HN : Hid (n = numAt s.data.toList p i) := hq.out.2
      have HQ : Hid (q = p + i) := hq.out.1
      clear hq
      go_wp2
      go_ret
      rw [HN.out]
      exact ⟨rfl, by rw [← HQ.out]; exact hW, hK⟩
set_option maxHeartbeats 4000000 in
theorem rdNumber_err (rb : Nat) (s : ByteArray) (most p : Nat) (fv fx bk tv : Value) (text : List UInt8) (w : World) (h : Rd rb s most fv fx bk p text tv w) (k : Nat) (hk : k ≤ 16) (hp : ¬ p + k ≤ 8 * s.size) (hs : s.size ≤ 1000000) :
    Calls Try.prog 42 #[.pointer (some ⟨rb, 0, none⟩), .int .i64 (k : Int)] w fun e w' => e = .panicked (PE 11) ∧ Below rb w w' := by
  obtain ⟨a, cap, rfl, hcap⟩ := h.shape
  obtain ⟨h0, h1, _, _, _, _⟩ := h.cells
  have hle := h.le
  have hc : decide ((k : Int) ≤ 8 * (s.size : Int) - (p : Int)) = false := decide_eq_false (by omega)
  have hR := fun w => hRequire_err 11 w
  have k1 : IntKind.i64.wrap (8 * (s.size : Int)) = 8 * (s.size : Int) := by rw [IntKind.wrap_i64]; omega
  have k2 : IntKind.i64.wrap (8 * (s.size : Int) - (p : Int)) = 8 * (s.size : Int) - (p : Int) := by rw [IntKind.wrap_i64]; omega
  go_enter Try.func42, Try.ntmps42
  go_wp2_with fail
  refine wp_region_any (by kernel_rfl) ?_
  try (change wpAny _ _ _ _ _ _ _ (World.drew _))
  refine wpAny_take (i := 0) (v := ?v1) rfl (by kernel_rfl) (by kernel_rfl) (by kernel_rfl) (fun _ _ _ h => h) (Or.inl ⟨by rfl, ?h1⟩) ?r1
  case h1 =>
    intro w
    go_simp
    try with_reducible rfl
  refine wpAny_take (i := 1) (v := ?v2) rfl (by kernel_rfl) (by kernel_rfl) (by kernel_rfl) (fun _ _ _ h => h) (Or.inl ⟨by rfl, ?h2⟩) ?r2
  case h2 =>
    intro w
    go_simp
    try with_reducible rfl
  refine wpAny_take (i := 2) (v := ?v3) rfl (by kernel_rfl) (by kernel_rfl) (by kernel_rfl) (fun _ _ _ h => h) (Or.inl ⟨by rfl, ?h3⟩) ?r3
  case h3 =>
    intro w
    go_simp
    try with_reducible rfl
  refine wpAny_take (i := 3) (v := ?v4) rfl (by kernel_rfl) (by kernel_rfl) (by kernel_rfl) (fun _ _ _ h => h) (Or.inl ⟨by rfl, ?h4⟩) ?r4
  case h4 =>
    intro w
    go_simp
    try with_reducible rfl
  refine wpAny_take (i := 7) (v := ?v5) rfl (by kernel_rfl) (by kernel_rfl) (by kernel_rfl) (fun _ _ _ h => h) (Or.inl ⟨by rfl, ?h5⟩) ?r5
  case h5 =>
    intro w
    go_simp
    try with_reducible rfl
  refine wpAny_take (i := 8) (v := ?v6) rfl (by kernel_rfl) (by kernel_rfl) (by kernel_rfl) (fun _ _ _ h => h) (Or.inl ⟨by rfl, ?h6⟩) ?r6
  case h6 =>
    intro w
    go_simp
    try with_reducible rfl
  refine wpAny_take (i := 9) (v := ?v7) rfl (by kernel_rfl) (by kernel_rfl) (by kernel_rfl) (fun _ _ _ h => h) (Or.inl ⟨by rfl, ?h7⟩) ?r7
  case h7 =>
    intro w
    go_simp
    try with_reducible rfl
  refine wpAny_ready (rs := [4, 10]) (by kernel_rfl) (by simp) ?_
  refine AllReady.cons rfl (fun K hK => ?_) ?_
  · go_simp
    refine hK _ _ ?_
    clear hK K
    refine wpAny_take (i := 5) (v := ?v8) rfl (by kernel_rfl) (by kernel_rfl) (by kernel_rfl) (fun _ _ _ h => h) (Or.inl ⟨by rfl, ?h8⟩) ?r8
    case h8 =>
      intro w
      go_simp
      try with_reducible rfl
    refine wpAny_take (i := 6) (v := ?v9) rfl (by kernel_rfl) (by kernel_rfl) (by kernel_rfl) (fun _ _ _ h => h) (Or.inl ⟨by rfl, ?h9⟩) ?r9
    case h9 =>
      intro w
      go_simp
      try with_reducible rfl
    refine wpAny_ready (rs := [10]) (by kernel_rfl) (by simp) ?_
    refine AllReady.cons rfl (fun K hK => ?_) ?_
    · go_simp
      refine hK _ _ ?_
      clear hK K
      refine wpAny_take (i := 11) (v := ?v10) rfl (by kernel_rfl) (by kernel_rfl) (by kernel_rfl) (fun _ _ _ h => h) (Or.inl ⟨by rfl, ?h10⟩) ?r10
      case h10 =>
        intro w
        go_simp
        try with_reducible rfl
      refine wpAny_take (i := 12) (v := ?v11) rfl (by kernel_rfl) (by kernel_rfl) (by kernel_rfl) (fun _ _ _ h => h) (Or.inl ⟨by rfl, ?h11⟩) ?r11
      case h11 =>
        intro w
        go_simp
        try with_reducible rfl
      refine wpAny_ready (rs := [13]) (by kernel_rfl) (by simp) ?_
      refine AllReady.cons rfl (fun K hK => ?_) ?_
      · go_simp
        refine (hR _).mono ?_
        rintro e w1 ⟨rfl, rfl⟩
        exact ⟨rfl, rfl, (Below.refl rb _).drew⟩
      exact AllReady.nil
    exact AllReady.nil
  refine AllReady.cons rfl (fun K hK => ?_) ?_
  · go_simp
    refine hK _ _ ?_
    clear hK K
    refine wpAny_ready (rs := [4]) (by kernel_rfl) (by simp) ?_
    refine AllReady.cons rfl (fun K hK => ?_) ?_
    · go_simp
      refine hK _ _ ?_
      clear hK K
      refine wpAny_take (i := 5) (v := ?v12) rfl (by kernel_rfl) (by kernel_rfl) (by kernel_rfl) (fun _ _ _ h => h) (Or.inl ⟨by rfl, ?h12⟩) ?r12
      case h12 =>
        intro w
        go_simp
        try with_reducible rfl
      refine wpAny_take (i := 6) (v := ?v13) rfl (by kernel_rfl) (by kernel_rfl) (by kernel_rfl) (fun _ _ _ h => h) (Or.inl ⟨by rfl, ?h13⟩) ?r13
      case h13 =>
        intro w
        go_simp
        try with_reducible rfl
      refine wpAny_take (i := 11) (v := ?v14) rfl (by kernel_rfl) (by kernel_rfl) (by kernel_rfl) (fun _ _ _ h => h) (Or.inl ⟨by rfl, ?h14⟩) ?r14
      case h14 =>
        intro w
        go_simp
        try with_reducible rfl
      refine wpAny_take (i := 12) (v := ?v15) rfl (by kernel_rfl) (by kernel_rfl) (by kernel_rfl) (fun _ _ _ h => h) (Or.inl ⟨by rfl, ?h15⟩) ?r15
      case h15 =>
        intro w
        go_simp
        try with_reducible rfl
      refine wpAny_ready (rs := [13]) (by kernel_rfl) (by simp) ?_
      refine AllReady.cons rfl (fun K hK => ?_) ?_
      · go_simp
        refine (hR _).mono ?_
        rintro e w1 ⟨rfl, rfl⟩
        exact ⟨rfl, rfl, (Below.refl rb _).drew⟩
      exact AllReady.nil
    exact AllReady.nil
  exact AllReady.nil
end Go.Proofs.Ytbhnlomppobbkaa
