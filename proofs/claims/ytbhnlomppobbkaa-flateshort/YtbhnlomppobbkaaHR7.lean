/-
  The program's reader: a block as it is.
-/
import Derived.Test.YtbhnlomppobbkaaHR6
import Derived.Test.YtbhnlomppobbkaaHStor
import Derived.Test.YtbhnlomppobbkaaHHeld
namespace Go.Proofs.Ytbhnlomppobbkaa
open Go.RowKit Ch
set_option maxRecDepth 100000

theorem bits_xor_fullR {n : Nat} (h : n < 65536) : bits .xor .i64 (n : Int) 65535 = ((65535 - n : Nat) : Int) := by
  have h1 : ((65535 : Nat) : Int) = 65535 := rfl
  have ha : n % 2 ^ IntKind.i64.bits = n := Nat.mod_eq_of_lt (by show n < 2 ^ 64; omega)
  have hb : 65535 % 2 ^ IntKind.i64.bits = 65535 := by decide
  rw [← h1]
  simp only [bits, BitVec.ofInt_natCast, BitVec.toNat_xor, BitVec.toNat_ofNat, ha, hb]
  rw [xor_full n h]
  exact wraps_i64 _ (by omega) (by omega)
theorem comp_ex (n : Nat) (h : n < 65536) : ∃ m : Nat, bits .xor .i64 (n : Int) 65535 = (m : Int) ∧ Hid (65535 - n = m) ∧ m < 65536 := ⟨_, bits_xor_fullR h, rfl, by omega⟩
set_option maxHeartbeats 8000000 in
theorem rdStored_any (rb : Nat) (s : ByteArray) (most p : Nat) (fv fx bk tv : Value) (text : List UInt8) (w : World) (h : Rd rb s most fv fx bk p text tv w) (hs : s.size ≤ 1000000) (hm : most ≤ 9223372036854775807) (hT : text.length ≤ 300 * p) :
    Calls Try.prog 43 #[.pointer (some ⟨rb, 0, none⟩)] w (Ends rb w (rawL s.data.toList most p text) fun x e w' => e = .returned (.tuple #[]) ∧ ∃ tv', Rd rb s most fv fx bk x.1 x.2 tv' w' ∧ Kept rb w w') := by
  obtain ⟨R, hR⟩ : ∃ R, rawL s.data.toList most p text = R := ⟨_, rfl⟩
  have HR : Hid (rawL s.data.toList most p text = R) := hR
  rw [hR]
  clear hR
  obtain ⟨a, cap, rfl, hcap⟩ := h.shape
  have hple := h.le
  obtain ⟨st, hst⟩ : ∃ st, (p + 7) / 8 = st := ⟨_, rfl⟩
  have HST : Hid ((p + 7) / 8 = st) := hst
  have e0 : ((p : Int) + 8 - 1) / 8 = (st : Int) := by omega
  have hst8 : st * 8 ≤ 8 * s.size := by omega
  have hstp : p ≤ st * 8 := by omega
  clear hst
  have h1 := h.cells.2.1
  have f1 := h.free 1
  have hA := h.at (q := st * 8) hst8
  rw [show ((st * 8 : Nat) : Int) = (st : Int) * 8 by omega] at hA
  have hN1 := rdNumber_any rb s most (st * 8) _ fx bk tv text _ hA 16 (by omega) hs
  have hK1 := (Kept.refl rb w).setCell 1 (.int .i64 ((st : Int) * 8))
  cases hx : rdNum s.data.toList 16 (st * 8) with
  | error k =>
    rw [hx] at hN1
    have HX : Hid (rdNum s.data.toList 16 (st * 8) = .error k) := hx
    clear hx
    go_enter Try.func43, Try.ntmps43
    go_wp2_with fail
    refine hN1.mono ?_
    rintro e w2 ⟨rfl, hb2⟩
    go_wp2_with fail
    exact ⟨rfl, by rw [show R = .error k by (rw [← HR.out]; unfold rawL; simp only [HST.out, HX.out])]; exact ⟨rfl, hK1.below.trans hb2⟩⟩
  | ok nq =>
    obtain ⟨n, q1⟩ := nq
    rw [hx] at hN1
    have HX : Hid (rdNum s.data.toList 16 (st * 8) = .ok (n, q1)) := hx
    obtain ⟨hn, hq1, hq1l⟩ := rdNum_ok hx
    clear hx
    rw [len_eq] at hq1l
    have hn16 : n < 65536 := hn
    obtain ⟨m, ex, HM2, hm16⟩ := comp_ex n hn16
    go_enter Try.func43, Try.ntmps43
    go_wp2_with fail
    refine hN1.mono ?_
    rintro e w2 ⟨rfl, hR2, hK2⟩
    have hK2' := hK1.trans hK2
    have hN2 := rdNumber_any rb s most q1 _ fx bk tv text w2 hR2 16 (by omega) hs
    cases hy : rdNum s.data.toList 16 q1 with
    | error k =>
      rw [hy] at hN2
      have HY : Hid (rdNum s.data.toList 16 q1 = .error k) := hy
      clear hy
      go_wp2_with fail
      refine hN2.mono ?_
      rintro e w3 ⟨rfl, hb3⟩
      go_wp2_with fail
      exact ⟨rfl, by rw [show R = .error k by (rw [← HR.out]; unfold rawL; simp only [HST.out, HX.out, HY.out])]; exact ⟨rfl, hK2'.below.trans hb3⟩⟩
    | ok mq =>
      obtain ⟨m2, q2⟩ := mq
      rw [hy] at hN2
      have HY : Hid (rdNum s.data.toList 16 q1 = .ok (m2, q2)) := hy
      obtain ⟨hm2, hq2, hq2l⟩ := rdNum_ok hy
      clear hy
      rw [len_eq] at hq2l
      by_cases hc : m2 = m
      · have ec : ((m2 : Int) == (m : Int)) = true := by simp [hc]
        have HC : Hid (m2 = 65535 - n) := by rw [HM2.out]; exact hc
        have hQ1 := fun w => hRequire_ok 10 w
        clear hc
        go_wp2_with fail
        refine hN2.mono ?_
        rintro e w3 ⟨rfl, hR3, hK3⟩
        have hK3' := hK2'.trans hK3
        by_cases hroom : text.length + n ≤ most
        · have hQ2 := rdRoom_ok rb s most q2 _ fx bk tv text w3 hR3 n hm hroom
          go_wp2_with fail
          refine (hQ1 _).mono ?_
          rintro e w4 ⟨rfl, hw4⟩
          rw [hw4]
          clear hw4 w4
          by_cases hsh : st + 4 + n ≤ s.size
          · have esh : decide ((n : Int) ≤ (s.size : Int) - ((st : Int) + 4)) = true := decide_eq_true (by omega)
            have hQ3 := fun w => hRequire_ok 11 w
            go_wp2_with (go_at_call 50; go_must (refine hQ2.mono ?_; rintro e w5 ⟨rfl, hR5, hK5⟩; have c0 := hR5.cells.1))
            have hK5' := hK3'.trans hK5
            obtain ⟨ta, tc, rfl⟩ := own_shape hR5.row
            have c2 := hR5.cells.2.2.1
            have c1 := hR5.cells.2.1
            have f2 := hR5.free 2
            have f1' := hR5.free 1
            have hrowD : w5.drew.ownsRow (rb + 1) 5 1 (.slice ta text.length tc) text.length (Lib.byteCells text) := hR5.row
            obtain ⟨lo, hlo⟩ : ∃ lo, st + 4 = lo := ⟨_, rfl⟩
            have HM : Hid (IsBytes w5.drew (.slice (if cap = lo then a else a.map fun x => x.add lo) n (cap - lo)) ⟨((s.data.toList.drop lo).take n).toArray⟩) := (hR5.drew.src.is).mid (by rw [← hlo]; exact hsh)
            have htz : (⟨((s.data.toList.drop lo).take n).toArray⟩ : ByteArray).size = n := by
              rw [← len_eq]
              show ((s.data.toList.drop lo).take n).toArray.toList.length = n
              rw [List.toList_toArray, List.length_take, List.length_drop, len_eq]
              omega
            obtain ⟨R2, hR2e⟩ : ∃ R2, text ++ (⟨((s.data.toList.drop lo).take n).toArray⟩ : ByteArray).data.toList = R2 := ⟨_, rfl⟩
            have HR2 : Hid (text ++ (⟨((s.data.toList.drop lo).take n).toArray⟩ : ByteArray).data.toList = R2) := hR2e
            have HRes : Hid (R = .ok ((st + 4 + n) * 8, R2)) := by
              unfold Hid
              rw [← HR.out]
              unfold rawL
              have hl5 : st + 4 + n ≤ s.data.toList.length := by rw [len_eq]; exact hsh
              simp only [HST.out, HX.out, HY.out, HC.out, hroom, hl5, if_true, ← hR2e, ← hlo]
            have HL : Hid (R2.length = text.length + n) := by
              unfold Hid
              rw [← hR2e, List.length_append, len_eq, htz]
            clear hR2e
            have hrb5 := block_lt hR5.box
            generalize (⟨((s.data.toList.drop lo).take n).toArray⟩ : ByteArray) = tt at *
            have y1 : (0 : Int) ≤ (st : Int) + 4 := by omega
            have y2 : (st : Int) + 4 + (n : Int) ≤ (cap : Int) := by omega
            have y3 : (st : Int) + 4 ≤ (st : Int) + 4 + (n : Int) := by omega
            have y4 : IntKind.i64.wrap ((st : Int) + 4 + (n : Int)) = (st : Int) + 4 + (n : Int) := by rw [IntKind.wrap_i64]; omega
            have z1 : ((st : Int) + 4).toNat = lo := by omega
            have z2 : ((st : Int) + 4 + (n : Int)).toNat = lo + n := by omega
            have HLO : Hid (st + 4 = lo) := hlo
            clear hlo
            have hTT : text.length + tt.size ≤ 3000000000 := by omega
            go_wp2_with (go_at_call 49; go_must (refine (hQ3 _).mono ?_; rintro e w4 ⟨rfl, hw4⟩; rw [hw4]; clear hw4 w4))
            refine until_region (S := fun w' => w'.cell? ⟨rb, 2, none⟩ = some (.slice ta text.length tc) ∧ w'.cell? ⟨rb, 0, none⟩ = some (.slice a s.size cap)) (z := 17) (by kernel_rfl) (⟨c2, c0⟩) (fun hS => ?_)
            replace hS : w5.drew.cell? ⟨rb, 2, none⟩ = some (.slice ta text.length tc) ∧ w5.drew.cell? ⟨rb, 0, none⟩ = some (.slice a s.size cap) := hS
            refine until_take (i := 0) (oi := { dst := some 39, op := Go.Op.move (Go.Operand.tmp 0), type := 69, pos := "reader.go:61", after := #[], guard := none }) (v := ?v1) rfl (by kernel_rfl) (by kernel_rfl) (by kernel_rfl) (by kernel_rfl) (fun _ _ _ h => h) (Or.inl ⟨by rfl, ?h1⟩) hS ?r1
            case h1 =>
              intro w hSw
              replace hSw : w.cell? ⟨rb, 2, none⟩ = some (.slice ta text.length tc) ∧ w.cell? ⟨rb, 0, none⟩ = some (.slice a s.size cap) := hSw
              obtain ⟨hSw, hSw2⟩ := hSw
              go_simp
              try with_reducible rfl
            simp only [Act.put, List.setIfInBounds_toArray, List.set_cons_zero, List.set_cons_succ]
            refine until_take (i := 1) (oi := { dst := some 40, op := Go.Op.move (Go.Operand.tmp 0), type := 69, pos := "reader.go:61", after := #[], guard := none }) (v := ?v2) rfl (by kernel_rfl) (by kernel_rfl) (by kernel_rfl) (by kernel_rfl) (fun _ _ _ h => h) (Or.inl ⟨by rfl, ?h2⟩) hS ?r2
            case h2 =>
              intro w hSw
              replace hSw : w.cell? ⟨rb, 2, none⟩ = some (.slice ta text.length tc) ∧ w.cell? ⟨rb, 0, none⟩ = some (.slice a s.size cap) := hSw
              obtain ⟨hSw, hSw2⟩ := hSw
              go_simp
              try with_reducible rfl
            simp only [Act.put, List.setIfInBounds_toArray, List.set_cons_zero, List.set_cons_succ]
            refine until_take (i := 2) (oi := { dst := some 41, op := Go.Op.nilCheck (Go.Operand.tmp 40), type := 0, pos := "reader.go:61", after := #[{ on := 1, ground := Go.Ground.data }], guard := none }) (v := ?v3) rfl (by kernel_rfl) (by kernel_rfl) (by kernel_rfl) (by kernel_rfl) (fun _ _ _ h => h) (Or.inl ⟨by rfl, ?h3⟩) hS ?r3
            case h3 =>
              intro w hSw
              replace hSw : w.cell? ⟨rb, 2, none⟩ = some (.slice ta text.length tc) ∧ w.cell? ⟨rb, 0, none⟩ = some (.slice a s.size cap) := hSw
              obtain ⟨hSw, hSw2⟩ := hSw
              go_simp
              try with_reducible rfl
            simp only [Act.put, List.setIfInBounds_toArray, List.set_cons_zero, List.set_cons_succ]
            refine until_take (i := 3) (oi := { dst := some 42, op := Go.Op.fieldAddr 58 (Go.Operand.tmp 41) 2, type := 0, pos := "reader.go:61", after := #[{ on := 2, ground := Go.Ground.data }], guard := none }) (v := ?v4) rfl (by kernel_rfl) (by kernel_rfl) (by kernel_rfl) (by kernel_rfl) (fun _ _ _ h => h) (Or.inl ⟨by rfl, ?h4⟩) hS ?r4
            case h4 =>
              intro w hSw
              replace hSw : w.cell? ⟨rb, 2, none⟩ = some (.slice ta text.length tc) ∧ w.cell? ⟨rb, 0, none⟩ = some (.slice a s.size cap) := hSw
              obtain ⟨hSw, hSw2⟩ := hSw
              go_simp
              try with_reducible rfl
            simp only [Act.put, List.setIfInBounds_toArray, List.set_cons_zero, List.set_cons_succ]
            refine until_take (i := 4) (oi := { dst := some 43, op := Go.Op.load 22 (Go.Operand.tmp 42), type := 22, pos := "reader.go:61", after := #[{ on := 3, ground := Go.Ground.data }], guard := none }) (v := ?v5) rfl (by kernel_rfl) (by kernel_rfl) (by kernel_rfl) (by kernel_rfl) (fun _ _ _ h => h) (Or.inl ⟨by rfl, ?h5⟩) hS ?r5
            case h5 =>
              intro w hSw
              replace hSw : w.cell? ⟨rb, 2, none⟩ = some (.slice ta text.length tc) ∧ w.cell? ⟨rb, 0, none⟩ = some (.slice a s.size cap) := hSw
              obtain ⟨hSw, hSw2⟩ := hSw
              go_simp
              try with_reducible rfl
            simp only [Act.put, List.setIfInBounds_toArray, List.set_cons_zero, List.set_cons_succ]
            refine until_take (i := 5) (oi := { dst := some 44, op := Go.Op.move (Go.Operand.tmp 0), type := 69, pos := "reader.go:61", after := #[], guard := none }) (v := ?v6) rfl (by kernel_rfl) (by kernel_rfl) (by kernel_rfl) (by kernel_rfl) (fun _ _ _ h => h) (Or.inl ⟨by rfl, ?h6⟩) hS ?r6
            case h6 =>
              intro w hSw
              replace hSw : w.cell? ⟨rb, 2, none⟩ = some (.slice ta text.length tc) ∧ w.cell? ⟨rb, 0, none⟩ = some (.slice a s.size cap) := hSw
              obtain ⟨hSw, hSw2⟩ := hSw
              go_simp
              try with_reducible rfl
            simp only [Act.put, List.setIfInBounds_toArray, List.set_cons_zero, List.set_cons_succ]
            refine until_take (i := 6) (oi := { dst := some 45, op := Go.Op.nilCheck (Go.Operand.tmp 44), type := 0, pos := "reader.go:61", after := #[{ on := 5, ground := Go.Ground.data }], guard := none }) (v := ?v7) rfl (by kernel_rfl) (by kernel_rfl) (by kernel_rfl) (by kernel_rfl) (fun _ _ _ h => h) (Or.inl ⟨by rfl, ?h7⟩) hS ?r7
            case h7 =>
              intro w hSw
              replace hSw : w.cell? ⟨rb, 2, none⟩ = some (.slice ta text.length tc) ∧ w.cell? ⟨rb, 0, none⟩ = some (.slice a s.size cap) := hSw
              obtain ⟨hSw, hSw2⟩ := hSw
              go_simp
              try with_reducible rfl
            simp only [Act.put, List.setIfInBounds_toArray, List.set_cons_zero, List.set_cons_succ]
            refine until_take (i := 7) (oi := { dst := some 46, op := Go.Op.fieldAddr 58 (Go.Operand.tmp 45) 0, type := 0, pos := "reader.go:61", after := #[{ on := 6, ground := Go.Ground.data }], guard := none }) (v := ?v8) rfl (by kernel_rfl) (by kernel_rfl) (by kernel_rfl) (by kernel_rfl) (fun _ _ _ h => h) (Or.inl ⟨by rfl, ?h8⟩) hS ?r8
            case h8 =>
              intro w hSw
              replace hSw : w.cell? ⟨rb, 2, none⟩ = some (.slice ta text.length tc) ∧ w.cell? ⟨rb, 0, none⟩ = some (.slice a s.size cap) := hSw
              obtain ⟨hSw, hSw2⟩ := hSw
              go_simp
              try with_reducible rfl
            simp only [Act.put, List.setIfInBounds_toArray, List.set_cons_zero, List.set_cons_succ]
            refine until_take (i := 8) (oi := { dst := some 47, op := Go.Op.load 22 (Go.Operand.tmp 46), type := 22, pos := "reader.go:61", after := #[{ on := 7, ground := Go.Ground.data }], guard := none }) (v := ?v9) rfl (by kernel_rfl) (by kernel_rfl) (by kernel_rfl) (by kernel_rfl) (fun _ _ _ h => h) (Or.inl ⟨by rfl, ?h9⟩) hS ?r9
            case h9 =>
              intro w hSw
              replace hSw : w.cell? ⟨rb, 2, none⟩ = some (.slice ta text.length tc) ∧ w.cell? ⟨rb, 0, none⟩ = some (.slice a s.size cap) := hSw
              obtain ⟨hSw, hSw2⟩ := hSw
              go_simp
              try with_reducible rfl
            simp only [Act.put, List.setIfInBounds_toArray, List.set_cons_zero, List.set_cons_succ]
            refine until_take (i := 9) (oi := { dst := some 48, op := Go.Op.move (Go.Operand.tmp 2), type := 3, pos := "reader.go:61", after := #[], guard := none }) (v := ?v10) rfl (by kernel_rfl) (by kernel_rfl) (by kernel_rfl) (by kernel_rfl) (fun _ _ _ h => h) (Or.inl ⟨by rfl, ?h10⟩) hS ?r10
            case h10 =>
              intro w hSw
              replace hSw : w.cell? ⟨rb, 2, none⟩ = some (.slice ta text.length tc) ∧ w.cell? ⟨rb, 0, none⟩ = some (.slice a s.size cap) := hSw
              obtain ⟨hSw, hSw2⟩ := hSw
              go_simp
              try with_reducible rfl
            simp only [Act.put, List.setIfInBounds_toArray, List.set_cons_zero, List.set_cons_succ]
            refine until_take (i := 10) (oi := { dst := some 49, op := Go.Op.move (Go.Operand.tmp 2), type := 3, pos := "reader.go:61", after := #[], guard := none }) (v := ?v11) rfl (by kernel_rfl) (by kernel_rfl) (by kernel_rfl) (by kernel_rfl) (fun _ _ _ h => h) (Or.inl ⟨by rfl, ?h11⟩) hS ?r11
            case h11 =>
              intro w hSw
              replace hSw : w.cell? ⟨rb, 2, none⟩ = some (.slice ta text.length tc) ∧ w.cell? ⟨rb, 0, none⟩ = some (.slice a s.size cap) := hSw
              obtain ⟨hSw, hSw2⟩ := hSw
              go_simp
              try with_reducible rfl
            simp only [Act.put, List.setIfInBounds_toArray, List.set_cons_zero, List.set_cons_succ]
            refine until_take (i := 11) (oi := { dst := some 50, op := Go.Op.move (Go.Operand.tmp 3), type := 3, pos := "reader.go:61", after := #[], guard := none }) (v := ?v12) rfl (by kernel_rfl) (by kernel_rfl) (by kernel_rfl) (by kernel_rfl) (fun _ _ _ h => h) (Or.inl ⟨by rfl, ?h12⟩) hS ?r12
            case h12 =>
              intro w hSw
              replace hSw : w.cell? ⟨rb, 2, none⟩ = some (.slice ta text.length tc) ∧ w.cell? ⟨rb, 0, none⟩ = some (.slice a s.size cap) := hSw
              obtain ⟨hSw, hSw2⟩ := hSw
              go_simp
              try with_reducible rfl
            simp only [Act.put, List.setIfInBounds_toArray, List.set_cons_zero, List.set_cons_succ]
            refine until_take (i := 12) (oi := { dst := some 51, op := Go.Op.binOp Go.BinOp.add 3 (Go.Operand.tmp 49) (Go.Operand.tmp 50) 3, type := 3, pos := "reader.go:61", after := #[{ on := 10, ground := Go.Ground.data }, { on := 11, ground := Go.Ground.data }], guard := none }) (v := ?v13) rfl (by kernel_rfl) (by kernel_rfl) (by kernel_rfl) (by kernel_rfl) (fun _ _ _ h => h) (Or.inl ⟨by rfl, ?h13⟩) hS ?r13
            case h13 =>
              intro w hSw
              replace hSw : w.cell? ⟨rb, 2, none⟩ = some (.slice ta text.length tc) ∧ w.cell? ⟨rb, 0, none⟩ = some (.slice a s.size cap) := hSw
              obtain ⟨hSw, hSw2⟩ := hSw
              go_simp
              try with_reducible rfl
            simp only [Act.put, List.setIfInBounds_toArray, List.set_cons_zero, List.set_cons_succ]
            refine until_take (i := 13) (oi := { dst := some 52, op := Go.Op.slice 22 (Go.Operand.tmp 47) (some (Go.Operand.tmp 48)) (some (Go.Operand.tmp 51)) none, type := 22, pos := "reader.go:61", after := #[{ on := 8, ground := Go.Ground.data }, { on := 9, ground := Go.Ground.data }, { on := 12, ground := Go.Ground.data }], guard := none }) (v := ?v14) rfl (by kernel_rfl) (by kernel_rfl) (by kernel_rfl) (by kernel_rfl) (fun _ _ _ h => h) (Or.inl ⟨by rfl, ?h14⟩) hS ?r14
            case h14 =>
              intro w hSw
              replace hSw : w.cell? ⟨rb, 2, none⟩ = some (.slice ta text.length tc) ∧ w.cell? ⟨rb, 0, none⟩ = some (.slice a s.size cap) := hSw
              obtain ⟨hSw, hSw2⟩ := hSw
              go_simp
              try with_reducible rfl
            simp only [Act.put, List.setIfInBounds_toArray, List.set_cons_zero, List.set_cons_succ]
            refine until_one (i := 14) (oi := { dst := some 53, op := Go.Op.call { callee := Go.Callee.builtin Go.Builtin.append, args := #[Go.Operand.tmp 43, Go.Operand.tmp 52], argTypes := #[22, 22] }, type := 22, pos := "reader.go:61", after := #[{ on := 4, ground := Go.Ground.data }, { on := 13, ground := Go.Ground.data }], guard := none }) rfl (by kernel_rfl) (fun K hK => ?_)
            refine step_append_grown rfl (.tmp 43) (.tmp 52) rfl (rb + 1) (.slice ta text.length tc) text (by simp [Act.eval]) hrowD (.slice (if cap = lo then a else a.map fun x => x.add lo) n (cap - lo)) tt (by simp [Act.eval]) HM.out (by omega) (by simp; omega) R2 HR2.out ?_
            intro a5 cap5 w6 hown5 hgrow
            obtain ⟨hR7, hK7, hcell7, hfr7⟩ := (hR5.drew).step (Below.refl _ _) hgrow hown5
            have hcell0 : w6.cell? ⟨rb, 0, none⟩ = some (.slice a s.size cap) := by
              have hk := hgrow.block rb (block_lt hR5.box) (fun e => by have := (World.ownsRow.lt hrowD rb e.symm).1; omega)
              exact (World.cell?_of_block (w := w5) (a := ⟨rb, 0, none⟩) hk).trans c0
            have HR7 : Hid (Rd rb s most (.slice a s.size cap) fx bk q2 R2 (.slice a5 R2.length cap5) (w6.setCell ⟨rb, 2, none⟩ (.slice a5 R2.length cap5))) := hR7
            clear hR7 hown5 hgrow
            refine hK.out _ _ (fun _ => ⟨hcell7, hcell0⟩) (fun hS' => ?_)
            replace hS := hS' (by decide)
            clear hS'
            try dsimp only at hS
            clear hK K
            refine until_one (i := 15) (oi := { dst := some 54, op := Go.Op.nilCheck (Go.Operand.tmp 39), type := 0, pos := "reader.go:61", after := #[{ on := 0, ground := Go.Ground.data }, { on := 0, ground := Go.Ground.phase }, { on := 1, ground := Go.Ground.phase }, { on := 2, ground := Go.Ground.phase }, { on := 3, ground := Go.Ground.phase }, { on := 4, ground := Go.Ground.phase }, { on := 5, ground := Go.Ground.phase }, { on := 6, ground := Go.Ground.phase }, { on := 7, ground := Go.Ground.phase }, { on := 8, ground := Go.Ground.phase }, { on := 9, ground := Go.Ground.phase }, { on := 10, ground := Go.Ground.phase }, { on := 11, ground := Go.Ground.phase }, { on := 12, ground := Go.Ground.phase }, { on := 13, ground := Go.Ground.phase }, { on := 14, ground := Go.Ground.phase }], guard := none }) rfl (by kernel_rfl) (fun K hK => ?_)
            go_simp
            refine hK.out _ _ (fun _ => hS) (fun hS' => ?_)
            replace hS := hS' (by decide)
            clear hS'
            try dsimp only at hS
            clear hK K
            refine until_take (i := 16) (oi := { dst := some 55, op := Go.Op.fieldAddr 58 (Go.Operand.tmp 54) 2, type := 0, pos := "reader.go:61", after := #[{ on := 15, ground := Go.Ground.data }, { on := 0, ground := Go.Ground.phase }, { on := 1, ground := Go.Ground.phase }, { on := 2, ground := Go.Ground.phase }, { on := 3, ground := Go.Ground.phase }, { on := 4, ground := Go.Ground.phase }, { on := 5, ground := Go.Ground.phase }, { on := 6, ground := Go.Ground.phase }, { on := 7, ground := Go.Ground.phase }, { on := 8, ground := Go.Ground.phase }, { on := 9, ground := Go.Ground.phase }, { on := 10, ground := Go.Ground.phase }, { on := 11, ground := Go.Ground.phase }, { on := 12, ground := Go.Ground.phase }, { on := 13, ground := Go.Ground.phase }, { on := 14, ground := Go.Ground.phase }], guard := none }) (v := ?v15) rfl (by kernel_rfl) (by kernel_rfl) (by kernel_rfl) (by kernel_rfl) (fun _ _ _ h => h) (Or.inl ⟨by rfl, ?h15⟩) hS ?r15
            case h15 =>
              intro w hSw
              replace hSw : w.cell? ⟨rb, 2, none⟩ = some (.slice ta text.length tc) ∧ w.cell? ⟨rb, 0, none⟩ = some (.slice a s.size cap) := hSw
              obtain ⟨hSw, hSw2⟩ := hSw
              go_simp
              try with_reducible rfl
            simp only [Act.put, List.setIfInBounds_toArray, List.set_cons_zero, List.set_cons_succ]
            refine until_one (i := 17) (oi := { dst := none, op := Go.Op.store 22 (Go.Operand.tmp 55) (Go.Operand.tmp 53), type := 0, pos := "reader.go:61", after := #[{ on := 16, ground := Go.Ground.data }, { on := 14, ground := Go.Ground.data }, { on := 14, ground := Go.Ground.chain }, { on := 0, ground := Go.Ground.phase }, { on := 1, ground := Go.Ground.phase }, { on := 2, ground := Go.Ground.phase }, { on := 3, ground := Go.Ground.phase }, { on := 4, ground := Go.Ground.phase }, { on := 5, ground := Go.Ground.phase }, { on := 6, ground := Go.Ground.phase }, { on := 7, ground := Go.Ground.phase }, { on := 8, ground := Go.Ground.phase }, { on := 9, ground := Go.Ground.phase }, { on := 10, ground := Go.Ground.phase }, { on := 11, ground := Go.Ground.phase }, { on := 12, ground := Go.Ground.phase }, { on := 13, ground := Go.Ground.phase }, { on := 14, ground := Go.Ground.phase }], guard := none }) rfl (by kernel_rfl) (fun K hK => ?_)
            go_simp
            refine hK.out _ _ (fun h => absurd rfl h) (fun _ => ?_)
            clear hK K
            refine until_done (by kernel_rfl) ?_ _
            have c1' := HR7.out.cells.2.1
            have f1'' := HR7.out.free 1
            go_wp2
            all_goals
              go_end0
              rw [HRes.out]
              refine ⟨rfl, ⟨.slice a5 R2.length cap5, ?_⟩, ((hK5'.trans (Kept.trans (Kept.refl rb w5).drew hK7))).setCell 1 _⟩
              have hfin := HR7.out.at (q := (st + 4 + n) * 8) (by omega)
              rw [show (((st + 4 + n) * 8 : Nat) : Int) = (st : Int) * 8 + 16 + 16 + (n : Int) * 8 by omega] at hfin
              first | exact hfin | (rw [show cap = lo from by assumption] at hfin; exact hfin)
          · have esh : decide ((n : Int) ≤ (s.size : Int) - ((st : Int) + 4)) = false := decide_eq_false (by omega)
            have hQ3 := fun w => hRequire_err 11 w
            have hl5 : ¬ st + 4 + n ≤ s.data.toList.length := by rw [len_eq]; exact hsh
            go_wp2_with (go_at_call 50; go_must (refine hQ2.mono ?_; rintro e w5 ⟨rfl, hR5, hK5⟩; have c0 := hR5.cells.1))
            have hK5' := hK3'.trans hK5
            go_wp2_with (go_at_call 49; go_must (refine (hQ3 _).mono ?_; rintro e w4 ⟨rfl, hw4⟩; rw [hw4]; clear hw4 w4))
            exact ⟨rfl, by rw [show R = .error 11 by (rw [← HR.out]; unfold rawL; simp only [HST.out, HX.out, HY.out, HC.out, hroom, if_true, hl5, if_false])]; exact ⟨rfl, hK5'.below⟩⟩
        · have hQ2 := rdRoom_err rb s most q2 _ fx bk tv text w3 hR3 n hm (by omega) hroom
          go_wp2_with (first | (go_at_call 49; go_must (refine (hQ1 _).mono ?_; rintro e w4 ⟨rfl, hw4⟩; rw [hw4]; clear hw4 w4)) | (go_at_call 50; go_must (refine hQ2.mono ?_; rintro e w5 ⟨rfl, hb5⟩)))
          exact ⟨rfl, by rw [show R = .error 12 by (rw [← HR.out]; unfold rawL; simp only [HST.out, HX.out, HY.out, HC.out, hroom, if_true, if_false])]; exact ⟨rfl, hK3'.below.trans hb5⟩⟩
      · have ec : ((m2 : Int) == (m : Int)) = false := by simp; omega
        have HC : Hid (¬ m2 = 65535 - n) := by rw [HM2.out]; exact hc
        have hQ1 := fun w => hRequire_err 10 w
        go_wp2_with fail
        refine hN2.mono ?_
        rintro e w3 ⟨rfl, hR3, hK3⟩
        have hK3' := hK2'.trans hK3
        go_wp2_with (go_at_call 49; go_must (refine (hQ1 _).mono ?_; rintro e w4 ⟨rfl, hw4⟩; rw [hw4]; clear hw4 w4))
        exact ⟨rfl, by rw [show R = .error 10 by (rw [← HR.out]; unfold rawL; simp only [HST.out, HX.out, HY.out, HC.out, if_false])]; exact ⟨rfl, hK3'.below⟩⟩
end Go.Proofs.Ytbhnlomppobbkaa
