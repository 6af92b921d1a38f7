/-
  Package moment: the reader: breaking off, has, sign.
-/
import Derived.Test.YtbepjlhknmhmeaaDoorHGen
import Derived.Test.YtbepjlhknmhmeaaDoorMText
namespace Go.Proofs.YtbepjlhknmhmeaaDoor
open Go.RowKit Ch
set_option maxRecDepth 100000

theorem bl2 {a b c : World} (h1 : Below a.heap.size a b) (h2 : Below b.heap.size b c) : Below a.heap.size a c := h1.trans (h2.mono h1.size)
theorem alB (w : World) (o : Obj) : Below w.heap.size w (w.alloc o) := (Below.refl _ w).alloc (Nat.le_refl _) _
/-- A panic with an error's number. -/
def PE (k : Nat) : List PanicEntry := [{ v := .iface 23 (.int .i64 (k : Int)), recovered := false }]
set_option maxHeartbeats 1000000 in
theorem mNeed_ok (k : Int) (w : World) : Calls Tryd.prog 29 #[.bool true, .int .i64 k] w fun e w' => e = .returned (.tuple #[]) ∧ w' = w := by
  go_enter Tryd.func29, Tryd.ntmps29
  go_wp2
  go_end0
  exact ⟨rfl, rfl⟩
set_option maxHeartbeats 1000000 in
theorem mNeed_err (k : Nat) (w : World) : Calls Tryd.prog 29 #[.bool false, .int .i64 (k : Int)] w fun e w' => e = .panicked (PE k) ∧ w' = w := by
  go_enter Tryd.func29, Tryd.ntmps29
  go_wp2
  exact ⟨rfl, rfl, rfl⟩
/-- All blocks but these are kept. -/
structure KeptX (ps : List Nat) (w w' : World) : Prop where
  os : w'.os = w.os
  tape : w'.tape = w.tape
  output : w'.output = w.output
  size : w.heap.size ≤ w'.heap.size
  block : ∀ k, k < w.heap.size → k ∉ ps → w'.heap[k]? = w.heap[k]?
theorem KeptX.of {ps : List Nat} {w w' : World} (h : Below w.heap.size w w') : KeptX ps w w' := ⟨h.os, h.tape, h.output, h.size, fun k hk _ => h.block k hk⟩
theorem KeptX.refl (ps : List Nat) (w : World) : KeptX ps w w := KeptX.of (Below.refl _ _)
theorem KeptX.trans {ps : List Nat} {a b c : World} (h : KeptX ps a b) (k : KeptX ps b c) : KeptX ps a c :=
  ⟨k.os.trans h.os, k.tape.trans h.tape, k.output.trans h.output, Nat.le_trans h.size k.size, fun i hi hn => (k.block i (Nat.lt_of_lt_of_le hi h.size) hn).trans (h.block i hi hn)⟩
theorem KeptX.below {ps : List Nat} {w w' : World} {B : Nat} (h : KeptX ps w w') (hB : B ≤ w.heap.size) (hp : ∀ p ∈ ps, B ≤ p) : Below B w w' :=
  ⟨h.os, h.tape, h.output, h.size, fun k hk => h.block k (by omega) (fun hm => by have := hp k hm; omega)⟩
theorem KeptX.one {rb : Nat} {w w' : World} (h : KeptX [rb] w w') (hr : rb < w.heap.size) : Below rb w w' := h.below (by omega) (fun p hp => by simp at hp; omega)
theorem keptX_set {ps : List Nat} {p i : Nat} {v : Value} (w : World) (h : p ∈ ps) : KeptX ps w (w.setCell ⟨p, i, none⟩ v) :=
  ⟨rfl, rfl, rfl, by simp, fun k _ hn => Below.heap_setCell _ _ _ _ (fun e => hn (e ▸ h))⟩
/-- The reader: what is left. -/
def Rd (q : Nat) (R : ByteArray) (W : World) : Prop := W.heap[q]? = some (.cells #[.string R] 49 (0, 0))
theorem Rd.lt {q : Nat} {R : ByteArray} {W : World} (h : Rd q R W) : q < W.heap.size := block_lt h
theorem Rd.later {q : Nat} {R : ByteArray} {W W' : World} (h : Rd q R W) (hb : Below W.heap.size W W') : Rd q R W' := (hb.block _ (block_lt h)).trans h
theorem rd_set {q : Nat} {R S : ByteArray} {W : World} (h : Rd q R W) : Rd q S (W.setCell ⟨q, 0, none⟩ (.string S)) := setCell_block (i := 0) (u := .string S) h
theorem rest_dataM (R : ByteArray) (k : Nat) : (R.extract k R.size).data.toList = R.data.toList.drop k := by
  rw [Lib.extract_data, ← len_eq, ← List.length_drop, List.take_length]
/-- What has answers. -/
def HasSays (q : Nat) (R : ByteArray) (c : UInt8) (e : Ending) (w w' : World) : Prop :=
  (∃ S : ByteArray, R.data.toList = c :: S.data.toList ∧ e = .returned (.bool true) ∧ Rd q S w' ∧ KeptX [q] w w') ∨
  ((∀ t, R.data.toList ≠ c :: t) ∧ e = .returned (.bool false) ∧ w' = w)
set_option maxHeartbeats 2000000 in
theorem mHas_any (q : Nat) (R : ByteArray) (c : UInt8) (w : World) (h : Rd q R w) :
    Calls Tryd.prog 58 #[.pointer (some ⟨q, 0, none⟩), .int .u8 (c.toNat : Int)] w fun e w' => HasSays q R c e w w' := by
  have g0 := block_cell (v := .string R) 0 h rfl
  have r0 := block_free 0 h
  by_cases hlt : 0 < R.size
  · obtain ⟨x, hx, hdr, hcc⟩ := byte_at8 R 0 hlt
    rw [List.drop_zero] at hdr
    have hne : R.toList.isEmpty = false := by rw [Lib.toList_data, hdr]; rfl
    by_cases hc : x = c
    · subst hc
      have HF := show Hid (HasSays q R x (.returned (.bool true)) w (w.setCell ⟨q, 0, none⟩ (.string (R.extract 1 R.size)))) from .inl ⟨_, by rw [rest_dataM]; exact hdr, rfl, rd_set h, keptX_set w (by simp)⟩
      have ec : ((x.toNat : Int) == (x.toNat : Int)) = true := by simp
      clear hx hdr h
      go_enter Tryd.func58, Tryd.ntmps58
      go_wp2_with fail
      go_ret
      exact HF.out
    · have HF := show Hid (HasSays q R c (.returned (.bool false)) w w) from .inr ⟨fun t ht => hc (by rw [hdr] at ht; exact (List.cons.inj ht).1), rfl, rfl⟩
      have ec : ((x.toNat : Int) == (c.toNat : Int)) = false := beq_eq_false_iff_ne.2 (fun h => hc (UInt8.toNat_inj.1 (by omega)))
      clear hx hdr h
      go_enter Tryd.func58, Tryd.ntmps58
      go_wp2_with fail
      go_ret
      exact HF.out
  · have h0 : R.data.toList = [] := List.eq_nil_of_length_eq_zero (by rw [len_eq]; omega)
    have hne : R.toList.isEmpty = true := by rw [Lib.toList_data, h0]; rfl
    have HF := show Hid (HasSays q R c (.returned (.bool false)) w w) from .inr ⟨fun t ht => (by rw [h0] at ht; cases ht), rfl, rfl⟩
    clear h0 h
    go_enter Tryd.func58, Tryd.ntmps58
    go_wp2_with fail
    go_ret
    exact HF.out
/-- What sign answers. -/
def SignSays (q : Nat) (R : ByteArray) (c : UInt8) (e : Ending) (w w' : World) : Prop :=
  (∃ S : ByteArray, signM c R.data.toList = some S.data.toList ∧ e = .returned (.tuple #[]) ∧ Rd q S w' ∧ KeptX [q] w w') ∨
  (signM c R.data.toList = none ∧ e = .panicked (PE 10) ∧ KeptX [q] w w')
set_option maxHeartbeats 2000000 in
theorem mSign_any (q : Nat) (R : ByteArray) (c : UInt8) (w : World) (h : Rd q R w) :
    Calls Tryd.prog 43 #[.pointer (some ⟨q, 0, none⟩), .int .u8 (c.toNat : Int)] w fun e w' => SignSays q R c e w w' := by
  have hH := mHas_any q R c w h
  clear h
  go_enter Tryd.func43, Tryd.ntmps43
  go_wp2_with fail
  refine hH.mono ?_
  rintro e w1 (⟨S, hS, rfl, hr, hk⟩ | ⟨hS, rfl, rfl⟩)
  · have HF := show Hid (SignSays q R c (.returned (.tuple #[])) w w1) from .inl ⟨S, by rw [hS, signM, if_pos rfl], rfl, hr, hk⟩
    have hN := mNeed_ok 10 w1
    clear hH hS hr hk
    go_wp2_with fail
    refine hN.mono ?_
    rintro e w2 ⟨rfl, rfl⟩
    go_wp2_with fail
    go_end0
    exact HF.out
  · have HF := show Hid (SignSays q R c (.panicked (PE 10)) w1 w1) from .inr ⟨by
      cases hl : R.data.toList with
      | nil => rfl
      | cons x t =>
        rw [signM, if_neg]
        intro hx
        subst hx
        exact hS t hl, rfl, KeptX.refl _ _⟩
    have hN := mNeed_err 10 w1
    clear hH hS
    go_wp2_with fail
    refine hN.mono ?_
    rintro e w2 ⟨rfl, rfl⟩
    go_wp2_with fail
    exact ⟨rfl, HF.out⟩
end Go.Proofs.YtbepjlhknmhmeaaDoor
