/-
  Package der: the reader: breaking off, next.
-/
import Derived.Test.YthdoginhbhdmbaaNBareEtc
import Derived.Test.YthdoginhbhdmbaaNTr
namespace Go.Proofs.Ythdoginhbhdmbaa
open Go.RowKit Ch
set_option maxRecDepth 100000

/-- A panic with an error's number. -/
def PE (k : Nat) : List PanicEntry := [{ v := .iface 28 (.int .i64 (k : Int)), recovered := false }]
set_option maxHeartbeats 1000000 in
theorem xNeed_ok (k : Int) (w : World) : Calls Try.prog 53 #[.bool true, .int .i64 k] w fun e w' => e = .returned (.tuple #[]) ∧ w' = w := by
  go_enter Try.func53, Try.ntmps53
  go_wp2
  go_end0
  exact ⟨rfl, rfl⟩
set_option maxHeartbeats 1000000 in
theorem xNeed_err (k : Nat) (w : World) : Calls Try.prog 53 #[.bool false, .int .i64 (k : Int)] w fun e w' => e = .panicked (PE k) ∧ w' = w := by
  go_enter Try.func53, Try.ntmps53
  go_wp2
  exact ⟨rfl, rfl, rfl⟩
/-- All blocks but these are kept. -/
structure KeptX (ps : List Nat) (w w' : World) : Prop where
  os : w'.os = w.os
  tape : w'.tape = w.tape
  output : w'.output = w.output
  size : w.heap.size ≤ w'.heap.size
  block : ∀ k, k < w.heap.size → k ∉ ps → w'.heap[k]? = w.heap[k]?
theorem KeptX.of {ps : List Nat} {w w' : World} (h : Below w.heap.size w w') : KeptX ps w w' := ⟨h.os, h.tape, h.output, h.size, fun k hk _ => h.block k hk⟩
theorem KeptX.refl (ps : List Nat) (w : World) : KeptX ps w w := KeptX.of (Below.refl _ _)
theorem KeptX.trans {ps : List Nat} {a b c : World} (h : KeptX ps a b) (k : KeptX ps b c) : KeptX ps a c :=
  ⟨k.os.trans h.os, k.tape.trans h.tape, k.output.trans h.output, Nat.le_trans h.size k.size, fun i hi hn => (k.block i (Nat.lt_of_lt_of_le hi h.size) hn).trans (h.block i hi hn)⟩
theorem KeptX.below {ps : List Nat} {w w' : World} {B : Nat} (h : KeptX ps w w') (hB : B ≤ w.heap.size) (hp : ∀ p ∈ ps, B ≤ p) : Below B w w' :=
  ⟨h.os, h.tape, h.output, h.size, fun k hk => h.block k (by omega) (fun hm => by have := hp k hm; omega)⟩
theorem KeptX.one {rb : Nat} {w w' : World} (h : KeptX [rb] w w') (hr : rb < w.heap.size) : Below rb w w' := h.below (by omega) (fun p hp => by simp at hp; omega)
theorem keptX_set {ps : List Nat} {p : Nat} {v : Value} (w : World) (h : p ∈ ps) : KeptX ps w (w.setCell ⟨p, 0, none⟩ v) :=
  ⟨rfl, rfl, rfl, by simp, fun k _ hn => Below.heap_setCell _ _ _ _ (fun e => hn (e ▸ h))⟩
/-- Bytes that lie below the reader. -/
def Src (rb : Nat) (v : Value) (l : List UInt8) (W : World) : Prop := ∃ W0, W0.heap.size ≤ rb ∧ IsBytes W0 v ⟨l.toArray⟩ ∧ Below W0.heap.size W0 W
theorem Src.is {rb : Nat} {v : Value} {l : List UInt8} {W : World} (h : Src rb v l W) : IsBytes W v ⟨l.toArray⟩ := by
  obtain ⟨W0, _, h1, h2⟩ := h
  exact h1.later h2
theorem Src.kept {rb : Nat} {v : Value} {l : List UInt8} {W W' : World} (h : Src rb v l W) (hk : KeptX [rb] W W') : Src rb v l W' := by
  obtain ⟨W0, h0, h1, h2⟩ := h
  exact ⟨W0, h0, h1, h2.trans (hk.below h2.size (fun p hp => by simp at hp; omega))⟩
theorem src_drop {rb : Nat} {y : Option Addr} {c : Nat} {l : List UInt8} {W : World} (h : Src rb (.slice y l.length c) l W) {k : Nat} (hk : k ≤ l.length) : Src rb (.slice (if c = k then y else y.map fun x => x.add k) (l.length - k) (c - k)) (l.drop k) W := by
  obtain ⟨W0, h0, h1, h2⟩ := h
  refine ⟨W0, h0, ?_, h2⟩
  have hz : (⟨l.toArray⟩ : ByteArray).size = l.length := size_of_list l
  have h3 := IsBytes.rest (s := ⟨l.toArray⟩) (by rw [hz]; exact h1) (k := k) (by rw [hz]; exact hk)
  have hseg : seg ⟨l.toArray⟩ k (⟨l.toArray⟩ : ByteArray).size = l.drop k := by
    unfold seg
    rw [hz, List.toList_toArray]
    exact List.take_of_length_le (by rw [List.length_drop]; omega)
  rw [hseg, hz] at h3
  exact h3
theorem src_take {rb : Nat} {y : Option Addr} {c : Nat} {l : List UInt8} {W : World} (h : Src rb (.slice y l.length c) l W) {k : Nat} (hk : k ≤ l.length) : Src rb (.slice y k c) (l.take k) W := by
  obtain ⟨W0, h0, h1, h2⟩ := h
  refine ⟨W0, h0, ?_, h2⟩
  have hz : (⟨l.toArray⟩ : ByteArray).size = l.length := size_of_list l
  have hz2 : (⟨(l.take k).toArray⟩ : ByteArray).size = k := by rw [size_of_list, List.length_take]; omega
  obtain ⟨a, cap, hv, hc, hm, hr⟩ := h1
  rw [hz] at hv hc hr
  simp only [Value.slice.injEq, true_and] at hv
  obtain ⟨rfl, rfl⟩ := hv
  refine ⟨y, c, by rw [hz2], by rw [hz2]; omega, hm, ?_⟩
  rw [hz2]
  rcases hr with ⟨h3, h4, h5⟩ | ⟨x, h3, h4⟩
  · exact .inl ⟨h3, by omega, h5⟩
  · refine .inr ⟨x, h3, ?_⟩
    rcases h4 with h4 | ⟨b, o, h5, h6, h7⟩
    · exact .inl (by omega)
    · refine .inr ⟨b, o, h5, h6, fun i hi => ?_⟩
      rw [hz2] at hi
      have h8 := h7 i (by rw [hz]; omega)
      have e : byte ⟨(l.take k).toArray⟩ (0 + i) = byte ⟨l.toArray⟩ (0 + i) := by
        rw [byte_list, byte_list, List.toList_toArray, List.toList_toArray, List.getElem?_take, if_pos (by omega)]
      rw [e]
      exact h8
/-- The reader: what is left. -/
def XRd (rb : Nat) (l : List UInt8) (W : World) : Prop := ∃ y c, W.heap[rb]? = some (.cells #[.slice y l.length c] 66 (0, 0)) ∧ l.length ≤ c ∧ Src rb (.slice y l.length c) l W
theorem XRd.lt {rb : Nat} {l : List UInt8} {W : World} (h : XRd rb l W) : rb < W.heap.size := by
  obtain ⟨y, c, h1, _⟩ := h
  exact block_lt h1
set_option maxHeartbeats 2000000 in
theorem xNext_ok (rb : Nat) (l : List UInt8) (k : Nat) (w : World) (h : XRd rb l w) (hk : k ≤ l.length) :
    Calls Try.prog 57 #[.pointer (some ⟨rb, 0, none⟩), .int .i64 (k : Int)] w fun e w' => (∃ y c, e = .returned (.slice y k c) ∧ k ≤ c ∧ Src rb (.slice y k c) (l.take k) w') ∧ XRd rb (l.drop k) w' ∧ KeptX [rb] w w' := by
  obtain ⟨y, c, hB, hlc, hS⟩ := h
  have hd := src_drop hS hk
  have ht := src_take hS hk
  have hX := setCell_block (i := 0) (u := .slice (if c = k then y else y.map fun x => x.add k) (l.length - k) (c - k)) hB
  have hK := keptX_set (ps := [rb]) (p := rb) (v := .slice (if c = k then y else y.map fun x => x.add k) (l.length - k) (c - k)) w (by simp)
  have HF := show Hid (Src rb (.slice y k c) (l.take k) (w.setCell ⟨rb, 0, none⟩ (.slice (if c = k then y else y.map fun x => x.add k) (l.length - k) (c - k))) ∧ XRd rb (l.drop k) (w.setCell ⟨rb, 0, none⟩ (.slice (if c = k then y else y.map fun x => x.add k) (l.length - k) (c - k))) ∧ KeptX [rb] w (w.setCell ⟨rb, 0, none⟩ (.slice (if c = k then y else y.map fun x => x.add k) (l.length - k) (c - k)))) from
    ⟨ht.kept hK, ⟨_, _, by rw [List.length_drop]; exact hX, by rw [List.length_drop]; omega, by rw [List.length_drop]; exact hd.kept hK⟩, hK⟩
  have g0 := block_cell (v := .slice y l.length c) 0 hB rfl
  have r0 := block_free 0 hB
  obtain ⟨n, hn⟩ : ∃ n, l.length = n := ⟨_, rfl⟩
  rw [hn] at HF hk hlc g0
  have hkn : (k : Int) ≤ (n : Int) := by omega
  have hkc : (k : Int) ≤ (c : Int) := by omega
  have hk0 : (0 : Int) ≤ (k : Int) := by omega
  have hR := fun wx => xNeed_ok 11 wx
  clear hS hd ht hX hK hB hn
  by_cases hck : c = k
  · subst hck
    obtain rfl : n = c := by omega
    rw [if_pos rfl, Nat.sub_self] at HF
    go_enter Try.func57, Try.ntmps57
    go_wp2_with fail
    refine (hR _).mono ?_
    rintro e w1 ⟨rfl, rfl⟩
    go_wp2_with fail
    go_ret
    exact ⟨⟨_, _, rfl, Nat.le_refl _, HF.out.1⟩, HF.out.2⟩
  · rw [if_neg hck] at HF
    go_enter Try.func57, Try.ntmps57
    go_wp2_with fail
    refine (hR _).mono ?_
    rintro e w1 ⟨rfl, rfl⟩
    go_wp2_with fail
    go_ret
    exact ⟨⟨_, _, rfl, by omega, HF.out.1⟩, HF.out.2⟩
set_option maxHeartbeats 2000000 in
theorem xNext_err (rb : Nat) (l : List UInt8) (k : Nat) (w : World) (h : XRd rb l w) (hk : l.length < k) :
    Calls Try.prog 57 #[.pointer (some ⟨rb, 0, none⟩), .int .i64 (k : Int)] w fun e w' => e = .panicked (PE 11) ∧ KeptX [rb] w w' := by
  obtain ⟨y, c, hB, hlc, hS⟩ := h
  have g0 := block_cell (v := .slice y l.length c) 0 hB rfl
  obtain ⟨n, hn⟩ : ∃ n, l.length = n := ⟨_, rfl⟩
  rw [hn] at hk g0
  have hkn : ¬ (k : Int) ≤ (n : Int) := by omega
  have hR := fun wx => xNeed_err 11 wx
  clear hS hB hn hlc
  go_enter Try.func57, Try.ntmps57
  go_wp2_with fail
  refine (hR _).mono ?_
  rintro e w1 ⟨rfl, rfl⟩
  exact ⟨rfl, rfl, KeptX.refl _ _⟩
end Go.Proofs.Ythdoginhbhdmbaa
