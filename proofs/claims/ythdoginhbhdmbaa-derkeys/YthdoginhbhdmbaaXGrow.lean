/-
  slices.Grow of no bytes, slices.Concat.
-/
import Derived.Test.YthdoginhbhdmbaaXAppK
import Derived.Test.YthdoginhbhdmbaaUSl
import Derived.Lib.AppendZerosOnto
namespace Go.Proofs.Ythdoginhbhdmbaa
open Go.RowKit Ch
set_option maxRecDepth 100000

theorem zero_cells (n : Nat) : (Builtin.zeroCells (Value.int .u8 0).cells n).size = n := by
  simp [Builtin.zeroCells, Value.cells]
theorem grow_made (n : Nat) (w : World) (h0 : 0 < n) (hn : n ≤ 1000000) : ∃ G u, n ≤ G ∧ (∀ ty, (Builtin.append_ #[24, 3] ty #[.slice none 0 0, .int .i64 (n : Int)]).run Try.prog w = .ok (.slice (some ⟨w.heap.size, 0, none⟩) n G) u) ∧ OwnL w.heap.size u (.slice (some ⟨w.heap.size, 0, none⟩) 0 G) [] ∧ Below w.heap.size w u := by
  obtain ⟨i0, hi, hz0, hz1, hz2⟩ := info5
  have hbig : n * i0.bytes ≤ 140737488355328 := by rw [hz2]; omega
  have h := fun ty => Lib.run_append_grow_zeros (P := Try.prog) w 24 3 ty 5 i0 (.int .u8 0) .i64 .i64 Try.underlying24 Try.underlying3 hi hz0 none 0 0 [] (run_firstCells_none w.drew i0.size 0 0 0) n h0 (by omega) (by omega) (by omega) (by omega) (growslice_fits (by omega) (by simpa using hbig))
  simp only [Nat.zero_add] at h
  have hG := grownCap_ge w n 0 5
  have hG2 := grownCap_le_maxLen w n 0 5 (by unfold maxLen; omega)
  refine ⟨_, _, hG, h, ⟨rfl, .inr ⟨w.heap.size, _, _, rfl, Nat.le_refl _, heap_push_at w.drew _, Nat.zero_le _, hG2, ?_, ?_⟩⟩, ((Below.refl _ w).drew).alloc (Nat.le_refl _) _⟩
  · simp [zero_cells]
    omega
  · simp [Lib.byteCells]
set_option maxHeartbeats 4000000 in
theorem sGrow_any (n : Nat) (w : World) (hn : n ≤ 1000000) :
    Calls Try.prog 63 #[.slice none 0 0, .int .i64 (n : Int)] w fun e w' => (∃ v, e = .returned v ∧ OwnL w.heap.size w' v []) ∧ Below w.heap.size w w' := by
  by_cases h0 : 0 < n
  · obtain ⟨G, u, hG, hr, ho, hb⟩ := grow_made n w h0 hn
    have hF := show Hid (OwnL w.heap.size u (.slice (some ⟨w.heap.size, 0, none⟩) 0 G) [] ∧ Below w.heap.size w u) from ⟨ho, hb⟩
    have h1 : ¬ ((n : Int) < 0) := by omega
    have h2 : IntKind.i64.wrap (n : Int) = (n : Int) := by rw [IntKind.wrap_i64]; omega
    have h3 : (0 : Int) < (n : Int) := by omega
    clear ho hb
    go_enter Try.func63, Try.ntmps63
    go_wp2_with (at_builtin; refine Lib.wpList_append_run _ rfl _ _ _ _ rfl _ _ rfl rfl _ _ (hr _) ?_)
    go_ret
    exact ⟨⟨_, rfl, hF.out.1⟩, hF.out.2⟩
  · obtain rfl : n = 0 := by omega
    go_enter Try.func63, Try.ntmps63
    go_wp2_with fail
    go_ret
    exact ⟨⟨_, rfl, World.ownsRow_nil _ _ _ _⟩, Below.refl _ _⟩
/-- Slices of bytes, one behind the other. -/
def flatL (ls : List ByteArray) : List UInt8 := (ls.map fun s => s.data.toList).flatten
theorem flatL_take {ls : List ByteArray} {i : Nat} {s : ByteArray} (h : ls[i]? = some s) : flatL (ls.take (i + 1)) = flatL (ls.take i) ++ s.data.toList := by
  unfold flatL
  rw [List.take_add_one, h]
  simp
theorem flatL_take_le (ls : List ByteArray) (i : Nat) : (flatL (ls.take i)).length ≤ (flatL ls).length := by
  have h : flatL ls = flatL (ls.take i) ++ flatL (ls.drop i) := by
    unfold flatL
    rw [← List.flatten_append, ← List.map_append, List.take_append_drop]
  rw [h, List.length_append]
  omega
set_option maxHeartbeats 8000000 in
theorem sConcat_any (x : Option Addr) (cx n : Nat) (ls : List ByteArray) (w : World) (hP : IsSl w (.slice x n cx) ls) (hn : ls.length = n) (hsz : (flatL ls).length ≤ 900000) (hl : n ≤ 100000) :
    Calls Try.prog 51 #[.slice x n cx] w fun e w' => (∃ v, e = .returned v ∧ OwnL w.heap.size w' v (flatL ls)) ∧ Below w.heap.size w w' := by
  have HP := show Hid (IsSl w (.slice x n cx) ls ∧ ls.length = n ∧ (flatL ls).length ≤ 900000) from ⟨hP, hn, hsz⟩
  have HC := show Hid (∀ i s, ls[i]? = some s → ∃ b o y c, x = some ⟨b, o, none⟩ ∧ ∀ u, Below w.heap.size w u → u.cell? ⟨b, o + i, none⟩ = some (.slice y s.size c) ∧ IsBytes u (.slice y s.size c) s) from fun i s hi => by
    obtain ⟨a, cap, h0, h1 | ⟨b, o, h1, h2, h3⟩⟩ := hP
    · have := (List.getElem?_eq_some_iff.1 hi).1
      omega
    · simp only [Value.slice.injEq] at h0
      obtain ⟨u, hu, hI⟩ := h3 i s hi
      obtain ⟨y, c, hv, _⟩ := id hI
      subst hv
      exact ⟨b, o, y, c, h0.1.trans h1, fun w' hb => ⟨(hb.cell (p := ⟨b, o + i, none⟩) h2).trans hu, hI.later hb⟩⟩
  clear hP hn hsz
  go_enter Try.func51, Try.ntmps51
  go_wp2_with fail
  go_loopw [3, 11] (fun a t wr => ∃ i m : Nat, i ≤ n ∧ a = .int .i64 (m : Int) ∧ t = .int .i64 (i : Int) ∧ Hid (m = (flatL (ls.take i)).length ∧ wr = w)) (fun _ t _ => n - (intOf t).toNat)
  case atStart => exact ⟨0, 0, by omega, rfl, rfl, rfl, rfl⟩
  case round =>
    obtain ⟨i, m, hi, rfl, rfl, hmw⟩ := hrel
    obtain ⟨hm, hww⟩ := hmw.out
    clear hmw
    subst hww
    by_cases hin : i < n
    · have hinI : (i : Int) < (n : Int) := by omega
      obtain ⟨s, hs⟩ : ∃ s, ls[i]? = some s := ⟨_, List.getElem?_eq_getElem (by rw [HP.out.2.1]; exact hin)⟩
      obtain ⟨b, o, y, c, rfl, hu⟩ := HC.out i s hs
      obtain ⟨g0, _⟩ := hu wr (Below.refl _ _)
      have hm2 : m + s.size = (flatL (ls.take (i + 1))).length := by rw [flatL_take hs, List.length_append, len_eq, hm]
      have hle := flatL_take_le ls (i + 1)
      have h9 := HP.out.2.2
      obtain ⟨k, hk⟩ : ∃ k, s.size = k := ⟨_, rfl⟩
      rw [hk] at g0 hm2
      have hsum : (m : Int) + (k : Int) = ((m + k : Nat) : Int) := by omega
      have wi : IntKind.i64.wrap ((i : Int) + 1) = (i : Int) + 1 := by rw [IntKind.wrap_i64]; omega
      have ws : IntKind.i64.wrap ((m : Int) + (k : Int)) = (m : Int) + (k : Int) := by rw [IntKind.wrap_i64]; omega
      have hneg : ¬ ((m : Int) + (k : Int) < 0) := by omega
      have HM := show Hid (m + k = (flatL (ls.take (i + 1))).length) from hm2
      clear hs hu hm hm2 hle h9 hk hsum
      go_wp2_with fail
      go_roundw
      case rel => exact ⟨i + 1, m + k, by omega, by go_num, by go_num, HM.out, trivial⟩
      case measure => simp [intOf]; omega
    · have hinI : ¬ (i : Int) < (n : Int) := by omega
      have htk : ls.take i = ls := List.take_of_length_le (by have := HP.out.2.1; omega)
      rw [htk] at hm
      have hG := sGrow_any m wr (by have := HP.out.2.2; omega)
      obtain ⟨w0, hw0⟩ : ∃ a, a = wr := ⟨_, rfl⟩
      subst hw0
      clear hm htk hi hin
      go_wp2_with fail
      refine hG.mono ?_
      rintro e w1 ⟨⟨v1, rfl, ho1⟩, hb1⟩
      have HO := show Hid (OwnL w0.heap.size w1 v1 [] ∧ Below w0.heap.size w0 w1) from ⟨ho1, hb1⟩
      clear ho1 hb1 hG
      go_wp2_with fail
      go_loopw [6, 27] (fun v t wr => ∃ i : Nat, i ≤ n ∧ t = .int .i64 (i : Int) ∧ Hid (OwnL w0.heap.size wr v (flatL (ls.take i)) ∧ Below w0.heap.size w0 wr)) (fun _ t _ => n - (intOf t).toNat)
      case atStart => exact ⟨0, by omega, rfl, HO.out⟩
      case round =>
        obtain ⟨i, hi, rfl, hv⟩ := hrel
        obtain ⟨v, hv6⟩ : ∃ a, a = u6 := ⟨_, rfl⟩
        subst hv6
        by_cases hin : i < n
        · have hinI : (i : Int) < (n : Int) := by omega
          obtain ⟨s, hs⟩ : ∃ s, ls[i]? = some s := ⟨_, List.getElem?_eq_getElem (by rw [HP.out.2.1]; exact hin)⟩
          obtain ⟨b, o, y, c, rfl, hu⟩ := HC.out i s hs
          obtain ⟨g0, hI⟩ := hu wr hv.out.2
          have hle := flatL_take_le ls (i + 1)
          have HL := show Hid ((flatL (ls.take i)).length + s.data.toList.length ≤ 1000000 ∧ flatL (ls.take (i + 1)) = flatL (ls.take i) ++ s.data.toList) from ⟨by
            have h9 := HP.out.2.2
            rw [flatL_take hs, List.length_append] at hle
            omega, flatL_take hs⟩
          have HI := show Hid (IsBytes wr (.slice y s.size c) ⟨s.data.toList.toArray⟩) from by
            have e : (⟨s.data.toList.toArray⟩ : ByteArray) = s := by cases s; simp
            unfold Hid
            rw [e]
            exact hI
          obtain ⟨k, hk⟩ : ∃ k, s.size = k := ⟨_, rfl⟩
          rw [hk] at g0 HI
          have wi : IntKind.i64.wrap ((i : Int) + 1) = (i : Int) + 1 := by rw [IntKind.wrap_i64]; omega
          clear hs hu hI hle hk
          go_wp2_with (at_builtin; go_must (refine wpList_append_l rfl _ _ rfl w0.heap.size v (flatL (ls.take i)) rfl hv.out.1 (.slice y k c) s.data.toList rfl HI.out HL.out.1 hv.out.2.size ?_; intro v4 w4 ho4 hb4))
          go_roundw
          case rel => exact ⟨i + 1, by omega, by go_num, by rw [HL.out.2]; exact ho4, hv.out.2.trans hb4⟩
          case measure => simp [intOf]; omega
        · have hinI : ¬ (i : Int) < (n : Int) := by omega
          have htk : ls.take i = ls := List.take_of_length_le (by have := HP.out.2.1; omega)
          rw [htk] at hv
          go_wp2_with fail
          go_ret
          exact ⟨⟨_, rfl, hv.out.1⟩, hv.out.2⟩
end Go.Proofs.Ythdoginhbhdmbaa
