/-
  Package moment: timeText.
-/
import Derived.Test.YtbepjlhknmhmeaaDoorMPad
namespace Go.Proofs.YtbepjlhknmhmeaaDoor
open Go.RowKit Ch
set_option maxRecDepth 100000

/-- strconv's table of the powers of ten lies in memory. -/
def P10 (w : World) : Prop := Lib.TabIs Tryd.prog w "internal/strconv.uint64pow10" .u64 Lib.pow10Tab
theorem P10.later {w w' : World} (h : P10 w) (hb : Below w.heap.size w w') : P10 w' := by
  unfold P10 Lib.TabIs at h ⊢
  rw [← h]
  unfold World.var? at h ⊢
  have hg : (Tryd.prog.globalNamed "internal/strconv.uint64pow10").isSome = true := by kernel_rfl
  obtain ⟨g, hg⟩ := Option.isSome_iff_exists.mp hg
  rw [hg] at h ⊢
  simp only [Option.bind_some] at h ⊢
  cases hc : w.heap[g]? with
  | none => rw [hc] at h; simp at h
  | some o => rw [hb.block g (block_lt hc), hc]
theorem mPadT (n k : Nat) (w : World) (h10 : P10 w) (hk : k < 9) (hn : n < 10 ^ (k + 1)) :
    Calls Tryd.prog 22 #[.int .i64 n, .int .i64 ((k + 1 : Nat) : Int)] w fun e w' => e = .returned (.string ⟨(padL (k + 1) n).toArray⟩) ∧ Below w.heap.size w w' := mPad_any n k w h10 hk hn
set_option maxHeartbeats 1000000 in
theorem mClockT_any (t : Nat) (w : World) (h10 : P10 w) (ht : t < 86400000) :
    Calls Tryd.prog 23 #[.int .i64 t] w fun e w' => e = .returned (.string ⟨(clockL t).toArray⟩) ∧ Below w.heap.size w w' := by
  have q : ∀ (a : Nat) (x : Int) (u : World), P10 u → a < 100 → x = (a : Int) → Calls Tryd.prog 22 #[.int .i64 x, .int .i64 2] u fun e w' => e = .returned (.string ⟨(padL 2 a).toArray⟩) ∧ Below u.heap.size u w' := by
    rintro a x u hu ha rfl
    exact mPadT a 1 u hu (by decide) ha
  have q3 : ∀ (a : Nat) (x : Int) (u : World), P10 u → a < 1000 → x = (a : Int) → Calls Tryd.prog 22 #[.int .i64 x, .int .i64 3] u fun e w' => e = .returned (.string ⟨(padL 3 a).toArray⟩) ∧ Below u.heap.size u w' := by
    rintro a x u hu ha rfl
    exact mPadT a 2 u hu (by decide) ha
  have l1 := padL_length 2 (t / 3600000)
  have l2 := padL_length 2 (t / 60000 % 60)
  have l3 := padL_length 2 (t / 1000 % 60)
  have l4 := padL_length 3 (t % 1000)
  unfold clockL
  generalize hx1 : padL 2 (t / 3600000) = x1 at l1 ⊢
  generalize hx2 : padL 2 (t / 60000 % 60) = x2 at l2 ⊢
  generalize hx3 : padL 2 (t / 1000 % 60) = x3 at l3 ⊢
  generalize hx4 : padL 3 (t % 1000) = x4 at l4 ⊢
  go_enter Tryd.func23, Tryd.ntmps23
  go_wp2_with fail
  refine (q (t / 3600000) _ w h10 (by omega) (by omega)).mono ?_
  rw [hx1]
  rintro e w1 ⟨rfl, b1⟩
  have h1 := h10.later b1
  go_wp2_with fail
  refine (q (t / 60000 % 60) _ w1 h1 (by omega) (by omega)).mono ?_
  rw [hx2]
  rintro e w2 ⟨rfl, b2⟩
  have h2 := h1.later b2
  go_wp2_with fail
  refine (q (t / 1000 % 60) _ w2 h2 (by omega) (by omega)).mono ?_
  rw [hx3]
  rintro e w3 ⟨rfl, b3⟩
  have h3 := h2.later b3
  have B3 := bl2 (bl2 b1 b2) b3
  go_wp2_with fail
  · have hne : ¬ t % 1000 = 0 := by
      have hh : (((t : Int) % 1000) != 0) = true := by assumption
      have := bne_iff_ne.mp hh
      omega
    refine (q3 (t % 1000) _ w3 h3 (by omega) (by omega)).mono ?_
    rw [hx4]
    rintro e w4 ⟨rfl, b4⟩
    have B4 := bl2 B3 b4
    go_wp2_with (exfalso; omega)
    go_ret
    refine ⟨?_, B4⟩
    show Ending.returned (Value.string _) = Ending.returned (Value.string _)
    refine congrArg (fun z => Ending.returned (Value.string z)) ?_
    apply ByteArray.ext
    simp
  · go_ret
    refine ⟨?_, B3⟩
    show Ending.returned (Value.string _) = Ending.returned (Value.string _)
    refine congrArg (fun z => Ending.returned (Value.string z)) ?_
    apply ByteArray.ext
    simp
  · exfalso
    simp at *
    omega
end Go.Proofs.YtbepjlhknmhmeaaDoor
