/-
  The document's Gcd.
-/
import Derived.Test.YtpcmpeeflnlkpaaDoorNRDiv
namespace Go.Proofs.YtpcmpeeflnlkpaaDoor
open Go.RowKit Ch
set_option maxRecDepth 100000

/-- The number that digits in memory are. -/
def dVal (w : World) : Value → Nat
  | .slice (some a) n _ => numD ((List.range n).map fun i => match w.cell? (a.add i) with
    | some (.int _ z) => z.toNat
    | _ => 0)
  | _ => 0
theorem IsD.val {n : Nat} {w : World} {v : Value} {N : Nat} (h : IsD n w v N) : dVal w v = N := by
  obtain ⟨y, c, L, rfl, hI, _, _, h5, _⟩ := h
  obtain ⟨a, cap, hv, _, _, hr⟩ := hI
  simp only [Value.slice.injEq] at hv
  obtain ⟨rfl, _, _⟩ := hv
  rw [← h5]
  rcases hr with ⟨h1, h0, _⟩ | ⟨x, h1, h2⟩
  · subst h1
    rw [List.eq_nil_of_length_eq_zero h0]
    rfl
  · subst h1
    show numD _ = numD L
    congr 1
    rcases h2 with h2 | ⟨b, o, rfl, _, h8⟩
    · rw [List.eq_nil_of_length_eq_zero h2]
      rfl
    · apply List.ext_getElem?
      intro i
      rw [List.getElem?_map]
      by_cases hi : i < L.length
      · rw [List.getElem?_range hi, List.getElem?_eq_getElem hi]
        have e : (⟨b, o, none⟩ : Addr).add i = ⟨b, o + i, none⟩ := by unfold Addr.add; split <;> simp_all
        simp only [Option.map_some, e, h8 i _ (List.getElem?_eq_getElem hi), Int.toNat_natCast]
      · rw [List.getElem?_eq_none (by simp; omega), List.getElem?_eq_none (by omega)]
        rfl
set_option maxHeartbeats 4000000 in
theorem digGcd (n : Nat) (va vb : Value) (A B : Nat) (w : World) (ha : IsD n w va A) (hb : IsD n w vb B) (hn : n ≤ 1000) :
    Calls Tryd.prog 12 #[va, vb] w fun e w' => (∃ x, e = .returned x ∧ IsD n w' x (Nat.gcd A B)) ∧ Below w.heap.size w w' := by
  have H0 := show Hid (IsD n w va A ∧ IsD n w vb B) from ⟨ha, hb⟩
  clear ha hb
  go_enter Tryd.func12, Tryd.ntmps12
  go_wp2_with fail
  go_loopw [0, 1] (fun p q wr => ∃ a b : Nat, Hid (Nat.gcd a b = Nat.gcd A B) ∧ Hid (IsD n wr p a ∧ IsD n wr q b ∧ Below w.heap.size w wr)) (fun _ q wr => dVal wr q)
  case atStart => exact ⟨A, B, rfl, H0.out.1, H0.out.2, Below.refl _ _⟩
  case round =>
    obtain ⟨a, b, hg, hI⟩ := hrel
    obtain ⟨y, l, c, rfl, hl0, _⟩ := hI.out.2.1.shape
    by_cases hb0 : b = 0
    · have hl : l = 0 := hl0.2 hb0
      subst hl
      have HF := show Hid (IsD n wr u0 (Nat.gcd A B) ∧ Below w.heap.size w wr) from by
        have h1 := hg.out
        rw [hb0, Nat.gcd_zero_right] at h1
        rw [← h1]
        exact ⟨hI.out.1, hI.out.2.2⟩
      clear hI hl0
      go_wp2_with fail
      go_ret
      exact ⟨⟨_, rfl, HF.out.1⟩, HF.out.2⟩
    · have hl : (0 : Int) < (l : Int) := by
        have : l ≠ 0 := fun h => hb0 (hl0.1 h)
        omega
      have hD := digDiv n n u0 (.slice y l c) a b wr hI.out.1 hI.out.2.1 (by omega) (by omega) hb0
      have HV := show Hid (dVal wr (.slice y l c) = b) from hI.out.2.1.val
      clear hl0
      go_wp2_with fail
      refine hD.mono ?_
      rintro e w1 ⟨vq, vr, rfl, _, hr, hb1⟩
      clear hD
      have HN := show Hid (IsD n w1 (.slice y l c) b ∧ IsD n w1 vr (a % b) ∧ Below w.heap.size w w1) from ⟨hI.out.2.1.later hb1, hr, hI.out.2.2.trans (hb1.mono hI.out.2.2.size)⟩
      have HG2 := show Hid (Nat.gcd b (a % b) = Nat.gcd A B) from by unfold Hid; rw [← hg.out, Nat.gcd_comm a b, Nat.gcd_rec b a, Nat.gcd_comm]
      have HM := show Hid (dVal w1 vr = a % b) from HN.out.2.1.val
      clear hr hb1 hI
      go_wp2_with fail
      go_roundw
      case rel => exact ⟨b, a % b, HG2.out, HN.out⟩
      case measure =>
        rw [HM.out, HV.out]
        exact Nat.mod_lt _ (Nat.pos_of_ne_zero hb0)
end Go.Proofs.YtpcmpeeflnlkpaaDoor
