/-
  The document's Bad, for every list of bytes.
-/
import Derived.Test.YtmhbdckgejcdhaaDoorOne
import Derived.Test.YtmhbdckgejcdhaaDoorName
namespace Go.Proofs.YtmhbdckgejcdhaaDoor
open Go.RowKit Ch

theorem rBad_empty (a : Option Addr) (cap : Nat) (w : World) :
    Calls Tryd.prog 10 #[.slice a 0 cap] w fun e w' => e = .returned (.int .i64 (-1)) ∧ w' = w := by
  go_enter Tryd.func10, Tryd.ntmps10
  go_wp2
  go_loop [3] (fun i => i = .int .i64 0) (fun _ => 0)
  case atStart => rfl
  case round =>
    subst hrel
    go_wp2
    go_ret
    exact ⟨rfl, rfl⟩

theorem From.tail {w : World} {b o : Nat} {s : ByteArray} (h : From w b o s 0) (p : Nat) : From w b (o + p) s p := by
  intro i hi
  have := h (p + i) (by omega)
  rw [Nat.zero_add] at this
  rw [Nat.add_assoc]
  exact this

set_option maxHeartbeats 1000000 in
theorem rBad_any (b o cap : Nat) (s : ByteArray) (w : World) (hs : s.size ≤ 1000000) (hcap : s.size ≤ cap) (hcap2 : cap ≤ maxLen) (hc : From w b o s 0) :
    Calls Tryd.prog 10 #[.slice (some ⟨b, o, none⟩) s.size cap] w fun e w' => e = .returned (.int .i64 (bad s)) ∧ w' = w := by
  unfold maxLen at hcap2
  go_enter Tryd.func10, Tryd.ntmps10
  go_wp2
  go_loop [3] (fun i => ∃ (p fuel : Nat), p ≤ s.size ∧ i = .int .i64 p ∧ Hid (badFrom s fuel p = bad s) ∧ s.size ≤ p + fuel) (fun i => s.size - (intOf i).toNat)
  case atStart => exact ⟨0, s.size, by omega, rfl, rfl, by omega⟩
  case round =>
    obtain ⟨p, fuel, hp0, rfl, hbad, hfu⟩ := hrel
    by_cases hp : p < s.size
    · obtain ⟨f, rfl⟩ : ∃ f, fuel = f + 1 := ⟨fuel - 1, by omega⟩
      obtain ⟨c, n, hcn⟩ : ∃ c n, one s p = (c, n) := ⟨_, _, rfl⟩
      have hO := rOne_any b (o + p) (cap - p) s p w hs hp (hc.tail p)
      have hw := one_le s p hp
      have hlt := one_lt s p
      rw [hcn] at hO hw hlt
      simp only at hO hw hlt
      have hpc : p < cap := by omega
      clear hc
      by_cases h0 : n = 0
      · have hst : Hid (bad s = p) := hbad.out.symm.trans (badFrom_stop hp (.inl (by rw [hcn]; exact h0)))
        have h0' : ((n : Int) == 0) = true := beq_iff_eq.2 (by omega)
        clear h0 hbad hcn
        go_wp2_with fail
        refine hO.mono ?_
        rintro e w' ⟨rfl, rfl⟩
        go_wp2_with fail
        go_ret
        exact ⟨ret_int hst.out.symm, rfl⟩
      · have h0' : ((n : Int) == 0) = false := beq_eq_false_iff_ne.2 (by omega)
        by_cases hch : charB (c : Int) = true
        · have hst : Hid (badFrom s f (p + n) = bad s) := by
            have := badFrom_step (f := f) hp (by rw [hcn]; exact h0) (by rw [hcn]; exact hch)
            rw [hcn] at this
            exact this.symm.trans hbad.out
          clear hbad hcn
          go_wp2_with fail
          refine hO.mono ?_
          rintro e w' ⟨rfl, rfl⟩
          go_wp2_with (go_at_call 25; refine (rChar_any _ _).mono ?_; rintro e w' ⟨rfl, rfl⟩)
          go_round
          case rel => exact ⟨p + n, f, by omega, by go_num, hst, by omega⟩
          case measure => simp [intOf]; omega
        · have hch : charB (c : Int) = false := Bool.eq_false_iff.2 hch
          have hst : Hid (bad s = p) := hbad.out.symm.trans (badFrom_stop hp (.inr (by rw [hcn]; exact hch)))
          clear hbad hcn
          go_wp2_with fail
          refine hO.mono ?_
          rintro e w' ⟨rfl, rfl⟩
          go_wp2_with (go_at_call 25; refine (rChar_any _ _).mono ?_; rintro e w' ⟨rfl, rfl⟩)
          go_ret
          exact ⟨ret_int hst.out.symm, rfl⟩
    · have hst : Hid (bad s = -1) := hbad.out.symm.trans (badFrom_end hp)
      go_wp2
      go_ret
      exact ⟨ret_int hst.out.symm, rfl⟩
end Go.Proofs.YtmhbdckgejcdhaaDoor
