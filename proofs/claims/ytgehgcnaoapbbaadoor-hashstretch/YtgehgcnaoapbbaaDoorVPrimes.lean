/-
  The document's primes and Words.
-/
import Derived.Test.YtgehgcnaoapbbaaDoorVRootEtc
namespace Go.Proofs.YtgehgcnaoapbbaaDoor
open Go.RowKit Ch
set_option maxRecDepth 100000

def R32 : KR := ⟨.u32, 46, 28, 4, Tryd.underlying28, by kernel_rfl, by decide⟩
def okN (j i : Nat) : Bool := ((prK j).take i).all (fun d => (j + 2) % d != 0)
theorem okN_succ {j i d : Nat} (h : (prK j)[i]? = some d) : okN j (i + 1) = (okN j i && (j + 2) % d != 0) := by
  unfold okN
  rw [List.take_add_one, h, List.all_append]
  simp
theorem prK_succ (j : Nat) : prK (j + 1) = if okN j (prK j).length then prK j ++ [j + 2] else prK j := by
  unfold okN
  rw [prK, List.take_length]
set_option maxHeartbeats 2000000 in
theorem vPrimes_64 (w : World) :
    Calls Tryd.prog 30 #[.int .i64 64] w fun e w' => (∃ v, e = .returned v ∧ w'.ownsRow w.heap.size 49 1 v (prK 310).length (kc .u64 (prK 310))) ∧ Below w.heap.size w w' := by
  go_enter Tryd.func30, Tryd.ntmps30
  go_wp2_with fail
  go_loopw [3, 4] (fun v t wr => ∃ (j n p c : Nat) (x : Option Addr), j ≤ 310 ∧ t = .int .u64 (p : Int) ∧ Hid (p = j + 2 ∧ n = (prK j).length) ∧ p ≤ 312 ∧ n ≤ 64 ∧ v = .slice x n c ∧ Hid (wr.ownsRow w.heap.size 49 1 (.slice x n c) (prK j).length (kc .u64 (prK j))) ∧ Below w.heap.size w wr) (fun _ t _ => 312 - (intOf t).toNat)
  case atStart => exact ⟨0, 0, 2, 0, none, by omega, rfl, ⟨rfl, rfl⟩, by omega, by omega, rfl, own_nil _ _ _, Below.refl _ _⟩
  case round =>
    obtain ⟨j, n, p, c, x, hj, rfl, hpn, hp, hn, rfl, ho, hb⟩ := hrel
    by_cases hlt : n < 64
    · have hlt2 : (n : Int) < 64 := by omega
      have hj309 : j ≤ 309 := by
        apply Classical.byContradiction
        intro h
        have h1 := prK_mono 310 j (by omega)
        have h2 := prK_310
        have h3 := hpn.out.2
        omega
      go_wp2_with fail
      go_loopw [5, 6] (fun u t wq => ∃ (i : Nat) (R : Bool), i ≤ n ∧ t = .int .i64 (i : Int) ∧ u = .bool R ∧ Hid (R = okN j i) ∧ wq = wr) (fun _ t _ => n - (intOf t).toNat)
      case atStart => exact ⟨0, true, by omega, rfl, rfl, rfl, rfl⟩
      case round =>
        obtain ⟨i, R, hi, rfl, rfl, hR, rfl⟩ := hrel
        by_cases hlti : i < n
        · have hlti2 : (i : Int) < (n : Int) := by omega
          have hds : (prK j)[i]? = some (atN (prK j) i) := atN_some (by have := hpn.out.2; omega)
          obtain ⟨d, hd⟩ : ∃ d, atN (prK j) i = d := ⟨_, rfl⟩
          rw [hd] at hds
          have hd2 := prK_pos j d (List.mem_of_getElem? hds)
          have hd3 : ¬ (d : Int) = 0 := by omega
          have HS := show Hid (okN j (i + 1) = (R && (j + 2) % d != 0)) from by unfold Hid; rw [okN_succ hds, hR.out]
          obtain ⟨x1, ba, oa, rfl, hal, gA⟩ := IsN.cellAt (own_n ho.out) hds
          clear x1 hds hd
          cases R
          · have HQ := show Hid (false = okN j (i + 1)) from by unfold Hid; rw [HS.out]; rfl
            clear HS hR
            go_wp2_with fail
            go_roundw
            case rel => exact ⟨i + 1, false, by omega, by go_num, rfl, HQ.out, trivial⟩
            case measure => simp [intOf]; omega
          · obtain ⟨m, hm⟩ : ∃ m, p % d = m := ⟨_, rfl⟩
            have e1 : (p : Int).tmod (d : Int) = (m : Int) := by rw [← hm, Int.tmod_eq_emod_of_nonneg (by omega)]; omega
            obtain ⟨B, hB⟩ : ∃ B, (m != 0) = B := ⟨_, rfl⟩
            have e2 : ((m : Int) != 0) = B := by
              rw [← hB]
              by_cases h : m = 0
              · subst h; rfl
              · have : ¬ (m : Int) = 0 := by omega
                rw [bne_iff_ne.2 this, bne_iff_ne.2 h]
            have hm64 : m < 18446744073709551616 := by
              have := Nat.mod_le p d
              omega
            have HQ := show Hid (B = okN j (i + 1)) from by unfold Hid; rw [HS.out, ← hpn.out.1, hm, hB]; rfl
            clear HS hR hm hB
            go_wp2_with fail
            go_roundw
            case rel => exact ⟨i + 1, B, by omega, by go_num, rfl, HQ.out, trivial⟩
            case measure => simp [intOf]; omega
        · have hlti2 : ¬ (i : Int) < (n : Int) := by omega
          obtain rfl : i = n := by omega
          have HS := show Hid (prK (j + 1) = if R then prK j ++ [j + 2] else prK j) from by unfold Hid; rw [prK_succ, ← hpn.out.2, ← hR.out]
          have ep : IntKind.u64.wrap ((p : Int) + 1) = ((p + 1 : Nat) : Int) := by rw [wrap_u64]; omega
          obtain ⟨p1, hp1⟩ : ∃ p1, p + 1 = p1 := ⟨_, rfl⟩
          rw [hp1] at ep
          have HP := show Hid (p1 = j + 1 + 2) from by unfold Hid; have := hpn.out.1; omega
          have hp12 : p1 ≤ 312 := by have := hpn.out.1; omega
          have hpl : p1 = p + 1 := hp1.symm
          have HPL := show Hid (p1 = p + 1) from hpl
          clear hp1 hpl
          cases R
          · have hq := HS.out
            simp only [Bool.false_eq_true, if_false] at hq
            have HQ := show Hid (prK (j + 1) = prK j) from hq
            clear hq HS hR
            go_wp2_with fail
            go_roundw
            case rel => exact ⟨j + 1, i, p1, c, x, by omega, rfl, ⟨HP.out, by rw [HQ.out]; exact hpn.out.2⟩, hp12, by omega, rfl, by unfold Hid; rw [HQ.out]; exact ho.out, hb⟩
            case measure => simp [intOf]; have := HPL.out; omega
          · have hq := HS.out
            simp only [if_true] at hq
            have HQ := show Hid (prK j ++ [p] = prK (j + 1)) from by unfold Hid; rw [hq, hpn.out.1]
            clear hq HS hR
            have hon := ho.out
            have hlen : (prK j).length ≤ 1000000 := by have := hpn.out.2; omega
            have hz := hb.size
            go_wp2_with (at_builtin; go_must (refine wpList_append_n R64 rfl _ _ rfl w.heap.size _ _ rfl hon _ rfl p rfl _ HQ hlen hz hb ?_; intro v9 w9 ho9 hb9))
            obtain ⟨x9, c9, rfl⟩ := own_shape ho9
            go_roundw
            case rel => exact ⟨j + 1, (prK (j + 1)).length, p1, c9, x9, by omega, rfl, ⟨HP.out, rfl⟩, hp12, by rw [← HQ.out, List.length_append]; have := hpn.out.2; simp; omega, rfl, ho9, hb9⟩
            case measure => simp [intOf]; have := HPL.out; omega
    · have hlt2 : ¬ (n : Int) < 64 := by omega
      obtain rfl : j = 310 := by
        apply Classical.byContradiction
        intro h
        have h1 := prK_mono j 309 (by omega)
        have h2 := prK_309
        have h3 := hpn.out.2
        omega
      go_wp2_with fail
      go_ret
      exact ⟨⟨_, rfl, ho.out⟩, hb⟩
end Go.Proofs.YtgehgcnaoapbbaaDoor
