
/-
  The document's Mul.
-/
import Derived.Test.YtpcmpeeflnlkpaaGreatDoorNRSubEtc
import Derived.Deep.QuietTactic
import Derived.BigQuiet
import Derived.WalkSmall
namespace Go.Proofs.YtpcmpeeflnlkpaaGreatDoor
open Go.RowKit Ch
set_option maxRecDepth 100000


theorem below_drewQ (w : World) : ∀ n, Below w.heap.size w (w.drewN n)
  | 0 => Below.refl _ _
  | n + 1 => (below_drewQ w n).drew
theorem mul_stepD {P P0 c c' i k p p' x z V : Nat} (h : P + c * 256 ^ (i + k) = P0 + 256 ^ i * x * V) (hs : p' + c' * 256 = c + p + x * z) : P + 256 ^ (i + k) * p' + c' * 256 ^ (i + k + 1) = P0 + 256 ^ (i + k) * p + 256 ^ i * x * (V + 256 ^ k * z) := by
  have e1 : 256 ^ i * x * (V + 256 ^ k * z) = 256 ^ i * x * V + 256 ^ (i + k) * (x * z) := by
    rw [Nat.mul_add, Nat.pow_add, Nat.mul_assoc (256 ^ i) x (256 ^ k * z), Nat.mul_left_comm x, Nat.mul_assoc (256 ^ i) (256 ^ k)]
  rw [e1, Nat.pow_succ]
  generalize 256 ^ (i + k) = T at *
  have h1 : T * (p' + c' * 256) = T * (c + p + x * z) := by rw [hs]
  rw [Nat.mul_add, Nat.mul_add, Nat.mul_add, Nat.mul_comm T c, Nat.mul_left_comm] at h1
  generalize c' * (T * 256) = z1 at *
  generalize T * p' = z2 at *
  generalize T * p = z3 at *
  generalize T * (x * z) = z4 at *
  generalize c * T = z5 at *
  generalize 256 ^ i * x * V = z6 at *
  omega
theorem mul_rowD {P c i m x V R : Nat} (h : P + c * 256 ^ (i + m) = R * V + 256 ^ i * x * V) : P + 256 ^ (i + m) * c = (R + 256 ^ i * x) * V := by
  rw [Nat.add_mul, Nat.mul_comm (256 ^ (i + m)) c]
  exact h
theorem below_set {w wr : World} {g i : Nat} {v : Value} (hb : Below w.heap.size w wr) (hg : w.heap.size ≤ g) : Below w.heap.size w (wr.setCell ⟨g, i, none⟩ v) :=
  hb.grown (grown_cell wr ⟨g, i, none⟩ v) hb.size (fun b h => by obtain rfl : g = b := Option.some.inj h; exact hg)
set_option maxHeartbeats 4000000 in
theorem digMul (n m : Nat) (u v : Value) (A B : Nat) (w : World) (hu : IsD n w u A) (hv : IsD m w v B) (hn : n ≤ 100000) (hm : m ≤ 100000) :
    Calls Tryz.prog 59 #[u, v] w fun e w' => (∃ x, e = .returned x ∧ IsD (n + m) w' x (A * B)) ∧ Below w.heap.size w w' := by
  obtain ⟨ya, ca, L, rfl, h2, h3, h4, rfl, h6⟩ := hu
  obtain ⟨yb, cb, M, rfl, k2, k3, k4, rfl, k6⟩ := hv
  suffices hg : Calls Tryz.prog 59 #[.slice ya L.length ca, .slice yb M.length cb] w fun e w' => (∃ x, e = .returned x ∧ IsD (L.length + M.length) w' x (numD L * numD M)) ∧ Below w.heap.size w w' by
    refine hg.mono ?_
    rintro e w' ⟨⟨x, rfl, h⟩, hb⟩
    exact ⟨⟨x, rfl, h.more (by omega)⟩, hb⟩
  have hln : L.length ≤ 100000 := by omega
  have hlm : M.length ≤ 100000 := by omega
  clear h4 k4 h6 k6 hn hm n m
  obtain ⟨n, hn⟩ : ∃ n, L.length = n := ⟨_, rfl⟩
  obtain ⟨m, hm⟩ : ∃ n, M.length = n := ⟨_, rfl⟩
  have HL := show Hid (IsN .i64 w (.slice ya n ca) L ∧ AllD L ∧ L.length = n) from ⟨by rw [← hn]; exact h2, h3, hn⟩
  have HM := show Hid (IsN .i64 w (.slice yb m cb) M ∧ AllD M ∧ M.length = m) from ⟨by rw [← hm]; exact k2, k3, hm⟩
  rw [hn] at hln ⊢
  rw [hm] at hlm ⊢
  clear h2 h3 k2 k3 hn hm
  obtain ⟨nm, hnm⟩ : ∃ a, n + m = a := ⟨_, rfl⟩
  have hnmI : (n : Int) + (m : Int) = (nm : Int) := by omega
  have hnmw : IntKind.i64.wrap (nm : Int) = (nm : Int) := by rw [IntKind.wrap_i64]; omega
  have hnml : nm ≤ 200000 := by omega
  have HNM := show Hid (n + m = nm) from hnm
  rw [hnm]
  clear hnm
  go_enter Tryz.func59, Tryz.ntmps59
  go_wp2_with (at_make; go_must (refine wpList_make_n RI w rfl _ _ rfl .i64 .i64 _ _ nm rfl rfl rfl rfl (by omega) ?_; intro w1 ho1 hb1))
  obtain ⟨hR1, _⟩ := RowN.own ho1
  obtain ⟨g, hg⟩ : ∃ g, w.heap.size = g := ⟨_, rfl⟩
  have HG := show Hid (w.heap.size = g) from hg
  have HR1 := show Hid (RowN .i64 w1 g (List.replicate nm 0) ∧ Below w.heap.size w w1) from ⟨by rw [← hg]; exact hR1, hb1⟩
  rw [hg]
  clear ho1 hb1 hR1 hg
  go_loopw [6] (fun a wr => ∃ (i : Nat) (O : List Nat), a = .int .i64 (i : Int) ∧ i ≤ n ∧ Hid (RowN .i64 wr g O ∧ O.length = nm ∧ AllD O ∧ pd O 0 (i + m) = numD (L.take i) * numD M) ∧ Hid (Below w.heap.size w wr)) (fun a _ => n - (intOf a).toNat)
  case atStart => exact ⟨0, _, rfl, by omega, ⟨HR1.out.1, by simp, allD_zero _, by unfold pd; simp [List.take_replicate, numD_zero, numD]⟩, HR1.out.2⟩
  case round =>
    obtain ⟨i, O0, rfl, hi, hR, hb⟩ := hrel
    by_cases hin2 : i < n
    · have hin : (i : Int) < (n : Int) := by omega
      have hdL : L[i]? = some (atN L i) := atN_some (by have := HL.out.2.2; omega)
      obtain ⟨x, hx⟩ : ∃ x, atN L i = x := ⟨_, rfl⟩
      rw [hx] at hdL
      have hx8 : x < 256 := HL.out.2.1.at hdL
      have HTL := show Hid (numD (L.take (i + 1)) = numD (L.take i) + 256 ^ i * x) from numD_take hdL
      obtain ⟨x1, b, o, rfl, hbl, gc⟩ := IsN.cellAt HL.out.1 hdL
      have HGC := show Hid (b < w.heap.size ∧ w.cell? ⟨b, o + i, none⟩ = some (.int .i64 (x : Int))) from ⟨hbl, gc⟩
      clear x1 hx hdL hbl gc
      obtain ⟨wq, hwq⟩ : ∃ a, a = wr := ⟨_, rfl⟩
      subst hwq
      go_wp2_with fail
      go_loopw [7, 8] (fun a t wr => ∃ (k c : Nat) (O : List Nat), a = .int .i64 (c : Int) ∧ t = .int .i64 (k : Int) ∧ k ≤ m ∧ c < 256 ∧ Hid (RowN .i64 wr g O ∧ O.length = nm ∧ AllD O ∧ pd O 0 (i + k) + c * 256 ^ (i + k) = pd O0 0 (i + k) + 256 ^ i * x * numD (M.take k) ∧ ∀ j, i + k ≤ j → O[j]? = O0[j]?) ∧ Hid (Below w.heap.size w wr)) (fun _ t _ => m - (intOf t).toNat)
      case atStart => exact ⟨0, 0, O0, rfl, rfl, by omega, by omega, ⟨hR.out.1, hR.out.2.1, hR.out.2.2.1, by simp [numD], fun _ _ => rfl⟩, hb.out⟩
      case round =>
        obtain ⟨k, c, O, rfl, rfl, hk, hc, hI, hb⟩ := hrel
        by_cases hkm2 : k < m
        · have hkm : (k : Int) < (m : Int) := by omega
          have hdM : M[k]? = some (atN M k) := atN_some (by have := HM.out.2.2; omega)
          obtain ⟨z, hz⟩ : ∃ x, atN M k = x := ⟨_, rfl⟩
          rw [hz] at hdM
          have hz8 : z < 256 := HM.out.2.1.at hdM
          have HTM := show Hid (numD (M.take (k + 1)) = numD (M.take k) + 256 ^ k * z) from numD_take hdM
          obtain ⟨x1, b2, o2, rfl, hbl2, gc2⟩ := IsN.cellAt HM.out.1 hdM
          obtain ⟨ik, hik⟩ : ∃ a, i + k = a := ⟨_, rfl⟩
          have hikI : (i : Int) + (k : Int) = (ik : Int) := by omega
          have hikn : (ik : Int) < (nm : Int) := by have := HNM.out; omega
          have wik : IntKind.i64.wrap (ik : Int) = (ik : Int) := by rw [IntKind.wrap_i64]; omega
          have hdO : O[ik]? = some (atN O ik) := atN_some (by have := hI.out.2.1; omega)
          obtain ⟨p, hp⟩ : ∃ x, atN O ik = x := ⟨_, rfl⟩
          rw [hp] at hdO
          have hp8 : p < 256 := hI.out.2.2.1.at hdO
          obtain ⟨s1, hs1⟩ : ∃ a, c + p = a := ⟨_, rfl⟩
          obtain ⟨xz, hxz⟩ : ∃ a, x * z = a := ⟨_, rfl⟩
          have hxzl : xz ≤ 65025 := by
            rw [← hxz]
            exact Nat.mul_le_mul (show x ≤ 255 by omega) (show z ≤ 255 by omega)
          obtain ⟨s2, hs2⟩ : ∃ a, s1 + xz = a := ⟨_, rfl⟩
          have hs1I : (c : Int) + (p : Int) = (s1 : Int) := by omega
          have hxzI : (x : Int) * (z : Int) = (xz : Int) := by rw [← hxz]; simp
          have hs2I : (s1 : Int) + (xz : Int) = (s2 : Int) := by omega
          have ws1 : IntKind.i64.wrap (s1 : Int) = (s1 : Int) := by rw [IntKind.wrap_i64]; omega
          have wxz : IntKind.i64.wrap (xz : Int) = (xz : Int) := by rw [IntKind.wrap_i64]; omega
          have ws2 : IntKind.i64.wrap (s2 : Int) = (s2 : Int) := by rw [IntKind.wrap_i64]; omega
          obtain ⟨d, hd⟩ : ∃ d, s2 % 256 = d := ⟨_, rfl⟩
          obtain ⟨c', hc'⟩ : ∃ d, s2 / 256 = d := ⟨_, rfl⟩
          have hdI : (s2 : Int).tmod 256 = (d : Int) := by rw [Int.tmod_eq_emod_of_nonneg (by omega)]; omega
          have hcI : (s2 : Int).tdiv 256 = (c' : Int) := by rw [Int.tdiv_eq_ediv_of_nonneg (by omega)]; omega
          have wd : IntKind.i64.wrap (d : Int) = (d : Int) := by rw [IntKind.wrap_i64]; omega
          have wc' : IntKind.i64.wrap (c' : Int) = (c' : Int) := by rw [IntKind.wrap_i64]; omega
          have wk1 : IntKind.i64.wrap ((k : Int) + 1) = (k : Int) + 1 := by rw [IntKind.wrap_i64]; omega
          have hc'8 : c' < 256 := by omega
          have HI2 := show Hid ((O.set ik d).length = nm ∧ AllD (O.set ik d) ∧ pd (O.set ik d) 0 (i + (k + 1)) + c' * 256 ^ (i + (k + 1)) = pd O0 0 (i + (k + 1)) + 256 ^ i * x * numD (M.take (k + 1)) ∧ ∀ j, i + (k + 1) ≤ j → (O.set ik d)[j]? = O0[j]?) from by
            obtain ⟨q1, q2, q3, q4, q5⟩ := hI.out
            have e0 : O0[i + k]? = some p := by rw [← q5 _ (Nat.le_refl _), hik]; exact hdO
            refine ⟨by simp [q2], q3.set _ (by omega), ?_, fun j hj => ?_⟩
            · have e1 := pd_put (L := O) (o := 0) (i := i + k) (p := p) (p' := d) (by rw [Nat.zero_add, hik]; exact hdO)
              rw [Nat.zero_add] at e1
              rw [HTM.out, ← hik, ← Nat.add_assoc, e1, pd_succ (L := O0) (o := 0) (n := i + k) (x := p) (by rw [Nat.zero_add]; exact e0)]
              exact mul_stepD q4 (by omega)
            · rw [List.getElem?_set_ne (by omega)]
              exact q5 j (by omega)
          have hRs := hI.out.1
          have HDO := show Hid (O[ik]? = some p) from hdO
          have HRW := show Hid (RowN .i64 wr g O ∧ Below w.heap.size w wr) from ⟨hRs, hb.out⟩
          have gO := hRs.cell hdO
          have gX := (hb.out.cell (p := ⟨b, o + i, none⟩) HGC.out.1).trans HGC.out.2
          have gZ := (hb.out.cell (p := ⟨b2, o2 + k, none⟩) hbl2).trans gc2
          clear x1 hz hp hdM hdO hik hs1 hxz hs2 hd hc' hRs hI hb gc2 hbl2
          go_wp2_with fail
          go_quiet (fail)
          have hbq := below_drewQ wr nq
          generalize wr.drewN nq = u at *
          have hRu := HRW.out.1.later hbq
          have hbu2 := HRW.out.2.trans (hbq.mono HRW.out.2.size)
          clear gO gX gZ hbq
          have g7 := hRu.cell HDO.out
          have r7 := hRu.free ik
          have HS := show Hid (RowN .i64 (u.setCell ⟨g, ik, none⟩ (.int .i64 (d : Int))) g (O.set ik d) ∧ Below w.heap.size w (u.setCell ⟨g, ik, none⟩ (.int .i64 (d : Int)))) from ⟨hRu.set HDO.out d, below_set hbu2 (by rw [HG.out]; exact Nat.le_refl _)⟩
          clear hRu hbu2
          go_wp2_with fail
          go_roundw
          case rel => exact ⟨k + 1, c', O.set ik d, rfl, by go_num, by omega, hc'8, ⟨HS.out.1, HI2.out⟩, HS.out.2⟩
          case measure => simp [intOf]; omega
        · have hkm : ¬ (k : Int) < (m : Int) := by omega
          obtain rfl : k = m := by omega
          obtain ⟨im, him⟩ : ∃ a, i + k = a := ⟨_, rfl⟩
          have himI : (i : Int) + (k : Int) = (im : Int) := by omega
          have wim : IntKind.i64.wrap (im : Int) = (im : Int) := by rw [IntKind.wrap_i64]; omega
          have himn : (im : Int) < (nm : Int) := by have := HNM.out; omega
          have wi1 : IntKind.i64.wrap ((i : Int) + 1) = (i : Int) + 1 := by rw [IntKind.wrap_i64]; omega
          have hdO : O[im]? = some (atN O im) := atN_some (by have := hI.out.2.1; omega)
          have g7 := hI.out.1.cell hdO
          have r7 := hI.out.1.free im
          have HS := show Hid (RowN .i64 (wr.setCell ⟨g, im, none⟩ (.int .i64 (c : Int))) g (O.set im c) ∧ Below w.heap.size w (wr.setCell ⟨g, im, none⟩ (.int .i64 (c : Int)))) from ⟨hI.out.1.set hdO c, below_set hb.out (by rw [HG.out]; exact Nat.le_refl _)⟩
          have HI2 := show Hid ((O.set im c).length = nm ∧ AllD (O.set im c) ∧ pd (O.set im c) 0 (i + 1 + k) = numD (L.take (i + 1)) * numD M) from by
            obtain ⟨q1, q2, q3, q4, q5⟩ := hI.out
            refine ⟨by simp [q2], q3.set _ hc, ?_⟩
            have e1 := pd_put (L := O) (o := 0) (i := i + k) (p := atN O im) (p' := c) (by rw [Nat.zero_add, him]; exact hdO)
            rw [Nat.zero_add] at e1
            rw [HTL.out, show i + 1 + k = i + k + 1 by omega, ← him, e1]
            rw [hR.out.2.2.2, List.take_of_length_le (l := M) (by rw [HM.out.2.2]; exact Nat.le_refl _)] at q4
            exact mul_rowD q4
          clear him hdO hI hb
          go_wp2_with fail
          go_roundw
          case rel => exact ⟨i + 1, O.set im c, by go_num, by omega, ⟨HS.out.1, HI2.out⟩, HS.out.2⟩
          case measure => simp [intOf]; omega
    · have hin : ¬ (i : Int) < (n : Int) := by omega
      obtain rfl : i = n := by omega
      have hIN := hR.out.1.isN (o := 0) (n := nm) (c := nm) (by rw [hR.out.2.1]; omega) (Nat.le_refl _) (by omega)
      have e0 : (O0.drop 0).take nm = O0 := by rw [List.drop_zero, List.take_of_length_le (by rw [hR.out.2.1]; exact Nat.le_refl _)]
      rw [e0] at hIN
      have hzz := hR.out.2.1
      have hT := dTrim_any (some ⟨g, 0, none⟩) nm O0 wr (by rw [hzz]; exact hIN) (by omega)
      rw [hzz] at hT
      have HF := show Hid (O0.length ≤ nm ∧ AllD O0 ∧ numD O0 = numD L * numD M ∧ Below w.heap.size w wr) from by
        obtain ⟨q1, q2, q3, q4⟩ := hR.out
        rw [pd_full (by rw [q2, HNM.out]), List.take_of_length_le (l := L) (by rw [HL.out.2.2]; exact Nat.le_refl _)] at q4
        exact ⟨by omega, q3, q4, hb.out⟩
      clear hb hR hIN e0 hzz
      go_wp2_with fail
      refine hT.mono ?_
      rintro e w2 ⟨rfl, hN, rfl⟩
      go_wp2_with fail
      go_ret
      exact ⟨⟨_, rfl, isD_trim hN HF.out.2.1 HF.out.2.2.1 HF.out.1⟩, HF.out.2.2.2⟩
end Go.Proofs.YtpcmpeeflnlkpaaGreatDoor
