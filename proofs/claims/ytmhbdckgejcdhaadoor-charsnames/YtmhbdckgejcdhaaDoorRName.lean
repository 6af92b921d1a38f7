/-
  The document's Name, for every text.
-/
import Derived.Test.YtmhbdckgejcdhaaDoorFirst
import Derived.Lib.ConvBytes
import Derived.Deep.CutRange
namespace Go.Proofs.YtmhbdckgejcdhaaDoor
open Go.RowKit Ch

theorem bytesWorld_from (w : World) (s : ByteArray) : From (Lib.bytesWorld w 5 s) w.heap.size 0 s 0 := by
  intro i hi
  rw [Nat.zero_add] at hi
  have := Lib.bytesWorld_cell w 5 s i hi
  rw [Nat.zero_add, this, byte_eq s i hi]
  have e := list_at s i hi
  simp [List.getD, e]
theorem below_bytesWorld (w : World) (s : ByteArray) : Below w.heap.size w (Lib.bytesWorld w 5 s) :=
  ⟨rfl, rfl, rfl, by rw [Lib.bytesWorld_size]; omega, fun k hk => Lib.bytesWorld_at_old w 5 s k hk⟩

set_option maxHeartbeats 1000000 in
theorem rName_any (s : ByteArray) (w : World) (hs : s.size ≤ 1000000) :
    Calls Tryd.prog 11 #[.string s] w fun e w' => e = .returned (.bool (Ch.isName s)) ∧ Below w.heap.size w w' := by
  have hcv := Lib.run_convert_string_bytes (P := Tryd.prog) w 9 22 5 s Tryd.underlying9 Tryd.underlying22 Tryd.underlying5
  obtain ⟨cap, hcap⟩ : ∃ c, grownCap w s.size 0 5 = c := ⟨_, rfl⟩
  have hge := grownCap_ge w s.size 0 5
  have hle : cap ≤ maxLen := by rw [← hcap]; exact grownCap_le_maxLen w s.size 0 5 (by unfold maxLen; omega)
  rw [hcap] at hcv hge
  unfold maxLen at hle
  obtain ⟨W, hW⟩ : ∃ W, Lib.bytesWorld w 5 s = W := ⟨_, rfl⟩
  have hf : Hid (From W w.heap.size 0 s 0) := by rw [← hW]; exact bytesWorld_from w s
  have hb : Below w.heap.size w W := by rw [← hW]; exact below_bytesWorld w s
  have hwl : w.heap.size < W.heap.size := by rw [← hW, Lib.bytesWorld_size]; omega
  rw [hW] at hcv
  clear hW hcap
  by_cases h0 : s.size = 0
  · have e0 : ((s.size : Int) == 0) = true := beq_iff_eq.2 (by omega)
    have hq : Hid (false = Ch.isName s) := (isName_short (.inl h0)).symm
    clear h0
    go_enter Tryd.func11, Tryd.ntmps11
    go_wp2
    go_ret
    exact ⟨ret_bool hq.out, hb⟩
  have e0 : ((s.size : Int) == 0) = false := beq_eq_false_iff_ne.2 (by omega)
  by_cases h1 : 256 < s.size
  · have hq : Hid (false = Ch.isName s) := (isName_short (.inr h1)).symm
    clear h0
    go_enter Tryd.func11, Tryd.ntmps11
    go_wp2
    go_ret
    exact ⟨ret_bool hq.out, hb⟩
  have hN : Hid (Ch.isName s = nameFrom s s.size 0) := isName_long h0 (by omega)
  have e1 : decide ((256 : Int) < (s.size : Int)) = false := decide_eq_false (by omega)
  clear h0
  go_enter Tryd.func11, Tryd.ntmps11
  go_wp2
  go_loopw [4] (fun i wr => ∃ (p fuel : Nat), p ≤ s.size ∧ i = .int .i64 p ∧ Hid (nameFrom s fuel p = Ch.isName s) ∧ s.size ≤ p + fuel ∧ Below W.heap.size W wr) (fun i _ => s.size - (intOf i).toNat)
  case atStart => exact ⟨0, s.size, by omega, rfl, hN.out.symm, by omega, Below.refl _ _⟩
  case round =>
    obtain ⟨p, fuel, hp0, rfl, hbad, hfu, hbw⟩ := hrel
    have hwW := hb.size
    by_cases hp : p < s.size
    · obtain ⟨f, rfl⟩ : ∃ f, fuel = f + 1 := ⟨fuel - 1, by omega⟩
      obtain ⟨c, n, hcn⟩ : ∃ c n, one s p = (c, n) := ⟨_, _, rfl⟩
      have hO := rOne_any w.heap.size (0 + p) (cap - p) s p wr hs hp ((hf.out.later hwl hbw).tail p)
      rw [Nat.zero_add] at hO
      have hw := one_le s p hp
      have hlt := one_lt s p
      rw [hcn] at hO hw hlt
      simp only at hO hw hlt
      have hpc : p < cap := by omega
      clear hcv
      by_cases h0 : n = 0
      · have h0' : ((n : Int) == 0) = true := beq_iff_eq.2 (by omega)
        have hst : Hid (false = Ch.isName s) := (nameFrom_stop (f := f) hp (fun h => h.1 (by rw [hcn]; exact h0))).symm.trans hbad.out
        clear h0 hbad hcn
        go_wp2_with fail
        refine hO.mono ?_
        rintro e w' ⟨rfl, rfl⟩
        go_wp2_with fail
        go_ret
        exact ⟨ret_bool hst.out, hb.trans (hbw.mono hwW)⟩
      · have h0' : ((n : Int) == 0) = false := beq_eq_false_iff_ne.2 (by omega)
        have hn : 0 < n := by omega
        by_cases hch : charB (c : Int) = true
        · go_upto_region 9 with (first | (go_at_call 24; refine hO.mono ?_; rintro e w' ⟨rfl, rfl⟩) | (go_at_call 25; refine (rChar_any _ _).mono ?_; rintro e w' ⟨rfl, rfl⟩))
          go_cut [7] from 18 to 83 (fun m wx => m = .bool (moreB (c : Int)) ∧ Below W.heap.size W wx)
          case first =>
            by_cases q1 : 48 ≤ c
            · by_cases q2 : c ≤ 57
              ·
                have hq : Hid (moreB (c : Int) = true) := by unfold Hid; rw [more_iff]; exact decide_eq_true (by omega)
                go_wp2
                go_meet
                case rel => exact ⟨congrArg Value.bool (by first | exact hq.out.symm | (rw [hq.out]; simp; omega)), hbw⟩
              have f45 : ((c : Int) == 45) = false := beq_eq_false_iff_ne.2 (by omega)
              have f46 : ((c : Int) == 46) = false := beq_eq_false_iff_ne.2 (by omega)
              by_cases q3 : c = 183
              ·
                have b183 : ((c : Int) == 183) = true := beq_iff_eq.2 (by omega)
                have hq : Hid (moreB (c : Int) = true) := by unfold Hid; rw [more_iff]; exact decide_eq_true (by omega)
                clear q3
                go_wp2
                go_meet
                case rel => exact ⟨congrArg Value.bool (by first | exact hq.out.symm | (rw [hq.out]; simp; omega)), hbw⟩
              have f183 : ((c : Int) == 183) = false := beq_eq_false_iff_ne.2 (by omega)
              by_cases q4 : c < 768
              ·
                have b8255 : ((c : Int) == 8255) = false := beq_eq_false_iff_ne.2 (by omega)
                have b8256 : ((c : Int) == 8256) = false := beq_eq_false_iff_ne.2 (by omega)
                have hq : Hid (moreB (c : Int) = false) := by unfold Hid; rw [more_iff]; exact decide_eq_false (by omega)
                go_wp2
                go_meet
                case rel => exact ⟨congrArg Value.bool (by first | exact hq.out.symm | (rw [hq.out]; simp; omega)), hbw⟩
              by_cases q5 : c ≤ 879
              ·
                have hq : Hid (moreB (c : Int) = true) := by unfold Hid; rw [more_iff]; exact decide_eq_true (by omega)
                go_wp2
                go_meet
                case rel => exact ⟨congrArg Value.bool (by first | exact hq.out.symm | (rw [hq.out]; simp; omega)), hbw⟩
              by_cases q6 : c = 8255
              ·
                have b8255 : ((c : Int) == 8255) = true := beq_iff_eq.2 (by omega)
                have hq : Hid (moreB (c : Int) = true) := by unfold Hid; rw [more_iff]; exact decide_eq_true (by omega)
                clear q6
                go_wp2
                go_meet
                case rel => exact ⟨congrArg Value.bool (by first | exact hq.out.symm | (rw [hq.out]; simp; omega)), hbw⟩
              have f8255 : ((c : Int) == 8255) = false := beq_eq_false_iff_ne.2 (by omega)
              by_cases q7 : c = 8256
              ·
                have b8256 : ((c : Int) == 8256) = true := beq_iff_eq.2 (by omega)
                have hq : Hid (moreB (c : Int) = true) := by unfold Hid; rw [more_iff]; exact decide_eq_true (by omega)
                clear q7
                go_wp2
                go_meet
                case rel => exact ⟨congrArg Value.bool (by first | exact hq.out.symm | (rw [hq.out]; simp; omega)), hbw⟩
              ·
                have b8256 : ((c : Int) == 8256) = false := beq_eq_false_iff_ne.2 (by omega)
                have hq : Hid (moreB (c : Int) = false) := by unfold Hid; rw [more_iff]; exact decide_eq_false (by omega)
                go_wp2
                go_meet
                case rel => exact ⟨congrArg Value.bool (by first | exact hq.out.symm | (rw [hq.out]; simp; omega)), hbw⟩
            · by_cases q2 : c = 45
              ·
                have b45 : ((c : Int) == 45) = true := beq_iff_eq.2 (by omega)
                have hq : Hid (moreB (c : Int) = true) := by unfold Hid; rw [more_iff]; exact decide_eq_true (by omega)
                clear q2
                go_wp2
                go_meet
                case rel => exact ⟨congrArg Value.bool (by first | exact hq.out.symm | (rw [hq.out]; simp; omega)), hbw⟩
              have f45 : ((c : Int) == 45) = false := beq_eq_false_iff_ne.2 (by omega)
              by_cases q3 : c = 46
              ·
                have b46 : ((c : Int) == 46) = true := beq_iff_eq.2 (by omega)
                have hq : Hid (moreB (c : Int) = true) := by unfold Hid; rw [more_iff]; exact decide_eq_true (by omega)
                clear q3
                go_wp2
                go_meet
                case rel => exact ⟨congrArg Value.bool (by first | exact hq.out.symm | (rw [hq.out]; simp; omega)), hbw⟩
              ·
                have b46 : ((c : Int) == 46) = false := beq_eq_false_iff_ne.2 (by omega)
                have b183 : ((c : Int) == 183) = false := beq_eq_false_iff_ne.2 (by omega)
                have b8255 : ((c : Int) == 8255) = false := beq_eq_false_iff_ne.2 (by omega)
                have b8256 : ((c : Int) == 8256) = false := beq_eq_false_iff_ne.2 (by omega)
                have hq : Hid (moreB (c : Int) = false) := by unfold Hid; rw [more_iff]; exact decide_eq_false (by omega)
                go_wp2
                go_meet
                case rel => exact ⟨congrArg Value.bool (by first | exact hq.out.symm | (rw [hq.out]; simp; omega)), hbw⟩
          case rest =>
            obtain ⟨rfl, hbc⟩ := hcut
            have hF := rFirst_any (c : Int) wc
            clear hO
            by_cases hl : letterB (c : Int) = true
            · have hst : Hid (nameFrom s f (p + n) = Ch.isName s) := by
                have := nameFrom_step (f := f) hp ⟨by rw [hcn]; exact h0, .inl (by rw [hcn]; exact hl)⟩
                rw [hcn] at this
                exact this.symm.trans hbad.out
              clear h0 hbad hcn
              go_wp2_with fail
              refine hF.mono ?_
              rintro e w3 ⟨rfl, b3⟩
              go_wp2_with fail
              go_roundw
              case rel => exact ⟨p + n, f, by omega, by go_num, hst, by omega, hbc.trans (b3.mono hbc.size)⟩
              case measure => simp [intOf]; omega
            · have hl : letterB (c : Int) = false := Bool.eq_false_iff.2 hl
              by_cases hz : p = 0
              · have hz' : ((p : Int) == 0) = true := beq_iff_eq.2 (by omega)
                have hst : Hid (false = Ch.isName s) := (nameFrom_stop (f := f) hp (fun h => h.2.elim (by rw [hcn, hl]; intro q; cases q) (fun q => q.1 hz))).symm.trans hbad.out
                clear h0 hbad hcn hz
                go_wp2_with fail
                refine hF.mono ?_
                rintro e w3 ⟨rfl, b3⟩
                go_wp2_with fail
                go_ret
                exact ⟨ret_bool hst.out, hb.trans ((hbc.trans (b3.mono hbc.size)).mono hwW)⟩
              · have hz' : ((p : Int) == 0) = false := beq_eq_false_iff_ne.2 (by omega)
                by_cases hm : moreB (c : Int) = true
                · have hst : Hid (nameFrom s f (p + n) = Ch.isName s) := by
                    have := nameFrom_step (f := f) hp ⟨by rw [hcn]; exact h0, .inr ⟨hz, by rw [hcn]; exact hm⟩⟩
                    rw [hcn] at this
                    exact this.symm.trans hbad.out
                  clear h0 hbad hcn
                  go_wp2_with fail
                  refine hF.mono ?_
                  rintro e w3 ⟨rfl, b3⟩
                  go_wp2_with fail
                  go_roundw
                  case rel => exact ⟨p + n, f, by omega, by go_num, hst, by omega, hbc.trans (b3.mono hbc.size)⟩
                  case measure => simp [intOf]; omega
                · have hm : moreB (c : Int) = false := Bool.eq_false_iff.2 hm
                  have hst : Hid (false = Ch.isName s) := (nameFrom_stop (f := f) hp (fun h => h.2.elim (by rw [hcn, hl]; intro q; cases q) (by rw [hcn, hm]; intro q; cases q.2))).symm.trans hbad.out
                  clear h0 hbad hcn
                  go_wp2_with fail
                  refine hF.mono ?_
                  rintro e w3 ⟨rfl, b3⟩
                  go_wp2_with fail
                  go_ret
                  exact ⟨ret_bool hst.out, hb.trans ((hbc.trans (b3.mono hbc.size)).mono hwW)⟩
        · have hch : charB (c : Int) = false := Bool.eq_false_iff.2 hch
          have hst : Hid (false = Ch.isName s) := (nameFrom_stop (f := f) hp (fun h => h.2.elim (by
            rw [hcn]; intro q; rw [letter_char q] at hch; cases hch) (by
            rw [hcn]; intro q; rw [more_char q.2] at hch; cases hch))).symm.trans hbad.out
          clear h0 hbad hcn
          go_wp2_with fail
          refine hO.mono ?_
          rintro e w' ⟨rfl, rfl⟩
          go_wp2_with (go_at_call 25; refine (rChar_any _ _).mono ?_; rintro e w' ⟨rfl, rfl⟩)
          go_ret
          exact ⟨ret_bool hst.out, hb.trans (hbw.mono hwW)⟩
    · have hst : Hid (true = Ch.isName s) := (nameFrom_end hp).symm.trans hbad.out
      go_wp2
      go_ret
      exact ⟨ret_bool hst.out, hb.trans (hbw.mono hwW)⟩
end Go.Proofs.YtmhbdckgejcdhaaDoor
