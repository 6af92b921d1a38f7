/-
  Layer 3's reference: a text as a query.
-/
import Derived.Test.YtnkefpopkaagaaaDoorEUnp
import Derived.Test.YtnkefpopkaagaaaDoorFPlain
import Derived.Test.YtnkefpopkaagaaaDoorFParse
import Derived.Test.YtnkefpopkaagaaaDoorEGet
namespace Go.Proofs.YtnkefpopkaagaaaDoor
open Go.RowKit Ch
set_option maxRecDepth 100000

theorem info9 : ∃ i, Tryd.prog.info? 9 = some i ∧ i.zero = some (.string ⟨#[]⟩) ∧ i.size = 1 ∧ i.bytes = 16 := info_parts (by kernel_rfl)
theorem strs_snoc (ws : List (List UInt8)) (s : ByteArray) (a b : Nat) : strs ws ++ [.string (s.extract a b)] = strs (ws ++ [seg s a b]) := by
  rw [extract_seg]; simp [strs]
theorem own_piece {w : World} {base : Nat} {v : Value} {ws : List (List UInt8)} {s : ByteArray} {a b : Nat} (h : w.ownsRow base 9 1 v (ws.length + 1) (strs ws ++ [.string (s.extract a b)])) : w.ownsRow base 9 1 v (ws ++ [seg s a b]).length (strs (ws ++ [seg s a b])) := by
  rw [strs_snoc] at h
  rw [List.length_append]
  exact h
theorem amp_over (s : ByteArray) : ampFrom (seg s (s.size + 1) (s.size + 1)) (s.data.toList.drop (s.size + 1)) = [] := by
  rw [seg_nil, List.drop_of_length_le (by rw [len_eq]; omega)]
  rfl
/-- A sign &, or the end. -/
theorem amp_stop {s : ByteArray} {a i : Nat} (hi : i ≤ s.size) (h : i < s.size → byte s i = 38) : ampFrom (seg s a i) (s.data.toList.drop i) = flushA (seg s a i) ++ ampFrom (seg s (i + 1) (i + 1)) (s.data.toList.drop (i + 1)) := by
  rcases Nat.lt_or_ge i s.size with h' | h'
  · exact amp_sep h' (h h')
  · obtain rfl : i = s.size := by omega
    rw [amp_over, List.append_nil, List.drop_of_length_le (by rw [len_eq]; omega)]
    rfl
theorem amp_start (s : ByteArray) : ampFrom (seg s 0 0) (s.data.toList.drop 0) = ampL s.data.toList := by
  rw [seg_nil, List.drop_zero]; rfl
theorem tw_stop {t : List UInt8} {k : Nat} (h : ∀ c ∈ t.take k, c ≠ 61) (h2 : t.drop k = [] ∨ ∃ r, t.drop k = 61 :: r) : t.takeWhile (fun c => c != 61) = t.take k ∧ t.dropWhile (fun c => c != 61) = t.drop k := by
  have e : t = t.take k ++ t.drop k := (List.take_append_drop k t).symm
  have hp : ∀ c ∈ t.take k, (c != 61) = true := fun c hc => by simpa using h c hc
  have h3 : (t.drop k).takeWhile (fun c => c != 61) = [] ∧ (t.drop k).dropWhile (fun c => c != 61) = t.drop k := by
    rcases h2 with h2 | ⟨r, h2⟩ <;> rw [h2] <;> exact ⟨rfl, rfl⟩
  constructor
  · conv => lhs; rw [e]
    rw [List.takeWhile_append_of_pos hp, h3.1, List.append_nil]
  · conv => lhs; rw [e]
    rw [List.dropWhile_append_of_pos hp, h3.2]

theorem pair_way1 {t r : List UInt8} {k : Nat} (h : ∀ c ∈ t.take k, c ≠ 61) (h2 : t.drop k = 61 :: r) : pairOf t = both (unpL true (t.take k)) (unpL true r) := by
  obtain ⟨e1, e2⟩ := tw_stop h (.inr ⟨r, h2⟩)
  rw [pair_eq, (cut_eq t).1, (cut_eq t).2, e1, e2, h2]
  rfl
theorem pair_way2 {t : List UInt8} {k : Nat} (h : ∀ c ∈ t.take k, c ≠ 61) (h2 : t.drop k = []) : pairOf t = both (unpL true (t.take k)) (some []) := by
  obtain ⟨e1, e2⟩ := tw_stop h (.inl h2)
  rw [pair_eq, (cut_eq t).1, (cut_eq t).2, e1, e2, h2]
  rfl
theorem both_left (y : Option (List UInt8)) : both none y = none := by cases y <;> rfl
theorem both_right (x : Option (List UInt8)) : both x none = none := by cases x <;> rfl
theorem head_data (R : ByteArray) (k : Nat) : (R.extract 0 k).data.toList = R.data.toList.take k := by
  rw [Lib.extract_data, List.drop_zero, Nat.sub_zero]

set_option maxHeartbeats 4000000 in
theorem sParse_any (s : ByteArray) (w : World) (hs : s.size ≤ 10000) :
    Calls Tryd.prog 14 #[.string s] w fun e w' => ∃ v, e = .returned (.tuple #[v, .int .i64 (parseE s.data.toList)]) ∧ IsPairs w' v ((parseP s.data.toList).map asBA) ∧ Below w.heap.size w w' := by
  have hpm := fun x (hx : x ∈ ampL s.data.toList) => amp_mem s.data.toList [] x hx
  have hpl := amp_len s.data.toList []
  simp only [List.length_nil, Nat.zero_add, len_eq] at hpm hpl
  have hpl' : (ampL s.data.toList).length ≤ s.size := hpl
  have hE : Hid (parseE s.data.toList = (if 64 < (ampL s.data.toList).length then 12 else if (pairsOf (ampL s.data.toList)).isSome = true then 0 else 10)) := rfl
  have hP : Hid (parseP s.data.toList = (if 64 < (ampL s.data.toList).length then [] else (pairsOf (ampL s.data.toList)).getD [])) := rfl
  have hst := amp_start s
  obtain ⟨P, hPd⟩ : ∃ P, ampL s.data.toList = P := ⟨_, rfl⟩
  obtain ⟨E, hEd⟩ : ∃ E, parseE s.data.toList = E := ⟨_, rfl⟩
  rw [hPd] at hE hP hpm hpl' hst
  rw [hEd] at hE ⊢
  have HST : Hid (ampFrom (seg s 0 0) (s.data.toList.drop 0) = P) := hst
  clear hpl hPd hEd hst
  obtain ⟨j0, hj, hy0, hy1, hy2⟩ := info9
  go_enter Tryd.func14, Tryd.ntmps14
  go_wp2_with fail
  go_loopw [4, 5, 6] (fun v f t wr => ∃ (i start : Nat) (ws : List (List UInt8)), i ≤ s.size + 1 ∧ start ≤ i ∧ t = .int .i64 (i : Int) ∧ f = .int .i64 (start : Int) ∧ wr.ownsRow w.heap.size 9 1 v ws.length (strs ws) ∧ Below w.heap.size w wr ∧ ws.length ≤ i ∧ (i = s.size + 1 → start = i) ∧ Hid (ws ++ ampFrom (seg s start i) (s.data.toList.drop i) = P)) (fun _ _ t _ => s.size + 1 - (intOf t).toNat)
  case atStart => exact ⟨0, 0, [], Nat.zero_le _, Nat.le_refl _, rfl, rfl, World.ownsRow_nil _ _ _ _, Below.refl _ _, Nat.le_refl _, fun h => by omega, HST.out⟩
  case round =>
    obtain ⟨i, start, ws, hi0, hsi, rfl, rfl, hown, hb, hal, hend, hW⟩ := hrel
    have hbs := hb.size
    clear HST
    by_cases hle : i ≤ s.size
    · clear hend
      by_cases hnb : i < s.size ∧ byte s i ≠ 38
      · obtain ⟨hlt, hbl⟩ := hnb
        have e38 : (((s[i]'hlt).toNat : Int) == 38) = false := beq_eq_false_iff_ne.2 (by rw [byte_eq s i hlt] at hbl; omega)
        have hW2 : Hid (ws ++ ampFrom (seg s start (i + 1)) (s.data.toList.drop (i + 1)) = P) := by
          have := hW.out
          rw [amp_step (n := 1) (by omega) (fun k hk => by
            obtain rfl : k = 0 := by omega
            exact hbl)] at this
          exact this
        have eii : ((i : Int) == (s.size : Int)) = false := beq_eq_false_iff_ne.2 (by omega)
        clear hW hbl
        go_wp2_with fail
        go_roundw
        case rel => exact ⟨i + 1, start, ws, by omega, by omega, by go_num, rfl, hown, hb, by omega, fun h => by omega, hW2⟩
        case measure => simp [intOf]; omega
      · have hst : i < s.size → byte s i = 38 := fun h => Classical.byContradiction fun hx => hnb ⟨h, hx⟩
        have hW2 : Hid ((ws ++ flushA (seg s start i)) ++ ampFrom (seg s (i + 1) (i + 1)) (s.data.toList.drop (i + 1)) = P) := by
          have := hW.out
          rw [amp_stop hle hst, ← List.append_assoc] at this
          exact this
        clear hW hnb
        by_cases hfr : start < i
        · rw [flushA_some hfr hle] at hW2
          by_cases hlt : i < s.size
          · have e38 : (((s[i]'hlt).toNat : Int) == 38) = true := beq_iff_eq.2 (by have := hst hlt; rw [byte_eq s i hlt] at this; omega)
            have eii : ((i : Int) == (s.size : Int)) = false := beq_eq_false_iff_ne.2 (by omega)
            clear hst
            go_wp2_with (at_builtin; go_must (refine wpList_append_own _ rfl _ _ 62 rfl w.heap.size 9 j0 (.string ⟨#[]⟩) 1 16 Tryd.underlying62 hj hy0 hy1 hy2 rfl (by decide) _ _ _ rfl (hown.alloc _) ⟨wr.heap.size, 0, none⟩ 1 1 [_] rfl rfl (cell_one_new _ _ _) (by intro u hu; simp at hu; subst hu; rfl) (by unfold maxLen; omega) (by omega) (by simp; omega) ?_))
            intro v' w2 hown2 hgrow _
            have hb2 : Below w.heap.size w w2 := (hb.alloc hb.size _).grown hgrow (by simp; omega) (own_ge hown)
            have hown3 := own_piece hown2
            clear hgrow hown2 hown
            go_wp2_with fail
            go_roundw
            case rel => exact ⟨i + 1, i + 1, ws ++ [seg s start i], by omega, by omega, by go_num, by go_num, hown3, hb2, by simp; omega, fun _ => rfl, hW2⟩
            case measure => simp [intOf]; omega
          · have eii : ((i : Int) == (s.size : Int)) = true := beq_iff_eq.2 (by omega)
            clear hst
            go_wp2_with (at_builtin; go_must (refine wpList_append_own _ rfl _ _ 62 rfl w.heap.size 9 j0 (.string ⟨#[]⟩) 1 16 Tryd.underlying62 hj hy0 hy1 hy2 rfl (by decide) _ _ _ rfl (hown.alloc _) ⟨wr.heap.size, 0, none⟩ 1 1 [_] rfl rfl (cell_one_new _ _ _) (by intro u hu; simp at hu; subst hu; rfl) (by unfold maxLen; omega) (by omega) (by simp; omega) ?_))
            intro v' w2 hown2 hgrow _
            have hb2 : Below w.heap.size w w2 := (hb.alloc hb.size _).grown hgrow (by simp; omega) (own_ge hown)
            have hown3 := own_piece hown2
            clear hgrow hown2 hown
            go_wp2_with fail
            go_roundw
            case rel => exact ⟨i + 1, i + 1, ws ++ [seg s start i], by omega, by omega, by go_num, by go_num, hown3, hb2, by simp; omega, fun _ => rfl, hW2⟩
            case measure => simp [intOf]; omega
        · rw [flushA_none hfr, List.append_nil] at hW2
          by_cases hlt : i < s.size
          · have e38 : (((s[i]'hlt).toNat : Int) == 38) = true := beq_iff_eq.2 (by have := hst hlt; rw [byte_eq s i hlt] at this; omega)
            have eii : ((i : Int) == (s.size : Int)) = false := beq_eq_false_iff_ne.2 (by omega)
            clear hst
            go_wp2_with fail
            go_roundw
            case rel => exact ⟨i + 1, i + 1, ws, by omega, by omega, by go_num, by go_num, hown, hb, by omega, fun _ => rfl, hW2⟩
            case measure => simp [intOf]; omega
          · have eii : ((i : Int) == (s.size : Int)) = true := beq_iff_eq.2 (by omega)
            clear hst
            go_wp2_with fail
            go_roundw
            case rel => exact ⟨i + 1, i + 1, ws, by omega, by omega, by go_num, by go_num, hown, hb, by omega, fun _ => rfl, hW2⟩
            case measure => simp [intOf]; omega
    · obtain ⟨n0, rfl⟩ : ∃ n0 : Nat, n0 = i := ⟨_, rfl⟩
      have hn0 : n0 = s.size + 1 := by omega
      obtain rfl := hend hn0
      have hY : ws = P := by
        have := hW.out
        rw [hn0, amp_over, List.append_nil] at this
        exact this
      have hgt : s.size < start := by omega
      subst hY
      clear hW hend hn0 hle hi0 hsi
      by_cases h64 : 64 < ws.length
      · have hE' : Hid (E = 12) := by have := hE.out; rw [if_pos h64] at this; exact this
        have hP' : Hid (parseP s.data.toList = []) := by have := hP.out; rw [if_pos h64] at this; exact this
        have hlen : ∃ a cap, u4 = .slice a ws.length cap := by
          rcases hown.2 with ⟨hv, h0⟩ | ⟨g, cap, cur, hv, _⟩
          · omega
          · exact ⟨_, _, hv⟩
        obtain ⟨a4, cap4, rfl⟩ := hlen
        clear hE hP hown
        go_wp2_with fail
        go_ret2
        refine ⟨_, ret_pair (v := .slice none 0 0) hE'.out.symm, ?_, hb⟩
        rw [hP'.out]
        exact ⟨none, 0, rfl, Nat.le_refl _, by unfold maxLen; omega, .inl ⟨rfl, rfl, rfl⟩⟩
      · have hE' : Hid (E = (if (pairsOf ws).isSome = true then 0 else 10)) := by have := hE.out; rw [if_neg h64] at this; exact this
        have hP' : Hid (parseP s.data.toList = (pairsOf ws).getD []) := by have := hP.out; rw [if_neg h64] at this; exact this
        clear hE hP
        have hcl := fun g (hg : u4.ownBlock = some g) => World.ownsRow.cells hown hg
        rcases hown.2 with ⟨hv, h0⟩ | ⟨A, cap, cur, hv, _, hh, hcap, hmax, _⟩
        · obtain rfl : ws = [] := List.eq_nil_of_length_eq_zero h0
          subst hv
          have hE2 : Hid (E = 0) := hE'.out
          have hP2 : Hid (parseP s.data.toList = []) := hP'.out
          clear hown hcl hE' hP' h0
          go_wp2_with fail
          refine wp_loop_once ?_
          go_wp2_with fail
          go_ret2
          refine ⟨_, ret_pair (v := .slice none 0 0) hE2.out.symm, ?_, hb⟩
          rw [hP2.out]
          exact ⟨none, 0, rfl, Nat.le_refl _, by unfold maxLen; omega, .inl ⟨rfl, rfl, rfl⟩⟩
        · have hA : A < wr.heap.size := (Array.getElem?_eq_some_iff.1 hh).1
          have HC : Hid (∀ i x, ws[i]? = some x → wr.cell? ⟨A, i, none⟩ = some (.string ⟨x.toArray⟩)) := by
            intro i x hx
            have := hcl A (by rw [hv]; rfl) i (.string ⟨x.toArray⟩) (by unfold strs; rw [List.getElem?_map, hx]; rfl)
            have e : (⟨A, 0, none⟩ : Addr).add i = ⟨A, 0 + i, none⟩ := by unfold Addr.add; split <;> simp_all
            rw [e, Nat.zero_add] at this
            exact this
          subst hv
          clear hcl hown hh
          obtain ⟨w1, rfl⟩ : ∃ w1 : World, w1 = wr := ⟨_, rfl⟩
          obtain ⟨i0, hi, hz0, hz1, hz2⟩ := info40
          go_wp2_with fail
          generalize decide (start ≤ s.size) = z17
          generalize decide (64 < (ws.length : Int)) = z44
          go_loopw [7, 8] (fun v t wx => ∃ (i : Nat) (acc : List (List UInt8 × List UInt8)), t = .int .i64 (i : Int) ∧ i ≤ ws.length ∧ wx.ownsRow w1.heap.size 40 2 v acc.length (pairCells acc) ∧ Below w1.heap.size w1 wx ∧ acc.length ≤ i ∧ Hid ((pairsOf (ws.drop i)).map (acc ++ ·) = pairsOf ws)) (fun _ t _ => ws.length - (intOf t).toNat)
          case atStart =>
            refine ⟨0, [], rfl, Nat.zero_le _, World.ownsRow_nil _ _ _ _, Below.refl _ _, Nat.le_refl _, ?_⟩
            unfold Hid
            rw [List.drop_zero]
            cases pairsOf ws <;> rfl
          case round =>
            obtain ⟨i, acc, rfl, hi', hown, hb2, hal2, hacc⟩ := hrel
            have hbz := hb2.size
            by_cases hlt : i < ws.length
            · obtain ⟨t, ht⟩ : ∃ t, ws[i]? = some t := ⟨_, List.getElem?_eq_getElem hlt⟩
              have htl := hpm t (List.mem_of_getElem? ht)
              have hdr : ws.drop i = t :: ws.drop (i + 1) := by
                rw [List.drop_eq_getElem_cons hlt]
                rw [List.getElem?_eq_getElem hlt] at ht
                rw [Option.some.inj ht]
              rw [hdr] at hacc
              have c1 := (hb2.cell (p := ⟨A, i, none⟩) hA).trans (HC.out i t ht)
              obtain ⟨T, hT⟩ : ∃ T : ByteArray, ⟨t.toArray⟩ = T := ⟨_, rfl⟩
              have hTd : Hid (T.data.toList = t) := by unfold Hid; rw [← hT]
              have hTz : T.size ≤ s.size := by rw [← len_eq, hTd.out]; exact htl
              rw [hT] at c1
              have elt : decide ((i : Int) < (ws.length : Int)) = true := decide_eq_true (by omega)
              have q1 : (0 : Int) ≤ (i : Int) := by omega
              have q2 : (i : Int) < (ws.length : Int) := by omega
              obtain ⟨w2, rfl⟩ : ∃ w2 : World, w2 = wr := ⟨_, rfl⟩
              have hA2 : A < w2.heap.size := by omega
              clear ht hdr hT htl
              go_wp2_with fail
              go_loopw [9] (fun x wx => ∃ k : Nat, x = .int .i64 (k : Int) ∧ k ≤ T.size ∧ Below w2.heap.size w2 wx ∧ Hid (∀ c ∈ T.data.toList.take k, c ≠ 61)) (fun x _ => T.size - (intOf x).toNat)
              case atStart => exact ⟨0, rfl, Nat.zero_le _, Below.refl _ _, fun c hc => by simp at hc⟩
              case round =>
                obtain ⟨k, rfl, hk, hb3, hno⟩ := hrel
                have c2 := (hb3.cell (p := ⟨A, i, none⟩) hA2).trans c1
                by_cases hlt2 : k < T.size
                · obtain ⟨c, hc, hdr, hcc⟩ := byte_at8 T k hlt2
                  have etl : decide ((k : Int) < (T.size : Int)) = true := decide_eq_true (by omega)
                  by_cases h61 : c = 61
                  · have e61 : ((c.toNat : Int) != 61) = false := by rw [h61]; rfl
                    have HPE : Hid (pairOf t = both (unpL true (T.data.toList.take k)) (unpL true (T.data.toList.drop (k + 1)))) := by
                      rw [h61] at hdr
                      have := pair_way1 hno.out hdr
                      unfold Hid
                      rw [← this, hTd.out]
                    have hU := sUnpercent_any (T.extract 0 k) true wr (by rw [ByteArray.size_extract]; omega)
                    have hUd : Hid ((T.extract 0 k).data.toList = T.data.toList.take k) := head_data T k
                    have hV := fun W => sUnpercent_any (T.extract (k + 1) T.size) true W (by rw [ByteArray.size_extract]; omega)
                    have hVd : Hid ((T.extract (k + 1) T.size).data.toList = T.data.toList.drop (k + 1)) := rest_data T (k + 1)
                    have q3 : IntKind.i64.wrap ((k : Int) + 1) = (k : Int) + 1 := IntWalk.i64_in _ (by omega)
                    clear hdr hc h61 hno
                    go_wp2_with fail
                    refine hU.mono ?_
                    rintro e w3 ⟨hu, hb4⟩
                    have c3 := (hb4.cell (p := ⟨A, i, none⟩) (show A < wr.heap.size by have := hb3.size; omega)).trans c2
                    have hb5 := hb3.trans (hb4.mono hb3.size)
                    clear hU c2
                    unfold UnpSaid at hu
                    rw [hUd.out] at hu
                    rcases hu with ⟨hu, rfl⟩ | ⟨a, hu, rfl⟩
                    · have HB : Hid (pairOf t = none) := by unfold Hid; rw [HPE.out, hu]; exact both_left _
                      clear HPE hu
                      go_wp2_with fail
                      refine (hV w3).mono ?_
                      rintro e w4 ⟨hx, hb6⟩
                      have hbW := hb5.trans (hb6.mono hb5.size)
                      have BW := hb2.trans (hbW.mono hbz)
                      clear hV
                      unfold UnpSaid at hx
                      rw [hVd.out] at hx
                      rcases hx with ⟨hx, rfl⟩ | ⟨b, hx, rfl⟩
                      all_goals
                        clear hx
                        have hN : Hid (pairsOf ws = none) := by
                          have := hacc.out
                          rw [pairsOf_bad t _ HB.out] at this
                          exact this.symm
                        have hE2 : Hid (E = 10) := by
                          have := hE'.out
                          rw [hN.out] at this
                          exact this
                        have hP2 : Hid (parseP s.data.toList = []) := by
                          have := hP'.out
                          rw [hN.out] at this
                          exact this
                        clear HB hacc hE' hP' hown
                        go_wp2_with fail
                        go_ret2
                        refine ⟨_, ret_pair (v := .slice none 0 0) hE2.out.symm, ?_, hb.trans (BW.mono hb.size)⟩
                        rw [hP2.out]
                        exact ⟨none, 0, rfl, Nat.le_refl _, by unfold maxLen; omega, .inl ⟨rfl, rfl, rfl⟩⟩
                    · rw [hu] at HPE
                      clear hu
                      go_wp2_with fail
                      refine (hV w3).mono ?_
                      rintro e w4 ⟨hx, hb6⟩
                      have hbW := hb5.trans (hb6.mono hb5.size)
                      have BW := hb2.trans (hbW.mono hbz)
                      clear hV
                      unfold UnpSaid at hx
                      rw [hVd.out] at hx
                      rcases hx with ⟨hx, rfl⟩ | ⟨b, hx, rfl⟩
                      · have HB : Hid (pairOf t = none) := by unfold Hid; rw [HPE.out, hx]; rfl
                        clear HPE hx
                        have hN : Hid (pairsOf ws = none) := by
                          have := hacc.out
                          rw [pairsOf_bad t _ HB.out] at this
                          exact this.symm
                        have hE2 : Hid (E = 10) := by
                          have := hE'.out
                          rw [hN.out] at this
                          exact this
                        have hP2 : Hid (parseP s.data.toList = []) := by
                          have := hP'.out
                          rw [hN.out] at this
                          exact this
                        clear HB hacc hE' hP' hown
                        go_wp2_with fail
                        go_ret2
                        refine ⟨_, ret_pair (v := .slice none 0 0) hE2.out.symm, ?_, hb.trans (BW.mono hb.size)⟩
                        rw [hP2.out]
                        exact ⟨none, 0, rfl, Nat.le_refl _, by unfold maxLen; omega, .inl ⟨rfl, rfl, rfl⟩⟩
                      · have HB : Hid (pairOf t = some (a, b)) := by unfold Hid; rw [HPE.out, hx]; rfl
                        clear HPE hx
                        have hacc2 : Hid ((pairsOf (ws.drop (i + 1))).map ((acc ++ [(a, b)]) ++ ·) = pairsOf ws) := by
                          have := hacc.out
                          rw [pairsOf_cons t _ HB.out, map_snocP] at this
                          exact this
                        have hownW := ownsRow_later hown hbW
                        have zW := BW.size
                        clear HB hacc hown
                        go_wp2_with (at_builtin; go_must (refine wpList_append_own _ rfl _ _ 30 rfl w1.heap.size 40 i0 (.agg #[.string ⟨#[]⟩, .string ⟨#[]⟩]) 2 32 Tryd.underlying30 hi hz0 hz1 hz2 rfl (by decide) _ _ _ rfl (hownW.alloc _) ⟨w4.heap.size, 0, none⟩ 1 1 [_, _] rfl rfl (cell_two_new' _ _ _ _) (by intro u hu; simp at hu; rcases hu with rfl | rfl <;> rfl) (by unfold maxLen; omega) (by omega) (by simp; omega) ?_))
                        intro v' w5 hown5 hgrow _
                        have hown6 : w5.ownsRow w1.heap.size 40 2 v' (acc ++ [(a, b)]).length (pairCells (acc ++ [(a, b)])) := by
                          rw [← pairCells_snoc, List.length_append]
                          exact hown5
                        have B5 : Below w1.heap.size w1 w5 := ((BW.alloc zW _).grown hgrow (by simp; omega) (own_ge hownW))
                        clear hownW hown5 hgrow
                        go_wp2_with fail
                        go_roundw
                        case rel => exact ⟨i + 1, acc ++ [(a, b)], by go_num, by omega, hown6, B5, by simp; omega, hacc2⟩
                        case measure => simp [intOf]; omega
                  · have e61 : ((c.toNat : Int) != 61) = true := bne_iff_ne.2 (fun e => h61 (UInt8.toNat_inj.1 (by show c.toNat = 61; omega)))
                    have hno2 : Hid (∀ x ∈ T.data.toList.take (k + 1), x ≠ 61) := by
                      intro x hx
                      have hkl : k < T.data.toList.length := by rw [len_eq]; exact hlt2
                      rw [List.take_succ_eq_append_getElem hkl] at hx
                      have hck : T.data.toList[k] = c := by
                        have h1 : (T.data.toList.drop k).head? = some c := by rw [hdr]; rfl
                        rw [List.head?_drop, List.getElem?_eq_getElem hkl] at h1
                        exact Option.some.inj h1
                      rcases List.mem_append.1 hx with hx | hx
                      · exact hno.out x hx
                      · rw [hck] at hx
                        have := List.mem_singleton.1 hx
                        rw [this]
                        exact h61
                    clear hno hdr hc h61
                    go_wp2_with fail
                    go_roundw
                    case rel => exact ⟨k + 1, by go_num, by omega, hb3, hno2⟩
                    case measure => simp [intOf]; omega
                · have HPE : Hid (pairOf t = both (unpL true (T.data.toList.take k)) (some [])) := by
                    have := pair_way2 hno.out (List.drop_of_length_le (by rw [len_eq]; omega))
                    unfold Hid
                    rw [← this, hTd.out]
                  have etl : decide ((k : Int) < (T.size : Int)) = false := decide_eq_false (by omega)
                  have hU := sUnpercent_any (T.extract 0 k) true wr (by rw [ByteArray.size_extract]; omega)
                  have hUd : Hid ((T.extract 0 k).data.toList = T.data.toList.take k) := head_data T k
                  clear hno
                  go_wp2_with fail
                  refine hU.mono ?_
                  rintro e w3 ⟨hu, hb4⟩
                  have c3 := (hb4.cell (p := ⟨A, i, none⟩) (show A < wr.heap.size by have := hb3.size; omega)).trans c2
                  have hbW := hb3.trans (hb4.mono hb3.size)
                  have BW := hb2.trans (hbW.mono hbz)
                  clear hU c2
                  unfold UnpSaid at hu
                  rw [hUd.out] at hu
                  rcases hu with ⟨hu, rfl⟩ | ⟨a, hu, rfl⟩
                  · have HB : Hid (pairOf t = none) := by unfold Hid; rw [HPE.out, hu]; rfl
                    clear HPE hu
                    have hN : Hid (pairsOf ws = none) := by
                      have := hacc.out
                      rw [pairsOf_bad t _ HB.out] at this
                      exact this.symm
                    have hE2 : Hid (E = 10) := by
                      have := hE'.out
                      rw [hN.out] at this
                      exact this
                    have hP2 : Hid (parseP s.data.toList = []) := by
                      have := hP'.out
                      rw [hN.out] at this
                      exact this
                    clear HB hacc hE' hP' hown
                    go_wp2_with fail
                    go_ret2
                    refine ⟨_, ret_pair (v := .slice none 0 0) hE2.out.symm, ?_, hb.trans (BW.mono hb.size)⟩
                    rw [hP2.out]
                    exact ⟨none, 0, rfl, Nat.le_refl _, by unfold maxLen; omega, .inl ⟨rfl, rfl, rfl⟩⟩
                  · have HB : Hid (pairOf t = some (a, [])) := by unfold Hid; rw [HPE.out, hu]; rfl
                    clear HPE hu
                    have hacc2 : Hid ((pairsOf (ws.drop (i + 1))).map ((acc ++ [(a, [])]) ++ ·) = pairsOf ws) := by
                      have := hacc.out
                      rw [pairsOf_cons t _ HB.out, map_snocP] at this
                      exact this
                    have hownW := ownsRow_later hown hbW
                    have zW := BW.size
                    clear HB hacc hown
                    go_wp2_with (at_builtin; go_must (refine wpList_append_own _ rfl _ _ 30 rfl w1.heap.size 40 i0 (.agg #[.string ⟨#[]⟩, .string ⟨#[]⟩]) 2 32 Tryd.underlying30 hi hz0 hz1 hz2 rfl (by decide) _ _ _ rfl (hownW.alloc _) ⟨w3.heap.size, 0, none⟩ 1 1 [_, _] rfl rfl (cell_two_new' _ _ _ _) (by intro u hu; simp at hu; rcases hu with rfl | rfl <;> rfl) (by unfold maxLen; omega) (by omega) (by simp; omega) ?_))
                    intro v' w5 hown5 hgrow _
                    have hown6 : w5.ownsRow w1.heap.size 40 2 v' (acc ++ [(a, [])]).length (pairCells (acc ++ [(a, [])])) := by
                      rw [← pairCells_snoc, List.length_append]
                      exact hown5
                    have B5 : Below w1.heap.size w1 w5 := ((BW.alloc zW _).grown hgrow (by simp; omega) (own_ge hownW))
                    clear hownW hown5 hgrow
                    go_wp2_with fail
                    go_roundw
                    case rel => exact ⟨i + 1, acc ++ [(a, [])], by go_num, by omega, hown6, B5, by simp; omega, hacc2⟩
                    case measure => simp [intOf]; omega
            · have hY : Hid (pairsOf ws = some acc) := by
                have := hacc.out
                rw [List.drop_of_length_le (by omega)] at this
                have e0 : pairsOf [] = some [] := rfl
                rw [e0, Option.map_some, List.append_nil] at this
                exact this.symm
              have hE2 : Hid (E = 0) := by
                have := hE'.out
                rw [hY.out] at this
                exact this
              have hP2 : Hid (parseP s.data.toList = acc) := by
                have := hP'.out
                rw [hY.out] at this
                exact this
              have hPs := own_pairs hown
              clear hacc hown hE' hP'
              go_wp2_with fail
              go_ret2
              refine ⟨_, ret_pair (v := u7) hE2.out.symm, ?_, hb.trans (hb2.mono hb.size)⟩
              rw [hP2.out]
              exact hPs
end Go.Proofs.YtnkefpopkaagaaaDoor
