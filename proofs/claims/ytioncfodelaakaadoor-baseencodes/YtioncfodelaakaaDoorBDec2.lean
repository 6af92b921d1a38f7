/-
  The document's Decode, for every text: the walk.
-/
import Derived.Test.YtioncfodelaakaaDoorBDec
namespace Go.Proofs.YtioncfodelaakaaDoor
open Go.RowKit Ch

theorem text_ne {A C : ByteArray} (h : A ≠ C) : (A.toList == C.toList) = false := by
  rw [beq_eq_false_iff_ne, ByteArray.toList_eq, ByteArray.toList_eq]
  intro e
  exact h (ByteArray.ext (Array.toList_inj.1 e))

set_option maxHeartbeats 1000000 in
theorem sDecode_any (s : ByteArray) (w : World) (hs : s.size ≤ 60000) :
    Calls Tryd.prog 17 #[.string s] w fun e w' => ∃ v E b, e = .returned (.tuple #[v, .int .i64 E]) ∧ IsBytes w' v b ∧ DecSaid s.data.toList E b ∧ Below w.heap.size w w' := by
  go_enter Tryd.func17, Tryd.ntmps17
  go_wp2
  go_loopw [4, 5] (fun v t wr => ∃ (i : Nat) (acc : List UInt8), i ≤ s.size ∧ t = .int .i64 i ∧ wr.ownsRow w.heap.size 5 1 v acc.length (Lib.byteCells acc) ∧ Below w.heap.size w wr ∧ Hid (acc ++ keptL (s.data.toList.drop i) = keptL s.data.toList) ∧ Hid (acc.all okSign = true) ∧ acc.length ≤ i) (fun _ t _ => s.size - (intOf t).toNat)
  case atStart => exact ⟨0, [], Nat.zero_le _, rfl, World.ownsRow_nil _ _ _ _, Below.refl _ _, rfl, rfl, by simp⟩
  case round =>
    obtain ⟨i, acc, hi0, rfl, hown, hb, hacc, hok, hal⟩ := hrel
    have hbz := hb.size
    by_cases hlt : i < s.size
    · obtain ⟨c, hc, hdr, hcc⟩ := byte_at8 s i hlt
      obtain rfl : c = s[i]'hlt := UInt8.toNat_inj.1 (by omega)
      have hBl := sBlank_any (s[i]'hlt) wr
      have hSx := sSix_u8 (s[i]'hlt) wr
      clear hcc hc
      by_cases hbl : isBlank8 (s[i]'hlt) = true
      · have hW : Hid (acc ++ keptL (s.data.toList.drop (i + 1)) = keptL s.data.toList) := by
          have := hacc.out
          rw [hdr, keptL_blank hbl] at this
          exact this
        clear hacc hdr
        rw [hbl] at hBl
        go_wp2_with fail
        refine hBl.mono ?_
        rintro e w1 ⟨rfl, hw1⟩
        rw [hw1]
        clear hw1 w1
        go_wp2_with fail
        go_roundw
        case rel => exact ⟨i + 1, acc, by omega, by go_num, hown, hb, hW, hok, by omega⟩
        case measure => simp [intOf]; omega
      · have hbl' : isBlank8 (s[i]'hlt) = false := by simpa using hbl
        rw [hbl'] at hBl
        by_cases hs8 : okSign (s[i]'hlt) = true
        · obtain ⟨l2, hl2, hn2⟩ := snoc_ex acc (s[i]'hlt)
          have hW : Hid (l2 ++ keptL (s.data.toList.drop (i + 1)) = keptL s.data.toList) := by
            have := hacc.out
            rw [hdr, keptL_sign hbl'] at this
            unfold Hid
            rw [← this, ← hl2.out]
            simp
          have hok2 : Hid (l2.all okSign = true) := by
            unfold Hid
            rw [← hl2.out, List.all_append, hok.out]
            simp [hs8]
          by_cases h61 : (s[i]'hlt).toNat = 61
          · have e61 : (((s[i]'hlt).toNat : Int) != 61) = false := by rw [h61]; rfl
            clear hacc hdr hbl hbl' hs8 h61 hSx
            go_wp2_with fail
            refine hBl.mono ?_
            rintro e w1 ⟨rfl, hw1⟩
            rw [hw1]
            clear hw1 w1
            go_wp2_with (at_builtin; refine wpList_append_one rfl _ _ rfl w.heap.size _ acc rfl hown _ rfl _ rfl l2 hl2 (by omega) hbz hb ?_)
            intro v2 w2 hown2 hb2
            clear hown
            go_wp2_with fail
            go_roundw
            case rel => exact ⟨i + 1, l2, by omega, by go_num, hown2, hb2, hW, hok2, by omega⟩
            case measure => simp [intOf]; omega
          · have e61 : (((s[i]'hlt).toNat : Int) != 61) = true := by simp; omega
            obtain ⟨z, hz⟩ : ∃ z, sixZ (s[i]'hlt).toNat = z := ⟨_, rfl⟩
            have hz0 : 0 ≤ z := by
              rw [← hz]
              by_cases h : sixZ (s[i]'hlt).toNat < 0
              · have h2 := sixZ_neg.1 h
                unfold okSign at hs8
                rw [h2, Bool.or_false, beq_iff_eq] at hs8
                exact absurd (by rw [hs8]; rfl) h61
              · omega
            rw [hz] at hSx
            clear hacc hdr hbl hbl' hs8 h61 hz
            go_wp2_with fail
            refine hBl.mono ?_
            rintro e w1 ⟨rfl, hw1⟩
            rw [hw1]
            clear hw1 w1
            go_wp2_with fail
            refine hSx.mono ?_
            rintro e w1 ⟨rfl, hw1⟩
            rw [hw1]
            clear hw1 w1
            go_wp2_with (at_builtin; refine wpList_append_one rfl _ _ rfl w.heap.size _ acc rfl hown _ rfl _ rfl l2 hl2 (by omega) hbz hb ?_)
            intro v2 w2 hown2 hb2
            clear hown
            go_wp2_with fail
            go_roundw
            case rel => exact ⟨i + 1, l2, by omega, by go_num, hown2, hb2, hW, hok2, by omega⟩
            case measure => simp [intOf]; omega
        · have hs8' : okSign (s[i]'hlt) = false := by simpa using hs8
          have hE : Hid (DecSaid s.data.toList 13 ⟨#[]⟩) := by
            have := hacc.out
            rw [hdr] at this
            exact dec_bad this hbl' hs8'
          have hor := hs8'
          unfold okSign at hor
          rw [Bool.or_eq_false_iff] at hor
          have e61 : (((s[i]'hlt).toNat : Int) != 61) = true := by
            have h1 := beq_eq_false_iff_ne.1 hor.1
            have : (s[i]'hlt).toNat ≠ 61 := fun e => h1 (UInt8.toNat_inj.1 e)
            simp
            omega
          obtain ⟨z, hz⟩ : ∃ z, sixZ (s[i]'hlt).toNat = z := ⟨_, rfl⟩
          have hz0 : z < 0 := by rw [← hz]; exact sixZ_neg.2 hor.2
          rw [hz] at hSx
          clear hacc hdr hbl hbl' hs8 hs8' hor hz hown
          go_wp2_with fail
          refine hBl.mono ?_
          rintro e w1 ⟨rfl, hw1⟩
          rw [hw1]
          clear hw1 w1
          go_wp2_with fail
          refine hSx.mono ?_
          rintro e w1 ⟨rfl, hw1⟩
          rw [hw1]
          clear hw1 w1
          go_wp2_with fail
          go_ret2
          exact ⟨_, _, _, rfl, bytes_nil _, hE.out, hb⟩
    · have hT : Hid (acc = keptL s.data.toList) := by
        have := hacc.out
        rw [List.drop_of_length_le (by rw [len_eq]; omega)] at this
        have e0 : keptL [] = [] := rfl
        rw [e0, List.append_nil] at this
        exact this
      clear hacc
      obtain ⟨a4, cap4, rfl⟩ := own_shape hown
      obtain ⟨w1, rfl⟩ : ∃ w1 : World, w1 = wr := ⟨_, rfl⟩
      have HT : Hid (IsBytes w1 (.slice a4 acc.length cap4) ⟨acc.toArray⟩) := list_bytes hown
      obtain ⟨T, rfl⟩ : ∃ T, T = acc := ⟨_, rfl⟩
      have elt : decide ((i : Int) < (s.size : Int)) = false := decide_eq_false (by omega)
      clear hown
      go_wp2_with fail
      go_loopw [6, 7] (fun v t wr => ∃ (k : Nat) (bs : List Nat), k ≤ T.length ∧ t = .int .i64 k ∧ wr.ownsRow w1.heap.size 3 1 v bs.length (intCells bs) ∧ Below w1.heap.size w1 wr ∧ Hid (bs ++ bitsL (T.drop k) = bitsL T) ∧ bs.length ≤ 6 * k) (fun _ t _ => T.length - (intOf t).toNat)
      case atStart => exact ⟨0, [], Nat.zero_le _, rfl, World.ownsRow_nil _ _ _ _, Below.refl _ _, rfl, by simp⟩
      case round =>
        obtain ⟨m, bs, hm0, rfl, hownB, hbB, hbits, hbl⟩ := hrel
        obtain ⟨w2, rfl⟩ : ∃ w2 : World, w2 = wr := ⟨_, rfl⟩
        have hbBz := hbB.size
        by_cases hltT : m < T.length
        · obtain ⟨c, hc⟩ : ∃ c, T[m]? = some c := ⟨_, List.getElem?_eq_getElem hltT⟩
          have hdr : T.drop m = c :: T.drop (m + 1) := by
            rw [List.drop_eq_getElem_cons hltT]
            congr 1
            rw [List.getElem?_eq_getElem hltT] at hc
            exact Option.some.inj hc
          have hokc : okSign c = true := by
            have := hok.out
            rw [List.all_eq_true] at this
            exact this c (List.mem_of_getElem? hc)
          obtain ⟨g4, o4, rfl, hg4, hcell0, hcap1, hcap2⟩ := cell_at HT.out hc
          unfold maxLen at hcap2
          have hcell : w2.cell? ⟨g4, o4 + m, none⟩ = some (.int .u8 (c.toNat : Int)) := (hbB.cell (p := ⟨g4, o4 + m, none⟩) hg4).trans hcell0
          have hltI : (m : Int) < (T.length : Int) := by omega
          have eltI : decide ((m : Int) < (T.length : Int)) = true := decide_eq_true hltI
          by_cases h61 : c.toNat = 61
          · have HB : Hid (bitsL T = bs) := by
              have := hbits.out
              rw [hdr, show c = 61 from UInt8.toNat_inj.1 h61, bitsL_stop, List.append_nil] at this
              exact this.symm
            have hBl : bs.length ≤ 360000 := by omega
            obtain ⟨B, rfl⟩ : ∃ B, B = bs := ⟨_, rfl⟩
            obtain ⟨a6, cap6, rfl⟩ := own_shape hownB
            have HOB : Hid (w2.ownsRow w1.heap.size 3 1 (.slice a6 B.length cap6) B.length (intCells B)) := hownB
            have e61 : ((c.toNat : Int) != 61) = false := by rw [h61]; rfl
            obtain ⟨C61, hC61⟩ : ∃ x : Int, (c.toNat : Int) = x := ⟨_, rfl⟩
            rw [hC61] at hcell e61
            clear hC61 h61 hcell0 hc hokc hdr
            clear hbits hownB
            go_wp2_with fail
            go_loopw [10, 11] (fun v t wr => ∃ (k j : Nat) (l : List UInt8), Hid (k = 8 * j) ∧ j ≤ B.length / 8 ∧ t = .int .i64 k ∧ wr.ownsRow w2.heap.size 5 1 v l.length (Lib.byteCells l) ∧ Below w2.heap.size w2 wr ∧ Hid (l = bytesL B j) ∧ l.length ≤ j) (fun _ t _ => 400000 - (intOf t).toNat)
            case atStart => exact ⟨0, 0, [], rfl, Nat.zero_le _, rfl, World.ownsRow_nil _ _ _ _, Below.refl _ _, rfl, by simp⟩
            case round =>
              obtain ⟨k, j, l, hkj, hj, rfl, hownO, hb3, hl, hll⟩ := hrel
              have hb3z := hb3.size
              have hkj' := hkj.out
              by_cases hltj : j < B.length / 8
              · have hk8 : k + 8 ≤ B.length := by omega
                have e8 : decide ((k : Int) + 8 ≤ (B.length : Int)) = true := decide_eq_true (by omega)
                clear hkj'
                go_wp2_with fail
                go_loop [12, 13] (fun n t => ∃ q g : Nat, q ≤ 8 ∧ t = .int .i64 (q : Int) ∧ n = .int .i64 (g : Int) ∧ Hid (g = numL B k q) ∧ g < 256) (fun _ t => 8 - (intOf t).toNat)
                case atStart => exact ⟨0, 0, by omega, rfl, rfl, rfl, by omega⟩
                case round =>
                  obtain ⟨q, g, hq, rfl, rfl, hg, hg256⟩ := hrel
                  by_cases hq8 : q < 8
                  · obtain ⟨x, hx⟩ : ∃ x, B[k + q]? = some x := ⟨_, List.getElem?_eq_getElem (by omega)⟩
                    obtain ⟨gb, capb, hvb, hcell, hcb1, hcb2⟩ := int_at (ownsRow_later HOB.out hb3) hx
                    simp only [Value.slice.injEq, true_and] at hvb
                    obtain ⟨rfl, rfl⟩ := hvb
                    have hx2 : x < 2 := bitsL_lt' HB.out x (List.mem_of_getElem? hx)
                    have hg2 : Hid (g * 2 + x = numL B k (q + 1)) := by unfold Hid; rw [numL, ← hg.out, List.getD_eq_getElem?_getD, hx]; rfl
                    have hgl : g * 2 + x < 256 := by
                      rw [hg2.out]
                      exact Nat.lt_of_lt_of_le (numL_lt (bitsL_lt' HB.out) k (q + 1)) (Nat.pow_le_pow_right (n := 2) (j := 8) (by omega) (by omega))
                    unfold maxLen at hcb2
                    clear hx hg
                    go_wp2_with fail
                    go_round
                    case rel => exact ⟨q + 1, g * 2 + x, by omega, by go_num, by go_num, hg2, hgl⟩
                    case measure => simp [intOf]; omega
                  · obtain rfl : q = 8 := by omega
                    obtain ⟨c, hc⟩ : ∃ c, UInt8.ofNat g = c := ⟨_, rfl⟩
                    have hcv : Hid ((g : Int) = (c.toNat : Int)) := by
                      unfold Hid
                      rw [← hc, UInt8.toNat_ofNat']
                      omega
                    obtain ⟨l2, hl2, hn2⟩ := snoc_ex l c
                    have hL : Hid (l2 = bytesL B (j + 1)) := by unfold Hid; rw [bytesL_succ, ← hl.out, ← hl2.out, ← hkj.out, ← hg.out, hc]
                    clear hg hl hc
                    go_wp2_with (at_builtin; refine wpList_append_one rfl _ _ rfl w2.heap.size _ l rfl hownO _ rfl c hcv l2 hl2 (by omega) hb3z hb3 ?_)
                    intro v3 w3 hownO3 hb4
                    clear hownO
                    go_wp2_with fail
                    go_roundw
                    case rel => exact ⟨k + 8, j + 1, l2, by unfold Hid; rw [hkj.out]; omega, by omega, by go_num, hownO3, hb4, hL, by omega⟩
                    case measure => simp [intOf]; omega
              · have hk9 : B.length < k + 8 := by omega
                have hk10 : k ≤ 400000 := by omega
                have e8 : decide ((k : Int) + 8 ≤ (B.length : Int)) = false := decide_eq_false (by omega)
                have hR : Hid (l = readL T) := by
                  unfold Hid readL
                  rw [hl.out, HB.out, show j = B.length / 8 by omega]
                obtain ⟨a10, cap10, rfl⟩ := own_shape hownO
                have HO : Hid (IsBytes wr (.slice a10 l.length cap10) ⟨l.toArray⟩) := list_bytes hownO
                have HT3 : Hid (IsBytes wr (.slice (some ⟨g4, o4, none⟩) T.length cap4) ⟨T.toArray⟩) := HT.out.later (hbB.trans (hb3.mono hbBz))
                have hcv := HT3.out.convert
                have hcvd : (convert 22 9 (.slice (some ⟨g4, o4, none⟩) T.length cap4)).run Tryd.prog wr.drew = .ok (.string ⟨T.toArray⟩) wr.drew := (HT3.out.later (Below.refl _ wr).drew).convert
                have hEnc : Calls Tryd.prog 11 #[.slice a10 l.length cap10] wr.drew fun e w' => e = .returned (.string ⟨(encL ⟨l.toArray⟩).toArray⟩) ∧ Below wr.drew.heap.size wr.drew w' := by
                  have hz : (⟨l.toArray⟩ : ByteArray).size = l.length := size_of_list l
                  have h := sEncode_any a10 cap10 ⟨l.toArray⟩ wr.drew (by omega) (by rw [hz]; exact HO.out.later (Below.refl _ wr).drew)
                  rw [hz] at h
                  exact h
                have hbw : Below w.heap.size w wr := hb.trans ((hbB.trans (hb3.mono hbBz)).mono hbz)
                have hbwz := hbw.size
                obtain ⟨A, hA⟩ : ∃ A : ByteArray, (⟨(encL ⟨l.toArray⟩).toArray⟩ : ByteArray) = A := ⟨_, rfl⟩
                obtain ⟨C, hC⟩ : ∃ C : ByteArray, (⟨T.toArray⟩ : ByteArray) = C := ⟨_, rfl⟩
                have hAC : A = C ↔ encL ⟨(readL T).toArray⟩ = T := by
                  rw [← hA, ← hC, ← hR.out]
                  constructor
                  · intro e
                    have := congrArg (fun z : ByteArray => z.data.toList) e
                    simpa using this
                  · intro e
                    rw [e]
                have HCv : ∀ W : World, Below wr.heap.size wr W → (convert 22 9 (.slice (some ⟨g4, o4, none⟩) T.length cap4)).run Tryd.prog W = .ok (.string C) W := fun W hW => by rw [← hC]; exact (HT3.out.later hW).convert
                rw [hA] at hEnc
                rw [hC] at hcv hcvd
                have HK : Hid ((keptL s.data.toList).all okSign = true) := by unfold Hid; rw [← hT.out]; exact hok.out
                clear hownO hA hC hkj' hkj hl
                by_cases hEq : A = C
                · have hD : Hid (DecSaid s.data.toList 0 ⟨l.toArray⟩) := by
                    have h1 := hAC.1 hEq
                    rw [hT.out] at h1 hR
                    unfold Hid
                    rw [hR.out]
                    exact dec_ok HK.out h1
                  subst hEq
                  clear hAC
                  go_wp2_with fail
                  go_region_law (first
                    | (go_simp
                       go_wp2_with (go_at_call 11; refine hEnc.mono ?_)
                       rintro e w9 ⟨rfl, hb9⟩
                       have hb9' : Below wr.heap.size wr w9 := (Below.refl _ wr).drew.trans hb9
                       have hcv9 := HCv w9 hb9'))
                  all_goals
                    go_wp2
                    go_ret2
                    exact ⟨_, _, _, rfl, HO.out.later hb9', hD.out, hbw.trans (hb9'.mono hbwz)⟩
                · have hD : Hid (DecSaid s.data.toList 10 ⟨#[]⟩) := by
                    have h1 := fun h => hEq (hAC.2 h)
                    rw [hT.out] at h1
                    exact dec_form HK.out h1
                  have n1 : (A.toList == C.toList) = false := text_ne hEq
                  clear hAC
                  go_wp2_with fail
                  go_region_law (first
                    | (go_simp
                       go_wp2_with (go_at_call 11; refine hEnc.mono ?_)
                       rintro e w9 ⟨rfl, hb9⟩
                       have hb9' : Below wr.heap.size wr w9 := (Below.refl _ wr).drew.trans hb9
                       have hcv9 := HCv w9 hb9'))
                  all_goals
                    go_wp2
                    go_ret2
                    exact ⟨_, _, _, rfl, bytes_nil _, hD.out, hbw.trans (hb9'.mono hbwz)⟩
          · have hne : c ≠ 61 := fun e => h61 (by rw [e]; rfl)
            have e61 : ((c.toNat : Int) != 61) = true := by simp; omega
            have hsome : (sixO c.toNat).isSome = true := by
              unfold okSign at hokc
              have : (c == 61) = false := by simpa using hne
              rw [this, Bool.false_or] at hokc
              exact hokc
            have hSx := sSix_u8 c w2
            rw [sixZ_six8 hsome] at hSx
            have hn64 : six8 c < 64 := by
              unfold six8
              cases e : sixO c.toNat with
              | none => simp
              | some n => exact six_lt e
            have hbits2 : Hid (bs ++ bits6 (six8 c) ++ bitsL (T.drop (m + 1)) = bitsL T) := by
              have := hbits.out
              rw [hdr, bitsL_cons hne] at this
              unfold Hid
              rw [← this, List.append_assoc]
            obtain ⟨n, hn⟩ : ∃ n, six8 c = n := ⟨_, rfl⟩
            rw [hn] at hSx hn64 hbits2
            clear hbits hdr hokc hne hsome hn h61 hcell0 hc
            go_wp2_with fail
            refine hSx.mono ?_
            rintro e w3 ⟨rfl, hw3⟩
            rw [hw3]
            clear hw3 w3
            go_wp2_with fail
            go_loopw [6, 9] (fun v t wr => ∃ (q : Nat) (z : Int) (bs2 : List Nat), q ≤ 6 ∧ t = .int .i64 z ∧ Hid (z = 5 - (q : Int)) ∧ wr.ownsRow w1.heap.size 3 1 v bs2.length (intCells bs2) ∧ Below w1.heap.size w1 wr ∧ Hid (bs2 = bs ++ (bits6 n).take q) ∧ bs2.length ≤ 6 * m + q) (fun _ t _ => (intOf t + 1).toNat)
            case atStart => exact ⟨0, 5, bs, by omega, rfl, rfl, hownB, hbB, by simp [Hid], by omega⟩
            case round =>
              obtain ⟨q, z, bs2, hq, rfl, hz, hown2, hb2, hbs2, hbl2⟩ := hrel
              have hb2z := hb2.size
              have hz' := hz.out
              by_cases hq6 : q < 6
              · obtain ⟨kk, hkk⟩ : ∃ kk : Nat, z = (kk : Int) := ⟨(5 - q : Nat), by omega⟩
                have hqk : Hid (q + kk = 5) := by unfold Hid; omega
                have hk5 : kk ≤ 5 := by omega
                clear hz hz'
                subst hkk
                have hP := sPow_any kk wr (by omega)
                obtain ⟨p, hp⟩ : ∃ p, 2 ^ kk = p := ⟨_, rfl⟩
                have hp1 : 1 ≤ p := by rw [← hp]; exact Nat.pow_pos (by omega)
                rw [hp] at hP
                obtain ⟨d, hd⟩ : ∃ d, n / p = d := ⟨_, rfl⟩
                have e4 : (n : Int).tdiv (p : Int) = (d : Int) := by rw [Int.tdiv_eq_ediv_of_nonneg (by omega), ← hd]; rfl
                have e4' : (n : Int) / (p : Int) = (d : Int) := by rw [← hd]; rfl
                have hd64 : d < 64 := by have := Nat.div_le_self n p; omega
                obtain ⟨x, hx⟩ : ∃ x, d % 2 = x := ⟨_, rfl⟩
                have e5 : (d : Int).tmod 2 = (x : Int) := by rw [Int.tmod_eq_emod_of_nonneg (by omega), ← hx]; rfl
                have e5' : (d : Int) % 2 = (x : Int) := by rw [← hx]; rfl
                have hx2 : x < 2 := by omega
                have z1 : ((p : Int) == 0) = false := beq_eq_false_iff_ne.2 (by omega)
                obtain ⟨l2, hl2, hn2⟩ := snoc_exN bs2 x
                have hL : Hid (l2 = bs ++ (bits6 n).take (q + 1)) := by
                  unfold Hid
                  rw [bits6_take n hqk.out, ← hl2.out, hbs2.out, hp, hd, hx, List.append_assoc]
                clear hbs2 hd hx hp
                go_wp2_with fail
                refine hP.mono ?_
                rintro e w3 ⟨rfl, hw3⟩
                rw [hw3]
                clear hw3 w3
                go_wp2_with (at_builtin; refine wpList_append_int rfl _ _ rfl w1.heap.size _ bs2 rfl hown2 _ rfl x rfl l2 hl2 (by omega) hb2z hb2 ?_)
                intro v3 w3 hown3 hb3
                clear hown2
                go_wp2_with fail
                go_roundw
                case rel => exact ⟨q + 1, (kk : Int) - 1, l2, by omega, by go_num, by unfold Hid; have := hqk.out; omega, hown3, hb3, hL, by omega⟩
                case measure => simp [intOf]
              · obtain rfl : q = 6 := by omega
                obtain rfl : z = -1 := by omega
                have hW : Hid (bs2 ++ bitsL (T.drop (m + 1)) = bitsL T) := by
                  unfold Hid
                  rw [hbs2.out]
                  exact hbits2.out
                clear hbs2 hbits2 hz hz'
                go_wp2_with fail
                go_roundw
                case rel => exact ⟨m + 1, bs2, by omega, by go_num, hown2, hb2, hW, by omega⟩
                case measure => simp [intOf]; omega
        · have HB : Hid (bitsL T = bs) := by
            have := hbits.out
            rw [List.drop_of_length_le (by omega), show bitsL [] = [] from rfl, List.append_nil] at this
            exact this.symm
          have hBl : bs.length ≤ 360000 := by omega
          obtain ⟨B, rfl⟩ : ∃ B, B = bs := ⟨_, rfl⟩
          obtain ⟨a6, cap6, rfl⟩ := own_shape hownB
          have HOB : Hid (w2.ownsRow w1.heap.size 3 1 (.slice a6 B.length cap6) B.length (intCells B)) := hownB
          have eltI : decide ((m : Int) < (T.length : Int)) = false := decide_eq_false (by omega)
          clear hbits hownB
          go_wp2_with fail
          go_loopw [10, 11] (fun v t wr => ∃ (k j : Nat) (l : List UInt8), Hid (k = 8 * j) ∧ j ≤ B.length / 8 ∧ t = .int .i64 k ∧ wr.ownsRow w2.heap.size 5 1 v l.length (Lib.byteCells l) ∧ Below w2.heap.size w2 wr ∧ Hid (l = bytesL B j) ∧ l.length ≤ j) (fun _ t _ => 400000 - (intOf t).toNat)
          case atStart => exact ⟨0, 0, [], rfl, Nat.zero_le _, rfl, World.ownsRow_nil _ _ _ _, Below.refl _ _, rfl, by simp⟩
          case round =>
            obtain ⟨k, j, l, hkj, hj, rfl, hownO, hb3, hl, hll⟩ := hrel
            have hb3z := hb3.size
            have hkj' := hkj.out
            by_cases hltj : j < B.length / 8
            · have hk8 : k + 8 ≤ B.length := by omega
              have e8 : decide ((k : Int) + 8 ≤ (B.length : Int)) = true := decide_eq_true (by omega)
              clear hkj'
              go_wp2_with fail
              go_loop [12, 13] (fun n t => ∃ q g : Nat, q ≤ 8 ∧ t = .int .i64 (q : Int) ∧ n = .int .i64 (g : Int) ∧ Hid (g = numL B k q) ∧ g < 256) (fun _ t => 8 - (intOf t).toNat)
              case atStart => exact ⟨0, 0, by omega, rfl, rfl, rfl, by omega⟩
              case round =>
                obtain ⟨q, g, hq, rfl, rfl, hg, hg256⟩ := hrel
                by_cases hq8 : q < 8
                · obtain ⟨x, hx⟩ : ∃ x, B[k + q]? = some x := ⟨_, List.getElem?_eq_getElem (by omega)⟩
                  obtain ⟨gb, capb, hvb, hcell, hcb1, hcb2⟩ := int_at (ownsRow_later HOB.out hb3) hx
                  simp only [Value.slice.injEq, true_and] at hvb
                  obtain ⟨rfl, rfl⟩ := hvb
                  have hx2 : x < 2 := bitsL_lt' HB.out x (List.mem_of_getElem? hx)
                  have hg2 : Hid (g * 2 + x = numL B k (q + 1)) := by unfold Hid; rw [numL, ← hg.out, List.getD_eq_getElem?_getD, hx]; rfl
                  have hgl : g * 2 + x < 256 := by
                    rw [hg2.out]
                    exact Nat.lt_of_lt_of_le (numL_lt (bitsL_lt' HB.out) k (q + 1)) (Nat.pow_le_pow_right (n := 2) (j := 8) (by omega) (by omega))
                  unfold maxLen at hcb2
                  clear hx hg
                  go_wp2_with fail
                  go_round
                  case rel => exact ⟨q + 1, g * 2 + x, by omega, by go_num, by go_num, hg2, hgl⟩
                  case measure => simp [intOf]; omega
                · obtain rfl : q = 8 := by omega
                  obtain ⟨c, hc⟩ : ∃ c, UInt8.ofNat g = c := ⟨_, rfl⟩
                  have hcv : Hid ((g : Int) = (c.toNat : Int)) := by
                    unfold Hid
                    rw [← hc, UInt8.toNat_ofNat']
                    omega
                  obtain ⟨l2, hl2, hn2⟩ := snoc_ex l c
                  have hL : Hid (l2 = bytesL B (j + 1)) := by unfold Hid; rw [bytesL_succ, ← hl.out, ← hl2.out, ← hkj.out, ← hg.out, hc]
                  clear hg hl hc
                  go_wp2_with (at_builtin; refine wpList_append_one rfl _ _ rfl w2.heap.size _ l rfl hownO _ rfl c hcv l2 hl2 (by omega) hb3z hb3 ?_)
                  intro v3 w3 hownO3 hb4
                  clear hownO
                  go_wp2_with fail
                  go_roundw
                  case rel => exact ⟨k + 8, j + 1, l2, by unfold Hid; rw [hkj.out]; omega, by omega, by go_num, hownO3, hb4, hL, by omega⟩
                  case measure => simp [intOf]; omega
            · have hk9 : B.length < k + 8 := by omega
              have hk10 : k ≤ 400000 := by omega
              have e8 : decide ((k : Int) + 8 ≤ (B.length : Int)) = false := decide_eq_false (by omega)
              have hR : Hid (l = readL T) := by
                unfold Hid readL
                rw [hl.out, HB.out, show j = B.length / 8 by omega]
              obtain ⟨a10, cap10, rfl⟩ := own_shape hownO
              have HO : Hid (IsBytes wr (.slice a10 l.length cap10) ⟨l.toArray⟩) := list_bytes hownO
              have HT3 : Hid (IsBytes wr (.slice a4 T.length cap4) ⟨T.toArray⟩) := HT.out.later (hbB.trans (hb3.mono hbBz))
              have hcv := HT3.out.convert
              have hcvd : (convert 22 9 (.slice a4 T.length cap4)).run Tryd.prog wr.drew = .ok (.string ⟨T.toArray⟩) wr.drew := (HT3.out.later (Below.refl _ wr).drew).convert
              have hEnc : Calls Tryd.prog 11 #[.slice a10 l.length cap10] wr.drew fun e w' => e = .returned (.string ⟨(encL ⟨l.toArray⟩).toArray⟩) ∧ Below wr.drew.heap.size wr.drew w' := by
                have hz : (⟨l.toArray⟩ : ByteArray).size = l.length := size_of_list l
                have h := sEncode_any a10 cap10 ⟨l.toArray⟩ wr.drew (by omega) (by rw [hz]; exact HO.out.later (Below.refl _ wr).drew)
                rw [hz] at h
                exact h
              have hbw : Below w.heap.size w wr := hb.trans ((hbB.trans (hb3.mono hbBz)).mono hbz)
              have hbwz := hbw.size
              obtain ⟨A, hA⟩ : ∃ A : ByteArray, (⟨(encL ⟨l.toArray⟩).toArray⟩ : ByteArray) = A := ⟨_, rfl⟩
              obtain ⟨C, hC⟩ : ∃ C : ByteArray, (⟨T.toArray⟩ : ByteArray) = C := ⟨_, rfl⟩
              have hAC : A = C ↔ encL ⟨(readL T).toArray⟩ = T := by
                rw [← hA, ← hC, ← hR.out]
                constructor
                · intro e
                  have := congrArg (fun z : ByteArray => z.data.toList) e
                  simpa using this
                · intro e
                  rw [e]
              have HCv : ∀ W : World, Below wr.heap.size wr W → (convert 22 9 (.slice a4 T.length cap4)).run Tryd.prog W = .ok (.string C) W := fun W hW => by rw [← hC]; exact (HT3.out.later hW).convert
              rw [hA] at hEnc
              rw [hC] at hcv hcvd
              have HK : Hid ((keptL s.data.toList).all okSign = true) := by unfold Hid; rw [← hT.out]; exact hok.out
              clear hownO hA hC hkj' hkj hl
              by_cases hEq : A = C
              · have hD : Hid (DecSaid s.data.toList 0 ⟨l.toArray⟩) := by
                  have h1 := hAC.1 hEq
                  rw [hT.out] at h1 hR
                  unfold Hid
                  rw [hR.out]
                  exact dec_ok HK.out h1
                subst hEq
                clear hAC
                go_wp2_with fail
                go_region_law (first
                  | (go_simp
                     go_wp2_with (go_at_call 11; refine hEnc.mono ?_)
                     rintro e w9 ⟨rfl, hb9⟩
                     have hb9' : Below wr.heap.size wr w9 := (Below.refl _ wr).drew.trans hb9
                     have hcv9 := HCv w9 hb9'))
                all_goals
                  go_wp2
                  go_ret2
                  exact ⟨_, _, _, rfl, HO.out.later hb9', hD.out, hbw.trans (hb9'.mono hbwz)⟩
              · have hD : Hid (DecSaid s.data.toList 10 ⟨#[]⟩) := by
                  have h1 := fun h => hEq (hAC.2 h)
                  rw [hT.out] at h1
                  exact dec_form HK.out h1
                have n1 : (A.toList == C.toList) = false := text_ne hEq
                clear hAC
                go_wp2_with fail
                go_region_law (first
                  | (go_simp
                     go_wp2_with (go_at_call 11; refine hEnc.mono ?_)
                     rintro e w9 ⟨rfl, hb9⟩
                     have hb9' : Below wr.heap.size wr w9 := (Below.refl _ wr).drew.trans hb9
                     have hcv9 := HCv w9 hb9'))
                all_goals
                  go_wp2
                  go_ret2
                  exact ⟨_, _, _, rfl, bytes_nil _, hD.out, hbw.trans (hb9'.mono hbwz)⟩
end Go.Proofs.YtioncfodelaakaaDoor
