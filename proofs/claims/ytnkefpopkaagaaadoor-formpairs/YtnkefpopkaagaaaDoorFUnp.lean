/-
  The program's Unpercent.
-/
import Derived.Test.YtnkefpopkaagaaaDoorFPerc
import Derived.Test.YtnkefpopkaagaaaDoorDUnhexC
namespace Go.Proofs.YtnkefpopkaagaaaDoor
open Go.RowKit Ch
set_option maxRecDepth 100000

/-- What the program's Unpercent answers. -/
def UnpProg (plus : Bool) (s : ByteArray) (e : Ending) : Prop := (unpL plus s.data.toList = none ∧ e = .returned (.tuple #[.string ⟨#[]⟩, .int .i64 10])) ∨ ∃ t : List UInt8, unpL plus s.data.toList = some t ∧ e = .returned (.tuple #[.string ⟨t.toArray⟩, .int .i64 0])
theorem not_both {a b : Bool} (h : ¬ (a = true ∧ b = true)) : a = false ∨ b = false := by cases a <;> cases b <;> simp_all
theorem rest_data (R : ByteArray) (k : Nat) : (R.extract k R.size).data.toList = R.data.toList.drop k := by
  rw [Lib.extract_data, ← len_eq, ← List.length_drop, List.take_length]

set_option maxHeartbeats 4000000 in
theorem fUnpercent_any (s : ByteArray) (plus : Bool) (w : World) (hs : s.size ≤ 1000000) :
    Calls Tryd.prog 10 #[.string s, .bool plus] w fun e w' => UnpProg plus s e ∧ Below w.heap.size w w' := by
  go_enter Tryd.func10, Tryd.ntmps10
  go_wp2_with fail
  go_loopw [7] (fun t wr => ∃ (R : ByteArray) (acc : List UInt8), t = .string R ∧ Lib.IsBuilderF 53 5 w.heap.size w.heap.size (Lib.byteCells acc) wr ∧ Below w.heap.size w wr ∧ Hid ((unpL plus R.data.toList).map (acc ++ ·) = unpL plus s.data.toList) ∧ acc.length + R.size ≤ s.size ∧ w.heap.size ≤ wr.heap.size) (fun t _ => strLen t)
  case atStart =>
    refine ⟨s, [], rfl, Lib.IsBuilderF.of (Lib.fresh_isBuilder 53 5 w), (Below.refl _ w).alloc (Nat.le_refl _) _, ?_, by simp, by simp⟩
    unfold Hid
    cases unpL plus s.data.toList <;> rfl
  case round =>
    obtain ⟨R, acc, rfl, hI, hbw, hacc, hal, hsz⟩ := hrel
    by_cases hlt : 0 < R.size
    · obtain ⟨c, hc, hdr, hcc⟩ := byte_at8 R 0 hlt
      rw [List.drop_zero] at hdr
      have hne : R.toList.isEmpty = false := by rw [Lib.toList_data, hdr]; rfl
      by_cases h37 : c = 37
      · have e37 : ((c.toNat : Int) == 37) = true := by rw [h37]; rfl
        rw [hdr, h37] at hacc
        by_cases hsh : R.size ≤ 2
        · have hN : Hid (unpL plus s.data.toList = none) := by
            have := hacc.out
            rw [unp_short (by rw [List.length_drop, len_eq]; omega)] at this
            exact this.symm
          rcases (show R.size = 1 ∨ R.size = 2 by omega) with h1 | h1
          · have hU := cUnhex_any (R.extract 1 1) wr (by rw [ByteArray.size_extract]; omega)
            have hX : (R.extract 1 1).data.toList = [] := by rw [Lib.extract_data]; rfl
            rw [hX] at hU
            have hE0 : unhexE [] = 0 := rfl
            have hB0 : unhexB [] = [] := rfl
            rw [hE0, hB0] at hU
            clear hacc hc hdr hX hE0 hB0 hI
            go_wp2_with fail
            refine hU.mono ?_
            rintro e w1 ⟨v1, rfl, hIB, hb1⟩
            obtain ⟨a1, cap1, rfl, _, _, _⟩ := hIB
            have hsz1 : (⟨([] : List UInt8).toArray⟩ : ByteArray).size = 0 := rfl
            rw [hsz1]
            clear hU
            go_wp2_with fail
            go_ret2
            exact ⟨.inl ⟨hN.out, rfl⟩, hbw.trans (hb1.mono hsz)⟩
          · have hU := cUnhex_any (R.extract 1 2) wr (by rw [ByteArray.size_extract]; omega)
            have hE : unhexE (R.extract 1 2).data.toList = 10 ∨ unhexE (R.extract 1 2).data.toList = 13 := by
              have hl : (R.extract 1 2).data.toList.length = 1 := by rw [len_eq, ByteArray.size_extract]; omega
              unfold unhexE
              rw [hl]
              split
              · exact .inl rfl
              · exact .inr rfl
            clear hacc hc hdr hI
            rcases hE with hE | hE
            all_goals
              rw [hE] at hU
              clear hE
              go_wp2_with fail
              refine hU.mono ?_
              rintro e w1 ⟨v1, rfl, _, hb1⟩
              clear hU
              go_wp2_with fail
              go_ret2
              exact ⟨.inl ⟨hN.out, rfl⟩, hbw.trans (hb1.mono hsz)⟩
        · have hl1 : 0 + 1 < R.size := by omega
          obtain ⟨a, ha, hdra, hca⟩ := byte_at8 R (0 + 1) hl1
          obtain ⟨b, hb', hdrb, hcb⟩ := byte_at8 R (0 + 1 + 1) (by omega)
          rw [hdra, hdrb] at hacc
          have hX : (R.extract 1 3).data.toList = [a, b] := by
            rw [Lib.extract_data, show R.data.toList.drop 1 = R.data.toList.drop (0 + 1) by rfl, hdra, hdrb]
            rfl
          have hU := cUnhex_any (R.extract 1 3) wr (by rw [ByteArray.size_extract]; omega)
          rw [hX] at hU
          have h3 : 3 ≤ R.size := by omega
          have hm : min (3 : Int) (R.size : Int) = 3 := by omega
          by_cases hd : isDig a = true ∧ isDig b = true
          · have hE0 : unhexE [a, b] = 0 := by unfold unhexE; rw [if_pos (by simp [hd.1, hd.2]), if_pos (by simp)]
            have hB0 : unhexB [a, b] = [two a b] := by unfold unhexB; rw [if_pos hE0]; rfl
            rw [hE0, hB0] at hU
            rw [unp_code hd.1 hd.2, map_snoc] at hacc
            obtain ⟨z, hz⟩ : ∃ z, two a b = z := ⟨_, rfl⟩
            rw [hz] at hU hacc
            have hR : Hid ((R.extract 3 R.size).data.toList = R.data.toList.drop 3) := rest_data R 3
            rw [show List.drop (0 + 1 + 1 + 1) R.data.toList = R.data.toList.drop 3 by rfl, ← hR.out] at hacc
            clear hc hdr ha hdra hca hb' hdrb hcb hX hE0 hB0 hz hd hsh
            go_wp2_with fail
            refine hU.mono ?_
            rintro e w1 ⟨v1, rfl, hIB, hb1⟩
            obtain ⟨a1, cap1, rfl, _, _, h0 | ⟨x1, rfl, h0 | ⟨g, o, rfl, hg, hF⟩⟩⟩ := hIB
            · exact absurd h0.2.1 (show ¬ (1 : Nat) = 0 by omega)
            · exact absurd h0 (show ¬ (1 : Nat) = 0 by omega)
            · have hcell : w1.cell? ⟨g, o, none⟩ = some (.int .u8 (z.toNat : Int)) := by
                have := hF 0 (show 0 + 0 < 1 by omega)
                rw [Nat.add_zero, Nat.add_zero] at this
                rw [this]
                rfl
              have hI1 := builder_later hI hb1
              have hbz1 := hb1.size
              have hsz1 : (⟨[z].toArray⟩ : ByteArray).size = 1 := rfl
              rw [hsz1]
              clear hF hI hU
              go_wp2_with (go_at_call 30; refine (Tryd.Builder_WriteByte_k w.heap.size w.heap.size _ _ _ hI1 (by rw [Lib.byteCells_length]; omega) (by omega)).mono ?_)
              rintro e w4 ⟨rfl, h4, b4, k4⟩
              have hs4 := b4.size
              have h4' : Hid (Lib.BuilderAtF 53 5 w.heap.size w.heap.size (.pointer (some ⟨w.heap.size, 0, none⟩)) (Lib.byteCells (acc ++ [z])) w4) := by
                rw [← cells_snoc]
                exact h4
              clear h4 hI1 k4
              go_wp2_with fail
              go_roundw
              case rel => exact ⟨R.extract 3 R.size, _, rfl, Or.inr h4'.out, hbw.trans ((hb1.mono hsz).trans b4), hacc, by simp; omega, by omega⟩
              case measure => simp [strLen]; omega
          · have hE13 : unhexE [a, b] = 13 := by
              unfold unhexE
              rw [if_neg]
              intro h
              simp only [List.all_cons, List.all_nil, Bool.and_true, Bool.and_eq_true] at h
              exact hd h
            have hN : Hid (unpL plus s.data.toList = none) := by
              have := hacc.out
              rw [unp_bad (not_both hd)] at this
              exact this.symm
            rw [hE13] at hU
            clear hacc hc hdr ha hdra hca hb' hdrb hcb hX hE13 hd hI hsh
            go_wp2_with fail
            refine hU.mono ?_
            rintro e w1 ⟨v1, rfl, _, hb1⟩
            clear hU
            go_wp2_with fail
            go_ret2
            exact ⟨.inl ⟨hN.out, rfl⟩, hbw.trans (hb1.mono hsz)⟩
      · have e37 : ((c.toNat : Int) == 37) = false := beq_eq_false_iff_ne.2 (fun e => h37 (UInt8.toNat_inj.1 (by show c.toNat = 37; omega)))
        obtain ⟨z, hz⟩ : ∃ z, sub8 plus c = z := ⟨_, rfl⟩
        rw [hdr, unp_plain h37, hz, map_snoc] at hacc
        have hR : Hid ((R.extract 1 R.size).data.toList = R.data.toList.drop 1) := rest_data R 1
        rw [show List.drop (0 + 1) R.data.toList = R.data.toList.drop 1 by rfl, ← hR.out] at hacc
        clear hdr hc hR
        by_cases h43 : c = 43
        · have e43 : ((c.toNat : Int) == 43) = true := by rw [h43]; rfl
          cases plus with
          | true =>
            have hzv : z = 32 := by rw [← hz, h43]; rfl
            subst hzv
            clear hz h43 h37
            go_wp2_with (go_at_call 30; refine (Tryd.Builder_WriteByte_k w.heap.size w.heap.size _ _ _ hI (by rw [Lib.byteCells_length]; omega) (by omega)).mono ?_)
            rintro e w4 ⟨rfl, h4, b4, k4⟩
            have hs4 := b4.size
            have h4' : Hid (Lib.BuilderAtF 53 5 w.heap.size w.heap.size (.pointer (some ⟨w.heap.size, 0, none⟩)) (Lib.byteCells (acc ++ [32])) w4) := by
              rw [← cells_snoc]
              exact h4
            clear h4 hI k4
            go_wp2_with fail
            go_roundw
            case rel => exact ⟨R.extract 1 R.size, _, rfl, Or.inr h4'.out, hbw.trans b4, hacc, by simp; omega, by omega⟩
            case measure => simp [strLen]; omega
          | false =>
            have hzv : z = c := by rw [← hz]; unfold sub8; rw [if_neg (by simp)]
            subst hzv
            clear hz h43 h37
            go_wp2_with (go_at_call 30; refine (Tryd.Builder_WriteByte_k w.heap.size w.heap.size _ _ _ hI (by rw [Lib.byteCells_length]; omega) (by omega)).mono ?_)
            rintro e w4 ⟨rfl, h4, b4, k4⟩
            have hs4 := b4.size
            have h4' : Hid (Lib.BuilderAtF 53 5 w.heap.size w.heap.size (.pointer (some ⟨w.heap.size, 0, none⟩)) (Lib.byteCells (acc ++ [z])) w4) := by
              rw [← cells_snoc]
              exact h4
            clear h4 hI k4
            go_wp2_with fail
            go_roundw
            case rel => exact ⟨R.extract 1 R.size, _, rfl, Or.inr h4'.out, hbw.trans b4, hacc, by simp; omega, by omega⟩
            case measure => simp [strLen]; omega
        · have e43 : ((c.toNat : Int) == 43) = false := beq_eq_false_iff_ne.2 (fun e => h43 (UInt8.toNat_inj.1 (by show c.toNat = 43; omega)))
          have hzv : z = c := by rw [← hz]; unfold sub8; rw [if_neg (fun h => h43 h.1)]
          subst hzv
          clear hz h43 h37
          go_wp2_with (go_at_call 30; refine (Tryd.Builder_WriteByte_k w.heap.size w.heap.size _ _ _ hI (by rw [Lib.byteCells_length]; omega) (by omega)).mono ?_)
          rintro e w4 ⟨rfl, h4, b4, k4⟩
          have hs4 := b4.size
          have h4' : Hid (Lib.BuilderAtF 53 5 w.heap.size w.heap.size (.pointer (some ⟨w.heap.size, 0, none⟩)) (Lib.byteCells (acc ++ [z])) w4) := by
            rw [← cells_snoc]
            exact h4
          clear h4 hI k4
          go_wp2_with fail
          go_roundw
          case rel => exact ⟨R.extract 1 R.size, _, rfl, Or.inr h4'.out, hbw.trans b4, hacc, by simp; omega, by omega⟩
          case measure => simp [strLen]; omega
    · have h0 : R.size = 0 := by omega
      have hR0 := empty_of_size h0
      subst hR0
      have hW : Hid (unpL plus s.data.toList = some acc) := by
        have := hacc.out
        have e0 : ByteArray.empty.data.toList = [] := rfl
        rw [e0, unp_nil, Option.map_some, List.append_nil] at this
        exact this.symm
      clear hacc h0
      go_wp2_with fail
      refine (Tryd.Builder_String_any_k w.heap.size w.heap.size _ _ hI hsz).mono ?_
      rintro e w4 ⟨rfl, _, b4, _⟩
      go_wp2_with fail
      go_ret2
      exact ⟨.inr ⟨acc, hW.out, rfl⟩, hbw.trans b4⟩
end Go.Proofs.YtnkefpopkaagaaaDoor
