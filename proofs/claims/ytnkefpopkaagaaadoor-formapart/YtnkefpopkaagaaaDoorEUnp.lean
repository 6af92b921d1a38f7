/-
  Layer 3's reference: out of percent coding.
-/
import Derived.Test.YtnkefpopkaagaaaDoorEPerc
import Derived.Test.YtnkefpopkaagaaaDoorDUnhex
namespace Go.Proofs.YtnkefpopkaagaaaDoor
open Go.RowKit Ch
set_option maxRecDepth 100000

def sub8 (plus : Bool) (c : UInt8) : UInt8 := if c = 43 ∧ plus = true then 32 else c
/-- The text of percent coding, where it is one; the first number: how many bytes are passed over. -/
def unpS (plus : Bool) : Nat → List UInt8 → Option (List UInt8)
  | _, [] => some []
  | k + 1, _ :: r => unpS plus k r
  | 0, c :: r => if c = 37 then (if 2 ≤ r.length ∧ (r.take 2).all isDig = true then (unpS plus 2 r).map (two (r.getD 0 0) (r.getD 1 0) :: ·) else none) else (unpS plus 0 r).map (sub8 plus c :: ·)
def unpL (plus : Bool) (l : List UInt8) : Option (List UInt8) := unpS plus 0 l
theorem unp_nil (plus : Bool) : unpL plus [] = some [] := rfl
theorem unp_plain {plus : Bool} {c : UInt8} {r : List UInt8} (h : c ≠ 37) : unpL plus (c :: r) = (unpL plus r).map (sub8 plus c :: ·) := by
  unfold unpL
  rw [unpS, if_neg h]
theorem unp_code {plus : Bool} {a b : UInt8} {r : List UInt8} (ha : isDig a = true) (hb : isDig b = true) : unpL plus (37 :: a :: b :: r) = (unpL plus r).map (two a b :: ·) := by
  unfold unpL
  rw [unpS, if_pos rfl, if_pos (by simp [ha, hb])]
  rfl
theorem unp_bad {plus : Bool} {a b : UInt8} {r : List UInt8} (h : isDig a = false ∨ isDig b = false) : unpL plus (37 :: a :: b :: r) = none := by
  unfold unpL
  rw [unpS, if_pos rfl, if_neg]
  rcases h with h | h <;> simp [h]
theorem unp_short {plus : Bool} {r : List UInt8} (h : r.length < 2) : unpL plus (37 :: r) = none := by
  unfold unpL
  rw [unpS, if_pos rfl, if_neg (by omega)]
theorem map_snoc {o : Option (List UInt8)} {acc : List UInt8} {c : UInt8} : (o.map (c :: ·)).map (acc ++ ·) = o.map ((acc ++ [c]) ++ ·) := by
  cases o <;> simp

/-- What Unpercent answers. -/
def UnpSaid (plus : Bool) (s : ByteArray) (e : Ending) : Prop := (unpL plus s.data.toList = none ∧ e = .returned (.tuple #[.string ⟨#[]⟩, .bool false])) ∨ ∃ t : List UInt8, unpL plus s.data.toList = some t ∧ e = .returned (.tuple #[.string ⟨t.toArray⟩, .bool true])

set_option maxHeartbeats 4000000 in
theorem sUnpercent_any (s : ByteArray) (plus : Bool) (w : World) (hs : s.size ≤ 100000) :
    Calls Tryd.prog 11 #[.string s, .bool plus] w fun e w' => UnpSaid plus s e ∧ Below w.heap.size w w' := by
  obtain ⟨i0, hi0, hz0, hz1, hz2⟩ := info5
  go_enter Tryd.func11, Tryd.ntmps11
  go_wp2_with fail
  go_loopw [6, 7] (fun v t wr => ∃ (i : Nat) (acc : List UInt8), t = .int .i64 (i : Int) ∧ i ≤ s.size ∧ wr.ownsRow w.heap.size 5 1 v acc.length (Lib.byteCells acc) ∧ Below w.heap.size w wr ∧ acc.length ≤ i ∧ Hid ((unpL plus (s.data.toList.drop i)).map (acc ++ ·) = unpL plus s.data.toList)) (fun _ t _ => s.size - (intOf t).toNat)
  case atStart =>
    refine ⟨0, [], rfl, Nat.zero_le _, World.ownsRow_nil _ _ _ _, Below.refl _ _, Nat.le_refl _, ?_⟩
    unfold Hid
    rw [List.drop_zero]
    cases unpL plus s.data.toList <;> rfl
  case round =>
    obtain ⟨i, acc, rfl, hi, hown, hb, hal, hacc⟩ := hrel
    have hbz := hb.size
    by_cases hlt : i < s.size
    · obtain ⟨c, hc, hdr, hcc⟩ := byte_at8 s i hlt
      by_cases h37 : c = 37
      · have e37 : ((c.toNat : Int) == 37) = true := by rw [h37]; rfl
        rw [hdr, h37] at hacc
        by_cases hsh : s.size ≤ i + 2
        · have hN : Hid (unpL plus s.data.toList = none) := by
            have := hacc.out
            rw [unp_short (by rw [List.length_drop, len_eq]; omega)] at this
            exact this.symm
          clear hacc hc hdr hown
          go_wp2_with fail
          go_ret2
          exact ⟨.inl ⟨hN.out, rfl⟩, hb⟩
        · have hl1 : i + 1 < s.size := by omega
          have hl2 : i + 2 < s.size := by omega
          obtain ⟨a, ha, hdra, hca⟩ := byte_at8 s (i + 1) hl1
          obtain ⟨b, hb', hdrb, hcb⟩ := byte_at8 s (i + 1 + 1) (by omega)
          rw [hdra, hdrb] at hacc
          have hE : (s.extract (i + 1) (i + 3)).data.toList = [a, b] := by
            rw [Lib.extract_data, show i + 3 - (i + 1) = 2 by omega, hdra, hdrb]
            rfl
          have hU := sUnhex_any (s.extract (i + 1) (i + 3)) wr (by rw [ByteArray.size_extract]; omega)
          rw [hE] at hU
          have q1 : IntKind.i64.wrap ((i : Int) + 1) = (i : Int) + 1 := IntWalk.i64_in _ (by omega)
          have q3 : IntKind.i64.wrap ((i : Int) + 3) = (i : Int) + 3 := IntWalk.i64_in _ (by omega)
          by_cases hd : isDig a = true ∧ isDig b = true
          · have hE0 : unhexE [a, b] = 0 := by unfold unhexE; rw [if_pos (by simp [hd.1, hd.2]), if_pos (by simp)]
            have hB0 : unhexB [a, b] = [two a b] := by unfold unhexB; rw [if_pos hE0]; rfl
            rw [hE0, hB0] at hU
            rw [unp_code hd.1 hd.2] at hacc
            obtain ⟨z, hz⟩ : ∃ z, two a b = z := ⟨_, rfl⟩
            rw [hz] at hU hacc
            obtain ⟨l2, hl2', hn2⟩ := snoc_ex acc z
            have hW : Hid ((unpL plus (s.data.toList.drop (i + 2 + 1))).map (l2 ++ ·) = unpL plus s.data.toList) := by
              have := hacc.out
              rw [map_snoc, hl2'.out] at this
              exact this
            clear hacc hc hdr ha hdra hca hb' hdrb hcb hE hE0 hB0 hz hd
            go_wp2_with fail
            refine hU.mono ?_
            rintro e w1 ⟨v1, rfl, hIB, hb1⟩
            obtain ⟨a1, cap1, rfl, _, _, h0 | ⟨x1, rfl, h0 | ⟨g, o, rfl, hg, hF⟩⟩⟩ := hIB
            · exact absurd h0.2.1 (show ¬ (1 : Nat) = 0 by omega)
            · exact absurd h0 (show ¬ (1 : Nat) = 0 by omega)
            · have hcell : w1.cell? ⟨g, o, none⟩ = some (.int .u8 (z.toNat : Int)) := by
                have := hF 0 (show 0 + 0 < 1 by omega)
                rw [Nat.add_zero, Nat.add_zero] at this
                rw [this]
                rfl
              have hown1 := ownsRow_later hown hb1
              have hbz1 := hb1.size
              have hb1' := hb.trans (hb1.mono hbz)
              have hsz1 : (⟨[z].toArray⟩ : ByteArray).size = 1 := rfl
              rw [hsz1]
              clear hF hown hU
              go_wp2_with (at_builtin; refine wpList_append_one rfl _ _ rfl w.heap.size _ _ rfl hown1 _ rfl z rfl l2 hl2' (by omega) (by omega) hb1' ?_)
              intro v2 w2 hown2 hb2
              clear hown1
              go_wp2_with fail
              go_roundw
              case rel => exact ⟨i + 2 + 1, l2, by go_num, by omega, hown2, hb2, by omega, hW⟩
              case measure => simp [intOf]; omega
          · have hE13 : unhexE [a, b] = 13 := by
              unfold unhexE
              rw [if_neg]
              intro h
              simp only [List.all_cons, List.all_nil, Bool.and_true, Bool.and_eq_true] at h
              exact hd h
            have hB13 : unhexB [a, b] = [] := by unfold unhexB; rw [hE13]; rfl
            rw [hE13, hB13] at hU
            have hN : Hid (unpL plus s.data.toList = none) := by
              have := hacc.out
              rw [unp_bad (by cases h1 : isDig a <;> cases h2 : isDig b <;> simp_all)] at this
              exact this.symm
            clear hacc hc hdr ha hdra hca hb' hdrb hcb hE hE13 hB13 hd hown
            go_wp2_with fail
            refine hU.mono ?_
            rintro e w1 ⟨v1, rfl, _, hb1⟩
            clear hU
            go_wp2_with fail
            go_ret2
            exact ⟨.inl ⟨hN.out, rfl⟩, hb.trans (hb1.mono hbz)⟩
      · have e37 : ((c.toNat : Int) == 37) = false := beq_eq_false_iff_ne.2 (fun e => h37 (UInt8.toNat_inj.1 (by show c.toNat = 37; omega)))
        obtain ⟨z, hz⟩ : ∃ z, sub8 plus c = z := ⟨_, rfl⟩
        rw [hdr, unp_plain h37, hz] at hacc
        obtain ⟨l2, hl2', hn2⟩ := snoc_ex acc z
        have hW : Hid ((unpL plus (s.data.toList.drop (i + 1))).map (l2 ++ ·) = unpL plus s.data.toList) := by
          have := hacc.out
          rw [map_snoc, hl2'.out] at this
          exact this
        clear hacc hdr
        by_cases h43 : c = 43
        · have e43 : ((c.toNat : Int) == 43) = true := by rw [h43]; rfl
          cases plus with
          | true =>
            have hzv : z = 32 := by rw [← hz, h43]; rfl
            subst hzv
            clear hz h43 hc h37
            go_wp2_with (at_builtin; refine wpList_append_one rfl _ _ rfl w.heap.size _ _ rfl hown _ rfl 32 rfl l2 hl2' (by omega) hbz hb ?_)
            intro v2 w2 hown2 hb2
            clear hown
            go_wp2_with fail
            go_roundw
            case rel => exact ⟨i + 1, l2, by go_num, by omega, hown2, hb2, by omega, hW⟩
            case measure => simp [intOf]; omega
          | false =>
            have hzv : z = c := by rw [← hz]; unfold sub8; rw [if_neg (by simp)]
            subst hzv
            clear hz h43 hc h37
            go_wp2_with (at_builtin; refine wpList_append_one rfl _ _ rfl w.heap.size _ _ rfl hown _ rfl z rfl l2 hl2' (by omega) hbz hb ?_)
            intro v2 w2 hown2 hb2
            clear hown
            go_wp2_with fail
            go_roundw
            case rel => exact ⟨i + 1, l2, by go_num, by omega, hown2, hb2, by omega, hW⟩
            case measure => simp [intOf]; omega
        · have e43 : ((c.toNat : Int) == 43) = false := beq_eq_false_iff_ne.2 (fun e => h43 (UInt8.toNat_inj.1 (by show c.toNat = 43; omega)))
          have hzv : z = c := by rw [← hz]; unfold sub8; rw [if_neg (fun h => h43 h.1)]
          subst hzv
          clear hz h43 hc h37
          go_wp2_with (at_builtin; refine wpList_append_one rfl _ _ rfl w.heap.size _ _ rfl hown _ rfl z rfl l2 hl2' (by omega) hbz hb ?_)
          intro v2 w2 hown2 hb2
          clear hown
          go_wp2_with fail
          go_roundw
          case rel => exact ⟨i + 1, l2, by go_num, by omega, hown2, hb2, by omega, hW⟩
          case measure => simp [intOf]; omega
    · have hW : Hid (unpL plus s.data.toList = some acc) := by
        have := hacc.out
        rw [List.drop_of_length_le (by rw [len_eq]; omega), unp_nil] at this
        rw [Option.map_some, List.append_nil] at this
        exact this.symm
      have hcv := own_convert hown
      clear hown hacc
      go_wp2
      go_ret2
      exact ⟨.inr ⟨acc, hW.out, rfl⟩, hb⟩
end Go.Proofs.YtnkefpopkaagaaaDoor
