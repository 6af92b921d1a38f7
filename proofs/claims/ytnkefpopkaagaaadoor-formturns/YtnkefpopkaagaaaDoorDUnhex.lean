/-
  The document's digit and Unhex (layer 2's), where the rest of its package is not there.
-/
import Derived.Test.YtnkefpopkaagaaaDoorGen2
import Derived.Test.YtnkefpopkaagaaaDoorBPlain
namespace Go.Proofs.YtnkefpopkaagaaaDoor
open Go.RowKit Ch
set_option maxRecDepth 100000

theorem ret_int {k : IntKind} {a b : Int} (h : a = b) : Ending.returned (.int k a) = .returned (.int k b) := by rw [h]

set_option maxHeartbeats 400000 in
theorem sDigit_any (c : Nat) (w : World) (hc : c < 256) :
    Calls Tryd.prog 48 #[.int .u8 (c : Int)] w fun e w' => e = .returned (.int .i64 (digitZ c)) ∧ w' = w := by
  have fin : ∀ {z : Int}, Hid (z = digitZ c) → Ending.returned (.int .i64 z) = .returned (.int .i64 (digitZ c)) := fun h => ret_int h.out
  by_cases h1 : 48 ≤ c
  · by_cases h2 : c ≤ 57
    · have hq : Hid ((c : Int) - 48 = digitZ c) := by unfold Hid digitZ; rw [if_pos ⟨h1, h2⟩]
      go_enter Tryd.func48, Tryd.ntmps48
      go_wp2
      go_ret
      exact ⟨fin hq, rfl⟩
    · by_cases h3 : 97 ≤ c
      · by_cases h4 : c ≤ 102
        · have hq : Hid ((c : Int) - 87 = digitZ c) := by unfold Hid digitZ; rw [if_neg (by omega), if_pos ⟨h3, h4⟩]
          go_enter Tryd.func48, Tryd.ntmps48
          go_wp2
          go_ret
          exact ⟨fin hq, rfl⟩
        · have hq : Hid (-1 = digitZ c) := by unfold Hid digitZ; rw [if_neg (by omega), if_neg (by omega), if_neg (by omega)]
          go_enter Tryd.func48, Tryd.ntmps48
          go_wp2
          go_ret
          exact ⟨fin hq, rfl⟩
      · by_cases h5 : 65 ≤ c
        · by_cases h6 : c ≤ 70
          · have hq : Hid ((c : Int) - 55 = digitZ c) := by unfold Hid digitZ; rw [if_neg (by omega), if_neg (by omega), if_pos ⟨h5, h6⟩]
            go_enter Tryd.func48, Tryd.ntmps48
            go_wp2
            go_ret
            exact ⟨fin hq, rfl⟩
          · have hq : Hid (-1 = digitZ c) := by unfold Hid digitZ; rw [if_neg (by omega), if_neg (by omega), if_neg (by omega)]
            go_enter Tryd.func48, Tryd.ntmps48
            go_wp2
            go_ret
            exact ⟨fin hq, rfl⟩
        · have hq : Hid (-1 = digitZ c) := by unfold Hid digitZ; rw [if_neg (by omega), if_neg (by omega), if_neg (by omega)]
          go_enter Tryd.func48, Tryd.ntmps48
          go_wp2
          go_ret
          exact ⟨fin hq, rfl⟩
  · have hq : Hid (-1 = digitZ c) := by unfold Hid digitZ; rw [if_neg (by omega), if_neg (by omega), if_neg (by omega)]
    go_enter Tryd.func48, Tryd.ntmps48
    go_wp2
    go_ret
    exact ⟨fin hq, rfl⟩

theorem ret_pair {v : Value} {a b : Int} (h : a = b) : Ending.returned (.tuple #[v, .int .i64 a]) = .returned (.tuple #[v, .int .i64 b]) := by rw [h]
theorem sDigit_u8 (c : UInt8) (w : World) : Calls Tryd.prog 48 #[.int .u8 (c.toNat : Int)] w fun e w' => e = .returned (.int .i64 (digitZ c.toNat)) ∧ w' = w := sDigit_any c.toNat w (by have := c.toNat_lt; omega)

/-- The value of two digits. -/
def two (a b : UInt8) : UInt8 := UInt8.ofNat (16 * (digitZ a.toNat).toNat + (digitZ b.toNat).toNat)
def pairsL : List UInt8 → List UInt8
  | a :: b :: r => two a b :: pairsL r
  | _ => []
def isDig (c : UInt8) : Bool := decide (0 ≤ digitZ c.toNat)
/-- The document's error of a text of digits, and its bytes. -/
def unhexE (l : List UInt8) : Int := if l.all isDig = true then (if l.length % 2 = 0 then 0 else 10) else 13
def unhexB (l : List UInt8) : List UInt8 := if unhexE l = 0 then pairsL l else []
theorem digitZ_lt (c : Nat) : digitZ c < 16 := by unfold digitZ; repeat' split
                                                  all_goals omega
theorem all_drop {l : List UInt8} {p : UInt8 → Bool} (i : Nat) (h : l.all p = true) : (l.drop i).all p = true := by
  rw [List.all_eq_true] at h ⊢
  exact fun x hx => h x (List.mem_of_mem_drop hx)

theorem bytes_nil (w : World) : IsBytes w (.slice none 0 0) ⟨([] : List UInt8).toArray⟩ := ⟨none, 0, rfl, Nat.le_refl _, by unfold maxLen; omega, .inl ⟨rfl, rfl, rfl⟩⟩

theorem list_bytes {w : World} {base : Nat} {v : Value} {l : List UInt8} (h : w.ownsRow base 5 1 v l.length (Lib.byteCells l)) : IsBytes w v ⟨l.toArray⟩ := by
  refine own_bytes (base := base) ?_
  have e : (⟨l.toArray⟩ : ByteArray).size = l.length := size_of_list l
  rw [e]
  exact h

set_option maxHeartbeats 1000000 in
theorem sUnhex_any (s : ByteArray) (w : World) (hs : s.size ≤ 400000) :
    Calls Tryd.prog 32 #[.string s] w fun e w' => ∃ v, e = .returned (.tuple #[v, .int .i64 (unhexE s.data.toList)]) ∧ IsBytes w' v ⟨(unhexB s.data.toList).toArray⟩ ∧ Below w.heap.size w w' := by
  obtain ⟨i0, hi, hz0, hz1, hz2⟩ := info5
  go_enter Tryd.func32, Tryd.ntmps32
  go_wp2
  go_loop [4] (fun t => ∃ i : Nat, i ≤ s.size ∧ t = .int .i64 (i : Int) ∧ Hid (s.data.toList.all isDig = (s.data.toList.drop i).all isDig)) (fun t => s.size - (intOf t).toNat)
  case atStart => exact ⟨0, Nat.zero_le _, rfl, rfl⟩
  case round =>
    obtain ⟨i, hi0, rfl, hall⟩ := hrel
    by_cases hlt : i < s.size
    · obtain ⟨c, hc, hdr, hcc⟩ := byte_at8 s i hlt
      have hD := sDigit_any c.toNat w (by have := c.toNat_lt; omega)
      have hcv : ((s[i]'hlt).toNat : Int) = (c.toNat : Int) := hcc
      rw [← hcv] at hD
      obtain ⟨z, hz⟩ : ∃ z, digitZ c.toNat = z := ⟨_, rfl⟩
      rw [hz] at hD
      by_cases hz0 : z < 0
      · have hE : Hid (unhexE s.data.toList = 13) := by
          unfold Hid unhexE
          rw [if_neg]
          rw [hall.out, hdr, List.all_cons]
          have : isDig c = false := decide_eq_false (by omega)
          rw [this]
          simp
        have hb : Hid (unhexB s.data.toList = []) := by unfold Hid unhexB; rw [hE.out]; rfl
        clear hall hc hdr hcc hcv hz
        go_wp2_with fail
        refine hD.mono ?_
        rintro e w1 ⟨rfl, hw1⟩
        rw [hw1]
        clear hw1 w1
        go_wp2_with fail
        go_ret2
        refine ⟨_, ret_pair hE.out.symm, ?_, Below.refl _ _⟩
        rw [hb.out]
        exact bytes_nil w
      · have h2 : Hid (s.data.toList.all isDig = (s.data.toList.drop (i + 1)).all isDig) := by
          unfold Hid
          rw [hall.out, hdr, List.all_cons]
          have : isDig c = true := decide_eq_true (by omega)
          rw [this, Bool.true_and]
        clear hall hc hdr hcc hcv hz
        go_wp2_with fail
        refine hD.mono ?_
        rintro e w1 ⟨rfl, hw1⟩
        rw [hw1]
        clear hw1 w1
        go_wp2_with fail
        go_round
        case rel => exact ⟨i + 1, by omega, by go_num, h2⟩
        case measure => simp [intOf]; omega
    · have hA : Hid (s.data.toList.all isDig = true) := by
        unfold Hid
        rw [hall.out, List.drop_of_length_le (by rw [len_eq]; omega)]
        rfl
      clear hall
      by_cases hodd : s.size % 2 = 0
      · have e2 : ((s.size : Int) % 2 != 0) = false := by simp; omega
        have hE : Hid (unhexE s.data.toList = 0) := by
          unfold Hid unhexE
          rw [if_pos hA.out, len_eq, if_pos hodd]
        have hB : Hid (unhexB s.data.toList = pairsL s.data.toList) := by unfold Hid unhexB; rw [if_pos hE.out]
        go_wp2_with fail
        go_loopw [5, 6] (fun v t wr => ∃ (k : Nat) (acc : List UInt8), Hid (k % 2 = 0) ∧ k ≤ s.size ∧ t = .int .i64 k ∧ wr.ownsRow w.heap.size 5 1 v acc.length (Lib.byteCells acc) ∧ Below w.heap.size w wr ∧ Hid (acc ++ pairsL (s.data.toList.drop k) = pairsL s.data.toList) ∧ acc.length ≤ k) (fun _ t _ => s.size - (intOf t).toNat)
        case atStart => exact ⟨0, [], rfl, Nat.zero_le _, rfl, World.ownsRow_nil _ _ _ _, Below.refl _ _, rfl, by simp⟩
        case round =>
          obtain ⟨k, acc, hk2, hk0, rfl, hown, hb, hacc, hal⟩ := hrel
          have hbz := hb.size
          by_cases hltk : k < s.size
          · have h1 : k + 1 < s.size := by have := hk2.out; omega
            obtain ⟨c1, hc1, hdr1, hcc1⟩ := byte_at8 s k hltk
            obtain ⟨c2, hc2, hdr2, hcc2⟩ := byte_at8 s (k + 1) h1
            have hdig := all_drop k hA.out
            rw [hdr1, hdr2] at hdig
            simp only [List.all_cons, Bool.and_eq_true] at hdig
            obtain ⟨y1, hy1⟩ : ∃ y1 : Nat, digitZ c1.toNat = y1 := ⟨(digitZ c1.toNat).toNat, by have := of_decide_eq_true hdig.1; omega⟩
            obtain ⟨y2, hy2⟩ : ∃ y2 : Nat, digitZ c2.toNat = y2 := ⟨(digitZ c2.toNat).toNat, by have := of_decide_eq_true hdig.2.1; omega⟩
            have hl1 := digitZ_lt c1.toNat
            have hl2 := digitZ_lt c2.toNat
            have hz1' : digitZ (s[k]'hltk).toNat = (y1 : Int) := by rw [← hy1]; congr 1; omega
            have hz2' : digitZ (s[k + 1]'h1).toNat = (y2 : Int) := by rw [← hy2]; congr 1; omega
            rw [hy1] at hl1
            rw [hy2] at hl2
            obtain ⟨c, hc⟩ : ∃ c, two c1 c2 = c := ⟨_, rfl⟩
            have hcv : Hid (16 * (y1 : Int) + (y2 : Int) = (c.toNat : Int)) := by
              unfold Hid
              rw [← hc]
              unfold two
              rw [hy1, hy2, UInt8.toNat_ofNat']
              omega
            obtain ⟨l2, hl2', hn2⟩ := snoc_ex acc c
            have hW : Hid (l2 ++ pairsL (s.data.toList.drop (k + 2)) = pairsL s.data.toList) := by
              have := hacc.out
              rw [hdr1, hdr2, pairsL, hc] at this
              unfold Hid
              rw [← this, ← hl2'.out]
              simp
            have wk : IntKind.i64.wrap ((k : Int) + 1) = (k : Int) + 1 := by rw [IntKind.wrap_i64]; omega
            have gk1 : (0 : Int) ≤ (k : Int) + 1 := by omega
            have gk2 : (k : Int) + 1 < (s.size : Int) := by omega
            have gk3 : ((k : Int) + 1).toNat = k + 1 := by omega
            have w16 : IntKind.i64.wrap (16 * (y1 : Int)) = 16 * (y1 : Int) := by rw [IntKind.wrap_i64]; omega
            have wsum : IntKind.i64.wrap (16 * (y1 : Int) + (y2 : Int)) = 16 * (y1 : Int) + (y2 : Int) := by rw [IntKind.wrap_i64]; omega
            have w8 : IntKind.u8.wrap (16 * (y1 : Int) + (y2 : Int)) = 16 * (y1 : Int) + (y2 : Int) := by simp [IntKind.wrap, IntKind.bits, IntKind.signed]; omega
            have hown1 : wr.drew.ownsRow w.heap.size 5 1 u5 acc.length (Lib.byteCells acc) := hown
            clear hacc hdig hc1 hdr1 hcc1 hc2 hdr2 hcc2 hy1 hy2 hc
            go_wp2_with fail
            go_region_law (first
              | (refine step_append_lies _ rfl (.tmp 28) (.tmp 41) 49 rfl w.heap.size 5 i0 (.int .u8 0) 1 1 Tryd.underlying49 hi hz0 hz1 hz2 rfl (by decide) u5 acc.length (Lib.byteCells acc) (by simp [Act.eval]) (hown1.alloc _) ⟨wr.drew.heap.size, 0, none⟩ 1 1 [.int .u8 (16 * (y1 : Int) + (y2 : Int))] (by simp [Act.eval]) rfl (cell_one_new _ _ _) (by intro u hu; simp at hu; subst hu; rfl) (by decide) (by unfold maxLen; omega) (by omega) (by simp; omega) _ rfl ?_
                 intro g cap w2 hown2 hgrow _ _
                 have hb2 : Below w.heap.size w w2 := below_grown hb.drew hbz hown1 hgrow
                 rw [hcv.out] at hown2
                 have hown3 := own_snoc (c := c) hown2
                 rw [hl2'.out] at hown3
                 have HO : Hid (w2.ownsRow w.heap.size 5 1 (.slice (some ⟨g, 0, none⟩) (acc.length + 1) cap) l2.length (Lib.byteCells l2)) := hown3
                 clear hown2 hgrow hown3)
              | (go_simp
                 go_wp2_with (go_at_call 48; refine (sDigit_u8 _ _).mono ?_)
                 rintro e w1 ⟨rfl, hw1⟩
                 rw [hw1]
                 clear hw1 w1))
            all_goals
              go_wp2
              go_roundw
              case rel => exact ⟨k + 2, l2, by unfold Hid; have := hk2.out; omega, by omega, by go_num, HO.out, hb2, hW, by omega⟩
              case measure => simp [intOf]; omega
          · have hW : Hid (acc = unhexB s.data.toList) := by
              have := hacc.out
              rw [List.drop_of_length_le (by rw [len_eq]; omega)] at this
              have e0 : pairsL [] = [] := rfl
              rw [e0, List.append_nil] at this
              unfold Hid
              rw [hB.out]
              exact this
            have HO : Hid (wr.ownsRow w.heap.size 5 1 u5 acc.length (Lib.byteCells acc)) := hown
            clear hown hacc
            go_wp2
            go_ret2
            refine ⟨_, ret_pair hE.out.symm, ?_, hb⟩
            rw [← hW.out]
            exact list_bytes HO.out
      · have hE : Hid (unhexE s.data.toList = 10) := by
          unfold Hid unhexE
          rw [if_pos hA.out, len_eq, if_neg hodd]
        have hb : Hid (unhexB s.data.toList = []) := by unfold Hid unhexB; rw [hE.out]; rfl
        have e2 : ((s.size : Int) % 2 != 0) = true := by simp; omega
        go_wp2_with fail
        go_ret2
        refine ⟨_, ret_pair hE.out.symm, ?_, Below.refl _ _⟩
        rw [hb.out]
        exact bytes_nil w
end Go.Proofs.YtnkefpopkaagaaaDoor
