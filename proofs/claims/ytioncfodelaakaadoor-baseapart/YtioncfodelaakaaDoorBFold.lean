/-
  The document's Fold, for every text and every number; its Hex, for every list of bytes.
-/
import Derived.Test.YtioncfodelaakaaDoorBBit
namespace Go.Proofs.YtioncfodelaakaaDoor
open Go.RowKit Ch

theorem foldFrom_both {n : Int} {i : Nat} {c : UInt8} {r : List UInt8} (h1 : 0 < n) (h2 : 0 < i) (h3 : (i : Int) % n = 0) : foldFrom n i (c :: r) = [10, c] ++ foldFrom n (i + 1) r := by rw [foldFrom, if_pos ⟨h1, h2, h3⟩]; rfl
theorem foldFrom_one {n : Int} {i : Nat} {c : UInt8} {r : List UInt8} (h : ¬ (0 < n ∧ 0 < i ∧ (i : Int) % n = 0)) : foldFrom n i (c :: r) = [c] ++ foldFrom n (i + 1) r := by rw [foldFrom, if_neg h]; rfl

set_option maxHeartbeats 2000000 in
theorem sFold_any (s : ByteArray) (n : Int) (w : World) (hs : s.size ≤ 400000) (hn0 : -9223372036854775808 ≤ n) (hn1 : n ≤ 9223372036854775807) :
    Calls Tryd.prog 14 #[.string s, .int .i64 n] w fun e w' => e = .returned (.string ⟨(foldL n s.data.toList).toArray⟩) ∧ Below w.heap.size w w' := by
  go_enter Tryd.func14, Tryd.ntmps14
  go_wp2
  go_loopw [5, 6] (fun v t wr => ∃ (i : Nat) (acc : List UInt8), i ≤ s.size ∧ t = .int .i64 i ∧ wr.ownsRow w.heap.size 5 1 v acc.length (Lib.byteCells acc) ∧ Below w.heap.size w wr ∧ Hid (acc ++ foldFrom n i (s.data.toList.drop i) = foldL n s.data.toList) ∧ acc.length ≤ 2 * i) (fun _ t _ => s.size - (intOf t).toNat)
  case atStart => exact ⟨0, [], Nat.zero_le _, rfl, World.ownsRow_nil _ _ _ _, Below.refl _ _, rfl, by simp⟩
  case round =>
    obtain ⟨i, acc, hi0, rfl, hown, hb, hacc, hal⟩ := hrel
    have hbz := hb.size
    by_cases hlt : i < s.size
    · obtain ⟨c, hc, hdr, hcc⟩ := byte_at8 s i hlt
      have hcv : Hid ((((s[i]'hlt).toNat : Nat) : Int) = (c.toNat : Int)) := hcc
      have one : ¬ (0 < n ∧ 0 < i ∧ (i : Int) % n = 0) → ∃ l2, Hid (acc ++ [c] = l2) ∧ l2.length ≤ acc.length + 1 ∧ Hid (l2 ++ foldFrom n (i + 1) (s.data.toList.drop (i + 1)) = foldL n s.data.toList) := fun h => by
        have := hacc.out
        rw [hdr, foldFrom_one h, ← List.append_assoc] at this
        exact ⟨_, rfl, by simp, this⟩
      by_cases h1 : 0 < n
      · by_cases h2 : 0 < i
        · by_cases h3 : (i : Int) % n = 0
          · have e3 : ((i : Int) % n == 0) = true := beq_iff_eq.2 h3
            obtain ⟨l1, hl1, hn1'⟩ := snoc_ex acc 10
            obtain ⟨l2, hl2, hn2'⟩ := snoc_ex l1 c
            have hW : Hid (l2 ++ foldFrom n (i + 1) (s.data.toList.drop (i + 1)) = foldL n s.data.toList) := by
              have := hacc.out
              rw [hdr, foldFrom_both h1 h2 h3] at this
              unfold Hid
              rw [← this, ← hl2.out, ← hl1.out]
              simp
            have t3 : (i : Int).tmod n = (i : Int) % n := Int.tmod_eq_emod_of_nonneg (by omega)
            have z3 : (n == 0) = false := beq_eq_false_iff_ne.2 (by omega)
            clear hacc one hc hdr hcc h3
            go_wp2_with (at_builtin; refine wpList_append_one rfl _ _ rfl w.heap.size _ acc rfl hown _ rfl 10 rfl l1 hl1 (by omega) hbz hb ?_)
            intro v1 w1 hown1 hb1
            have hbz1 := hb1.size
            clear hown
            go_wp2_with (at_builtin; refine wpList_append_one rfl _ _ rfl w.heap.size _ l1 rfl hown1 _ rfl c hcv l2 hl2 (by omega) hbz1 hb1 ?_)
            intro v2 w2 hown2 hb2
            clear hown1
            go_wp2_with fail
            go_roundw
            case rel => exact ⟨i + 1, l2, by omega, by go_num, hown2, hb2, hW, by omega⟩
            case measure => simp [intOf]; omega
          · have e3 : ((i : Int) % n == 0) = false := beq_eq_false_iff_ne.2 h3
            obtain ⟨l2, hl2, hn2', hW⟩ := one (fun h => h3 h.2.2)
            have t3 : (i : Int).tmod n = (i : Int) % n := Int.tmod_eq_emod_of_nonneg (by omega)
            have z3 : (n == 0) = false := beq_eq_false_iff_ne.2 (by omega)
            clear hacc one hc hdr hcc h3
            go_wp2_with (at_builtin; refine wpList_append_one rfl _ _ rfl w.heap.size _ acc rfl hown _ rfl c hcv l2 hl2 (by omega) hbz hb ?_)
            intro v2 w2 hown2 hb2
            clear hown
            go_wp2_with fail
            go_roundw
            case rel => exact ⟨i + 1, l2, by omega, by go_num, hown2, hb2, hW, by omega⟩
            case measure => simp [intOf]; omega
        · obtain ⟨l2, hl2, hn2', hW⟩ := one (fun h => h2 h.2.1)
          obtain rfl : i = 0 := by omega
          clear hacc one hc hdr hcc
          go_wp2_with (at_builtin; refine wpList_append_one rfl _ _ rfl w.heap.size _ acc rfl hown _ rfl c hcv l2 hl2 (by omega) hbz hb ?_)
          intro v2 w2 hown2 hb2
          clear hown
          go_wp2_with fail
          go_roundw
          case rel => exact ⟨0 + 1, l2, by omega, by go_num, hown2, hb2, hW, by omega⟩
          case measure => simp [intOf]; omega
      · obtain ⟨l2, hl2, hn2', hW⟩ := one (fun h => h1 h.1)
        clear hacc one hc hdr hcc
        go_wp2_with (at_builtin; refine wpList_append_one rfl _ _ rfl w.heap.size _ acc rfl hown _ rfl c hcv l2 hl2 (by omega) hbz hb ?_)
        intro v2 w2 hown2 hb2
        clear hown
        go_wp2_with fail
        go_roundw
        case rel => exact ⟨i + 1, l2, by omega, by go_num, hown2, hb2, hW, by omega⟩
        case measure => simp [intOf]; omega
    · have hW : Hid (acc = foldL n s.data.toList) := by
        have := hacc.out
        rw [List.drop_of_length_le (by rw [len_eq]; omega), foldFrom, List.append_nil] at this
        exact this
      have hcv := own_convert hown
      clear hown hacc
      go_wp2
      go_ret
      rw [hW.out]
      exact ⟨rfl, hb⟩
end Go.Proofs.YtioncfodelaakaaDoor
