/-
  The program's Get.
-/
import Derived.Test.YtnkefpopkaagaaaDoorEGet
import Derived.Test.YtnkefpopkaagaaaDoorDBox
namespace Go.Proofs.YtnkefpopkaagaaaDoor
open Go.RowKit Ch
set_option maxRecDepth 100000

theorem getN_snoc (name : ByteArray) (p : ByteArray × ByteArray) : ∀ l, getN name (l ++ [p]) = getN name l + (if p.1.data.toList = name.data.toList then 1 else 0)
  | [] => by simp only [List.nil_append, getN]; split <;> rfl
  | q :: r => by
    rw [List.cons_append, getN, getN, getN_snoc name p r]
    split <;> omega
theorem getV_snoc (name : ByteArray) (p : ByteArray × ByteArray) : ∀ l, getV name (l ++ [p]) = (if getN name l = 0 then (if p.1.data.toList = name.data.toList then p.2 else ⟨#[]⟩) else getV name l)
  | [] => by simp only [List.nil_append, getV, getN, if_true]
  | q :: r => by
    rw [List.cons_append, getV, getV, getN, getV_snoc name p r]
    split
    · rw [if_neg (by omega)]
    · rfl
theorem getV_none (name : ByteArray) : ∀ l, getN name l = 0 → getV name l = ⟨#[]⟩
  | [], _ => rfl
  | q :: r, h => by
    rw [getN] at h
    rw [getV]
    split at h
    · omega
    · rw [if_neg ‹_›]; exact getV_none name r h
theorem sClone_any (s : ByteArray) (w : World) (hs : s.size ≤ 1000000) :
    Calls Tryd.prog 36 #[.string s] w fun e w' => e = .returned (.string s) ∧ Below w.heap.size w w' := by
  go_enter Tryd.func36, Tryd.ntmps36
  go_wp2_with (go_at_call 50; refine (Tryd.stringslite_Clone _ _ (by omega)).mono ?_)
  rintro e w' ⟨rfl, hb⟩
  go_wp2
  go_ret
  exact ⟨rfl, hb⟩

set_option maxHeartbeats 2000000 in
theorem fGet_some (b o cap : Nat) (l : List (ByteArray × ByteArray)) (name : ByteArray) (w : World) (hl : l.length ≤ 1000000) (hsz : ∀ p ∈ l, p.2.size ≤ 1000000) (hbl : b < w.heap.size)
    (hf : ∀ i p, l[i]? = some p → w.cell? ⟨b, o + i * 2, none⟩ = some (.string p.1) ∧ w.cell? ⟨b, o + i * 2 + 1, none⟩ = some (.string p.2)) :
    Calls Tryd.prog 15 #[.slice (some ⟨b, o, none⟩) l.length cap, .string name] w fun e w' => e = .returned (.tuple #[.string (getV name l), .int .i64 (getN name l : Int)]) ∧ Below w.heap.size w w' := by
  have HF : Hid (∀ i p, l[i]? = some p → w.cell? ⟨b, o + i * 2, none⟩ = some (.string p.1) ∧ w.cell? ⟨b, o + i * 2 + 1, none⟩ = some (.string p.2)) := hf
  clear hf
  go_enter Tryd.func15, Tryd.ntmps15
  go_wp2_with fail
  go_loopw [6, 7, 12] (fun v n t wr => ∃ k : Nat, k ≤ l.length ∧ t = .int .i64 (k : Int) ∧ n = .int .i64 (getN name (l.take k) : Int) ∧ v = .string (getV name (l.take k)) ∧ Below w.heap.size w wr) (fun _ _ t _ => l.length - (intOf t).toNat)
  case atStart => exact ⟨0, Nat.zero_le _, rfl, rfl, rfl, Below.refl _ _⟩
  case round =>
    obtain ⟨k, hk, rfl, rfl, rfl, hb⟩ := hrel
    have hbz := hb.size
    by_cases hlt : k < l.length
    · obtain ⟨p, hp⟩ : ∃ p, l[k]? = some p := ⟨_, List.getElem?_eq_getElem hlt⟩
      obtain ⟨f1, f2⟩ := HF.out k p hp
      have c1 := (hb.cell (p := ⟨b, o + k * 2, none⟩) hbl).trans f1
      have c2 := (hb.cell (p := ⟨b, o + k * 2 + 1, none⟩) hbl).trans f2
      have hps := hsz p (List.mem_of_getElem? hp)
      have htk : l.take (k + 1) = l.take k ++ [p] := by
        rw [List.take_succ_eq_append_getElem hlt]
        rw [List.getElem?_eq_getElem hlt] at hp
        rw [Option.some.inj hp]
      have hN : Hid (getN name (l.take (k + 1)) = getN name (l.take k) + (if p.1.data.toList = name.data.toList then 1 else 0)) := by unfold Hid; rw [htk, getN_snoc]
      have hV : Hid (getV name (l.take (k + 1)) = (if getN name (l.take k) = 0 then (if p.1.data.toList = name.data.toList then p.2 else ⟨#[]⟩) else getV name (l.take k))) := by unfold Hid; rw [htk, getV_snoc]
      have hle := getN_le name (l.take k)
      rw [List.length_take] at hle
      have hno := getV_none name (l.take k)
      obtain ⟨nn, hnn⟩ : ∃ nn, getN name (l.take k) = nn := ⟨_, rfl⟩
      obtain ⟨vv, hvv⟩ : ∃ vv, getV name (l.take k) = vv := ⟨_, rfl⟩
      rw [hnn] at hle hN hV hno ⊢
      rw [hvv] at hV hno ⊢
      have q1 : (0 : Int) ≤ (k : Int) := by omega
      have q2 : (k : Int) < (l.length : Int) := by omega
      clear hnn hvv htk f1 f2 hp
      by_cases hq : p.1.data.toList = name.data.toList
      · have eq1 : (p.1.toList == name.toList) = true := by rw [Lib.toList_data, Lib.toList_data, hq]; simp
        rw [if_pos hq] at hN hV
        by_cases h0 : nn = 0
        · rw [if_pos h0] at hV
          have e0 : ((nn : Int) == 0) = true := by rw [h0]; rfl
          have hle0 : nn ≤ 0 := by omega
          clear h0 hq hno
          go_wp2_with fail
          refine (sClone_any p.2 _ hps).mono ?_
          rintro e w1 ⟨rfl, hb1⟩
          have hb2 := below_alloc hb1
          go_wp2_with fail
          go_roundw
          case rel => exact ⟨k + 1, by omega, by go_num, by rw [hN.out]; go_num, by rw [hV.out], hb.trans (hb2.mono hbz)⟩
          case measure => simp [intOf]; omega
        · rw [if_neg h0] at hV
          have e0 : ((nn : Int) == 0) = false := beq_eq_false_iff_ne.2 (by omega)
          clear h0 hq hno
          go_wp2_with fail
          go_roundw
          case rel => exact ⟨k + 1, by omega, by go_num, by rw [hN.out]; go_num, by rw [hV.out], hb.alloc hbz _⟩
          case measure => simp [intOf]; omega
      · have eq1 : (p.1.toList == name.toList) = false := by rw [Lib.toList_data, Lib.toList_data]; exact beq_eq_false_iff_ne.2 hq
        rw [if_neg hq] at hN hV
        have hV2 : Hid (getV name (l.take (k + 1)) = vv) := by
          have := hV.out
          unfold Hid
          rw [this]
          by_cases h0 : nn = 0
          · rw [if_pos h0, hno h0]
          · rw [if_neg h0]
        clear hq hno hV
        go_wp2_with fail
        go_roundw
        case rel => exact ⟨k + 1, by omega, by go_num, by rw [hN.out]; go_num, by rw [hV2.out], hb.alloc hbz _⟩
        case measure => simp [intOf]; omega
    · rw [List.take_of_length_le (by omega)]
      go_wp2_with fail
      go_ret2
      exact ⟨rfl, hb⟩
set_option maxHeartbeats 400000 in
theorem fGet_none (a : Option Addr) (cap : Nat) (name : ByteArray) (w : World) :
    Calls Tryd.prog 15 #[.slice a 0 cap, .string name] w fun e w' => e = .returned (.tuple #[.string ⟨#[]⟩, .int .i64 0]) ∧ w' = w := by
  go_enter Tryd.func15, Tryd.ntmps15
  go_wp2
  refine wp_loop_once ?_
  go_wp2
  go_ret2
  exact ⟨rfl, rfl⟩
theorem fGet_any (v : Value) (l : List (ByteArray × ByteArray)) (name : ByteArray) (w : World) (hl : l.length ≤ 1000000) (hsz : ∀ p ∈ l, p.2.size ≤ 1000000) (h : IsPairs w v l) :
    Calls Tryd.prog 15 #[v, .string name] w fun e w' => e = .returned (.tuple #[.string (getV name l), .int .i64 (getN name l : Int)]) ∧ Below w.heap.size w w' := by
  have none' : ∀ (a : Option Addr) (cap : Nat), l = [] → Calls Tryd.prog 15 #[.slice a l.length cap, .string name] w fun e w' => e = .returned (.tuple #[.string (getV name l), .int .i64 (getN name l : Int)]) ∧ Below w.heap.size w w' := fun a cap h0 => by
    subst h0
    refine (fGet_none a cap name w).mono ?_
    rintro e w' ⟨rfl, rfl⟩
    exact ⟨rfl, Below.refl _ _⟩
  obtain ⟨a, cap, rfl, _, _, ⟨_, h0, _⟩ | ⟨x, rfl, h0 | ⟨b, o, rfl, hb, hf⟩⟩⟩ := h
  · exact none' a cap h0
  · exact none' _ cap h0
  · exact fGet_some b o cap l name w hl hsz hb hf
end Go.Proofs.YtnkefpopkaagaaaDoor
