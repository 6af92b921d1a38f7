/-
  Layer 3's reference: pairs as a query.
-/
import Derived.Test.YtnkefpopkaagaaaDoorEPerc
import Derived.Test.YtnkefpopkaagaaaDoorEGet
namespace Go.Proofs.YtnkefpopkaagaaaDoor
open Go.RowKit Ch
set_option maxRecDepth 100000

def pairL (p : ByteArray × ByteArray) : List UInt8 := percL p.1.data.toList ++ [61] ++ percL p.2.data.toList
def queryFrom : Bool → List (ByteArray × ByteArray) → List UInt8
  | _, [] => []
  | f, p :: r => (if f = true then [] else [38]) ++ (pairL p ++ queryFrom false r)
def queryL (l : List (ByteArray × ByteArray)) : List UInt8 := queryFrom true l
theorem percL_length (l : List UInt8) : (percL l).length ≤ 3 * l.length := by
  induction l with
  | nil => exact Nat.le_refl _
  | cons c r ih =>
    have : (perc8 c).length ≤ 3 := by unfold perc8; split <;> simp
    rw [percL_cons, List.length_append, List.length_cons]
    omega

set_option maxHeartbeats 4000000 in
theorem sQuery_some (b o cap : Nat) (l : List (ByteArray × ByteArray)) (w : World) (hl : l.length ≤ 1000) (hsz : ∀ p ∈ l, p.1.size ≤ 1000 ∧ p.2.size ≤ 1000) (hbl : b < w.heap.size)
    (hf : ∀ i p, l[i]? = some p → w.cell? ⟨b, o + i * 2, none⟩ = some (.string p.1) ∧ w.cell? ⟨b, o + i * 2 + 1, none⟩ = some (.string p.2)) :
    Calls Tryd.prog 19 #[.slice (some ⟨b, o, none⟩) l.length cap] w fun e w' => e = .returned (.string ⟨(queryL l).toArray⟩) ∧ Below w.heap.size w w' := by
  have HF : Hid (∀ i p, l[i]? = some p → w.cell? ⟨b, o + i * 2, none⟩ = some (.string p.1) ∧ w.cell? ⟨b, o + i * 2 + 1, none⟩ = some (.string p.2)) := hf
  clear hf
  go_enter Tryd.func19, Tryd.ntmps19
  go_wp2
  go_loopw [3, 4] (fun v t wr => ∃ (i : Nat) (A : ByteArray), v = .string A ∧ t = .int .i64 (i : Int) ∧ i ≤ l.length ∧ Below w.heap.size w wr ∧ A.size ≤ 7000 * i ∧ Hid (A.data.toList ++ queryFrom (decide (i = 0)) (l.drop i) = queryL l)) (fun _ t _ => l.length - (intOf t).toNat)
  case atStart => exact ⟨0, ⟨#[]⟩, rfl, rfl, Nat.zero_le _, Below.refl _ _, Nat.le_refl _, rfl⟩
  case round =>
    obtain ⟨i, A, rfl, rfl, hi, hb, hA, hacc⟩ := hrel
    have hbz := hb.size
    by_cases hlt : i < l.length
    · obtain ⟨p, hp⟩ : ∃ p, l[i]? = some p := ⟨_, List.getElem?_eq_getElem hlt⟩
      obtain ⟨hs1, hs2⟩ := hsz p (List.mem_of_getElem? hp)
      obtain ⟨f1, f2⟩ := HF.out i p hp
      have c1 := (hb.cell (p := ⟨b, o + i * 2, none⟩) hbl).trans f1
      have c2 := (hb.cell (p := ⟨b, o + i * 2 + 1, none⟩) hbl).trans f2
      have hdr : l.drop i = p :: l.drop (i + 1) := by
        rw [List.drop_eq_getElem_cons hlt]
        rw [List.getElem?_eq_getElem hlt] at hp
        rw [Option.some.inj hp]
      obtain ⟨N, hN⟩ : ∃ N : ByteArray, ⟨(percL p.1.data.toList).toArray⟩ = N := ⟨_, rfl⟩
      obtain ⟨V, hV⟩ : ∃ V : ByteArray, ⟨(percL p.2.data.toList).toArray⟩ = V := ⟨_, rfl⟩
      have hNz : N.size ≤ 3000 := by
        have := percL_length p.1.data.toList
        rw [len_eq] at this
        rw [← hN, size_of_list]
        omega
      have hVz : V.size ≤ 3000 := by
        have := percL_length p.2.data.toList
        rw [len_eq] at this
        rw [← hV, size_of_list]
        omega
      have hP1 := fun W => sPercent_any p.1 W (by omega)
      have hP2 := fun W => sPercent_any p.2 W (by omega)
      rw [hN] at hP1
      rw [hV] at hP2
      have hpl : pairL p = N.data.toList ++ [61] ++ V.data.toList := by rw [← hN, ← hV]; rfl
      rw [hdr, queryFrom, hpl] at hacc
      have q1 : (0 : Int) ≤ (i : Int) := by omega
      have q2 : (i : Int) < (l.length : Int) := by omega
      have step : ∀ (B : ByteArray), B.data.toList = A.data.toList ++ (if decide (i = 0) = true then [] else [38]) → Hid ((B ++ N ++ (⟨#[61]⟩ : ByteArray) ++ V).data.toList ++ queryFrom (decide (i + 1 = 0)) (l.drop (i + 1)) = queryL l) := fun B hB => by
        have := hacc.out
        unfold Hid
        rw [cat_text, cat_text, cat_text, hB, show decide (i + 1 = 0) = false by simp, ← this]
        simp
      clear hacc hdr hpl hN hV hp f1 f2
      by_cases h0 : i = 0
      · have hW := step A (by rw [if_pos (by simp [h0]), List.append_nil])
        have hz1 : (A ++ N).size = A.size + N.size := ByteArray.size_append
        have hz2 : (A ++ N ++ (⟨#[61]⟩ : ByteArray)).size = A.size + N.size + 1 := by rw [ByteArray.size_append, hz1]; rfl
        have hz3 : (A ++ N ++ (⟨#[61]⟩ : ByteArray) ++ V).size = A.size + N.size + 1 + V.size := by rw [ByteArray.size_append, hz2]
        have s1 : (9223372036854775807 < A.size + N.size) = False := eq_false (by omega)
        have s2 : (9223372036854775807 < A.size + N.size + 1) = False := eq_false (by omega)
        have s3 : (9223372036854775807 < A.size + N.size + 1 + V.size) = False := eq_false (by omega)
        have hle0 : i ≤ 0 := by omega
        clear step h0
        go_wp2_with fail
        go_region_law (first
          | (go_simp
             go_wp2_with (go_at_call 12; refine (hP2 w1).mono ?_)
             rintro e w2 ⟨rfl, hb2⟩)
          | (go_simp
             go_wp2_with (go_at_call 12; refine (hP1 wr.drew).mono ?_)
             rintro e w1 ⟨rfl, hb1⟩
             have d2 : w1.cell? ⟨b, o + i * 2 + 1, none⟩ = some (.string p.2) := (hb1.cell (p := ⟨b, o + i * 2 + 1, none⟩) (show b < wr.heap.size by omega)).trans c2))
        all_goals
          go_wp2
          go_roundw
          case rel => exact ⟨i + 1, _, rfl, by go_num, by omega, hb.drew.trans ((hb1.trans (hb2.mono hb1.size)).mono hbz), by omega, hW⟩
          case measure => simp [intOf]; omega
      · have hW := step (A ++ ⟨#[38]⟩) (by rw [if_neg (by simp [h0]), cat_text])
        obtain ⟨B, hB⟩ : ∃ B : ByteArray, A ++ (⟨#[38]⟩ : ByteArray) = B := ⟨_, rfl⟩
        have hBz : B.size = A.size + 1 := by rw [← hB, ByteArray.size_append]; rfl
        rw [hB] at hW
        have hz1 : (B ++ N).size = B.size + N.size := ByteArray.size_append
        have hz2 : (B ++ N ++ (⟨#[61]⟩ : ByteArray)).size = B.size + N.size + 1 := by rw [ByteArray.size_append, hz1]; rfl
        have hz3 : (B ++ N ++ (⟨#[61]⟩ : ByteArray) ++ V).size = B.size + N.size + 1 + V.size := by rw [ByteArray.size_append, hz2]
        have hBs : B.size ≤ 7000 * i + 1 := by omega
        have s1 : (9223372036854775807 < B.size + N.size) = False := eq_false (by omega)
        have s2 : (9223372036854775807 < B.size + N.size + 1) = False := eq_false (by omega)
        have s3 : (9223372036854775807 < B.size + N.size + 1 + V.size) = False := eq_false (by omega)
        have hgt0 : 0 < i := by omega
        clear step h0 hBz
        go_wp2_with fail
        go_region_law (first
          | (go_simp
             go_wp2_with (go_at_call 12; refine (hP2 w1).mono ?_)
             rintro e w2 ⟨rfl, hb2⟩)
          | (go_simp
             go_wp2_with (go_at_call 12; refine (hP1 wr.drew).mono ?_)
             rintro e w1 ⟨rfl, hb1⟩
             have d2 : w1.cell? ⟨b, o + i * 2 + 1, none⟩ = some (.string p.2) := (hb1.cell (p := ⟨b, o + i * 2 + 1, none⟩) (show b < wr.heap.size by omega)).trans c2))
        all_goals
          go_wp2
          go_roundw
          case rel => exact ⟨i + 1, _, rfl, by go_num, by omega, hb.drew.trans ((hb1.trans (hb2.mono hb1.size)).mono hbz), by omega, hW⟩
          case measure => simp [intOf]; omega
    · have hW : Hid (A = ⟨(queryL l).toArray⟩) := by
        have := hacc.out
        rw [List.drop_of_length_le (by omega)] at this
        have e0 : ∀ f, queryFrom f [] = [] := fun f => by cases f <;> rfl
        rw [e0, List.append_nil] at this
        exact ByteArray.ext (Array.toList_inj.1 this)
      clear hacc
      go_wp2
      go_ret
      exact ⟨ret_str hW.out, hb⟩
set_option maxHeartbeats 400000 in
theorem sQuery_none (a : Option Addr) (cap : Nat) (w : World) :
    Calls Tryd.prog 19 #[.slice a 0 cap] w fun e w' => e = .returned (.string ⟨#[]⟩) ∧ w' = w := by
  go_enter Tryd.func19, Tryd.ntmps19
  go_wp2
  refine wp_loop_once ?_
  go_wp2
  go_ret
  exact ⟨rfl, rfl⟩
theorem sQuery_any (v : Value) (l : List (ByteArray × ByteArray)) (w : World) (hl : l.length ≤ 1000) (hsz : ∀ p ∈ l, p.1.size ≤ 1000 ∧ p.2.size ≤ 1000) (h : IsPairs w v l) :
    Calls Tryd.prog 19 #[v] w fun e w' => e = .returned (.string ⟨(queryL l).toArray⟩) ∧ Below w.heap.size w w' := by
  have none' : ∀ (a : Option Addr) (cap : Nat), l = [] → Calls Tryd.prog 19 #[.slice a l.length cap] w fun e w' => e = .returned (.string ⟨(queryL l).toArray⟩) ∧ Below w.heap.size w w' := fun a cap h0 => by
    subst h0
    refine (sQuery_none a cap w).mono ?_
    rintro e w' ⟨rfl, rfl⟩
    exact ⟨rfl, Below.refl _ _⟩
  obtain ⟨a, cap, rfl, _, _, ⟨_, h0, _⟩ | ⟨x, rfl, h0 | ⟨b, o, rfl, hb, hf⟩⟩⟩ := h
  · exact none' a cap h0
  · exact none' _ cap h0
  · exact sQuery_some b o cap l w hl hsz hb hf
end Go.Proofs.YtnkefpopkaagaaaDoor
