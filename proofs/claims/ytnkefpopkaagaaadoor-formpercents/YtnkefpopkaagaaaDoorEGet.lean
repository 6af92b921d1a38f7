/-
  Layer 3's reference: pairs in memory; Get.
-/
import Derived.Test.YtnkefpopkaagaaaDoorETurn
import Derived.Deep.QuietTactic
import Derived.BigQuiet
import Derived.WalkSmall
namespace Go.Proofs.YtnkefpopkaagaaaDoor
open Go.RowKit Ch
set_option maxRecDepth 100000

/-- The value is a slice of these pairs. -/
def IsPairs (w : World) (v : Value) (l : List (ByteArray × ByteArray)) : Prop :=
  ∃ a cap, v = .slice a l.length cap ∧ l.length ≤ cap ∧ cap ≤ maxLen ∧ ((a = none ∧ l = [] ∧ cap = 0) ∨ ∃ x, a = some x ∧ (l = [] ∨ ∃ b o, x = ⟨b, o, none⟩ ∧ b < w.heap.size ∧
    ∀ i p, l[i]? = some p → w.cell? ⟨b, o + i * 2, none⟩ = some (.string p.1) ∧ w.cell? ⟨b, o + i * 2 + 1, none⟩ = some (.string p.2)))
theorem IsPairs.later {w w' : World} {v : Value} {l : List (ByteArray × ByteArray)} (h : IsPairs w v l) (hw : Below w.heap.size w w') : IsPairs w' v l := by
  obtain ⟨a, cap, hv, hc, hm, h | ⟨x, ha, h⟩⟩ := h
  · exact ⟨a, cap, hv, hc, hm, .inl h⟩
  · refine ⟨a, cap, hv, hc, hm, .inr ⟨x, ha, ?_⟩⟩
    rcases h with h | ⟨b, o, hx, hb, hf⟩
    · exact .inl h
    · refine .inr ⟨b, o, hx, Nat.lt_of_lt_of_le hb hw.size, fun i p hp => ?_⟩
      obtain ⟨h1, h2⟩ := hf i p hp
      exact ⟨(hw.cell (p := ⟨b, o + i * 2, none⟩) hb).trans h1, (hw.cell (p := ⟨b, o + i * 2 + 1, none⟩) hb).trans h2⟩
/-- How many of that name, and the first one's value. -/
def getN (name : ByteArray) : List (ByteArray × ByteArray) → Nat
  | [] => 0
  | p :: r => if p.1.data.toList = name.data.toList then getN name r + 1 else getN name r
def getV (name : ByteArray) : List (ByteArray × ByteArray) → ByteArray
  | [] => ⟨#[]⟩
  | p :: r => if p.1.data.toList = name.data.toList then p.2 else getV name r
theorem getN_le (name : ByteArray) : ∀ l, getN name l ≤ l.length
  | [] => Nat.le_refl _
  | p :: r => by
    have := getN_le name r
    rw [getN, List.length_cons]
    split <;> omega

theorem two_ret {a b : ByteArray} {m n : Int} (h1 : a = b) (h2 : m = n) : Ending.returned (.tuple #[.string a, .int .i64 m]) = .returned (.tuple #[.string b, .int .i64 n]) := by rw [h1, h2]

set_option maxHeartbeats 2000000 in
theorem sGet_some (b o cap : Nat) (l : List (ByteArray × ByteArray)) (name : ByteArray) (w : World) (hl : l.length ≤ 1000000)
    (hf : ∀ i p, l[i]? = some p → w.cell? ⟨b, o + i * 2, none⟩ = some (.string p.1) ∧ w.cell? ⟨b, o + i * 2 + 1, none⟩ = some (.string p.2)) :
    Calls Tryd.prog 16 #[.slice (some ⟨b, o, none⟩) l.length cap, .string name] w fun e w' => e = .returned (.tuple #[.string (getV name l), .int .i64 (getN name l : Int)]) ∧ w' = w := by
  have HF : Hid (∀ i p, l[i]? = some p → w.cell? ⟨b, o + i * 2, none⟩ = some (.string p.1) ∧ w.cell? ⟨b, o + i * 2 + 1, none⟩ = some (.string p.2)) := hf
  clear hf
  go_enter Tryd.func16, Tryd.ntmps16
  go_wp2
  go_loop [6, 7, 8] (fun n v t => ∃ k : Nat, k ≤ l.length ∧ t = .int .i64 ((k : Int) - 1) ∧ n = .int .i64 (getN name (l.drop k) : Int) ∧ v = .string (getV name (l.drop k))) (fun _ _ t => (intOf t + 1).toNat)
  case atStart =>
    refine ⟨l.length, Nat.le_refl _, rfl, ?_, ?_⟩
    · rw [List.drop_length]; rfl
    · rw [List.drop_length]; rfl
  case round =>
    obtain ⟨k, hk, rfl, rfl, rfl⟩ := hrel
    by_cases h0 : k = 0
    · subst h0
      rw [List.drop_zero]
      go_wp2
      go_ret2
      exact ⟨rfl, rfl⟩
    · obtain ⟨j, rfl⟩ : ∃ j, k = j + 1 := ⟨k - 1, by omega⟩
      have hj : j < l.length := by omega
      obtain ⟨p, hp⟩ : ∃ p, l[j]? = some p := ⟨_, List.getElem?_eq_getElem hj⟩
      obtain ⟨c1, c2⟩ := HF.out j p hp
      have hdr : l.drop j = p :: l.drop (j + 1) := by
        rw [List.drop_eq_getElem_cons hj]
        rw [List.getElem?_eq_getElem hj] at hp
        rw [Option.some.inj hp]
      have hjj : ((j + 1 : Nat) : Int) - 1 = (j : Int) := by omega
      have hle := getN_le name (l.drop (j + 1))
      rw [List.length_drop] at hle
      rw [hjj]
      obtain ⟨nn, hnn⟩ : ∃ nn, getN name (l.drop (j + 1)) = nn := ⟨_, rfl⟩
      obtain ⟨vv, hvv⟩ : ∃ vv, getV name (l.drop (j + 1)) = vv := ⟨_, rfl⟩
      rw [hnn] at hle ⊢
      rw [hvv]
      by_cases hq : p.1.data.toList = name.data.toList
      · have eq1 : (p.1.toList == name.toList) = true := by rw [Lib.toList_data, Lib.toList_data, hq]; simp
        have gN : Hid (getN name (l.drop j) = nn + 1) := by unfold Hid; rw [hdr, getN, if_pos hq, hnn]
        have gV : Hid (getV name (l.drop j) = p.2) := by unfold Hid; rw [hdr, getV, if_pos hq]
        clear hdr hnn hvv hq hp
        go_wp2
        refine ⟨⟨j, by omega, rfl, ?_, ?_⟩, by simp [intOf]⟩
        · rw [gN.out]; rfl
        · rw [gV.out]
      · have eq1 : (p.1.toList == name.toList) = false := by rw [Lib.toList_data, Lib.toList_data]; exact beq_eq_false_iff_ne.2 hq
        have gN : Hid (getN name (l.drop j) = nn) := by unfold Hid; rw [hdr, getN, if_neg hq, hnn]
        have gV : Hid (getV name (l.drop j) = vv) := by unfold Hid; rw [hdr, getV, if_neg hq, hvv]
        clear hdr hnn hvv hq hp
        go_wp2
        refine ⟨⟨j, by omega, rfl, ?_, ?_⟩, by simp [intOf]⟩
        · rw [gN.out]
        · rw [gV.out]
set_option maxHeartbeats 400000 in
theorem sGet_none (a : Option Addr) (cap : Nat) (name : ByteArray) (w : World) :
    Calls Tryd.prog 16 #[.slice a 0 cap, .string name] w fun e w' => e = .returned (.tuple #[.string ⟨#[]⟩, .int .i64 0]) ∧ w' = w := by
  go_enter Tryd.func16, Tryd.ntmps16
  go_wp2
  refine wp_loop_once ?_
  go_wp2
  go_ret2
  exact ⟨rfl, rfl⟩
theorem sGet_any (v : Value) (l : List (ByteArray × ByteArray)) (name : ByteArray) (w : World) (hl : l.length ≤ 1000000) (h : IsPairs w v l) :
    Calls Tryd.prog 16 #[v, .string name] w fun e w' => e = .returned (.tuple #[.string (getV name l), .int .i64 (getN name l : Int)]) ∧ w' = w := by
  obtain ⟨a, cap, rfl, _, _, ⟨_, h0, _⟩ | ⟨x, rfl, h0 | ⟨b, o, rfl, _, hf⟩⟩⟩ := h
  · subst h0; exact sGet_none a cap name w
  · subst h0; exact sGet_none _ cap name w
  · exact sGet_some b o cap l name w hl hf

set_option maxHeartbeats 2000000 in
theorem sSame_some (b1 o1 c1 b2 o2 c2 : Nat) (l r : List (ByteArray × ByteArray)) (w : World) (hl : l.length ≤ 1000000) (hlr : l.length = r.length)
    (hf : ∀ i p, l[i]? = some p → w.cell? ⟨b1, o1 + i * 2, none⟩ = some (.string p.1) ∧ w.cell? ⟨b1, o1 + i * 2 + 1, none⟩ = some (.string p.2))
    (hg : ∀ i p, r[i]? = some p → w.cell? ⟨b2, o2 + i * 2, none⟩ = some (.string p.1) ∧ w.cell? ⟨b2, o2 + i * 2 + 1, none⟩ = some (.string p.2)) :
    Calls Tryd.prog 17 #[.slice (some ⟨b1, o1, none⟩) l.length c1, .slice (some ⟨b2, o2, none⟩) l.length c2] w fun e w' => (∃ q : Bool, e = .returned (.bool q) ∧ (q = true ↔ l = r)) ∧ Below w.heap.size w w' := by
  have HF : Hid (∀ i p, l[i]? = some p → w.cell? ⟨b1, o1 + i * 2, none⟩ = some (.string p.1) ∧ w.cell? ⟨b1, o1 + i * 2 + 1, none⟩ = some (.string p.2)) := hf
  have HG : Hid (∀ i p, r[i]? = some p → w.cell? ⟨b2, o2 + i * 2, none⟩ = some (.string p.1) ∧ w.cell? ⟨b2, o2 + i * 2 + 1, none⟩ = some (.string p.2)) := hg
  clear hf hg
  go_enter Tryd.func17, Tryd.ntmps17
  go_wp2
  go_loopw [5] (fun t wr => ∃ k : Nat, k ≤ l.length ∧ t = .int .i64 (k : Int) ∧ Below w.heap.size w wr ∧ (∀ a, wr.cell? a = w.cell? a) ∧ Hid (∀ i, i < k → l[i]? = r[i]?)) (fun t _ => l.length - (intOf t).toNat)
  case atStart => exact ⟨0, Nat.zero_le _, rfl, Below.refl _ _, fun _ => rfl, fun i hi => by omega⟩
  case round =>
    obtain ⟨k, hk, rfl, hb, hcl, hsame⟩ := hrel
    by_cases hlt : k < l.length
    · obtain ⟨p, hp⟩ : ∃ p, l[k]? = some p := ⟨_, List.getElem?_eq_getElem hlt⟩
      obtain ⟨q, hq⟩ : ∃ q, r[k]? = some q := ⟨_, List.getElem?_eq_getElem (by omega)⟩
      obtain ⟨f1, f2⟩ := HF.out k p hp
      obtain ⟨g1, g2⟩ := HG.out k q hq
      rw [← hcl] at f1 f2 g1 g2
      have HCL : Hid (∀ a, wr.cell? a = w.cell? a) := hcl
      have q1 : (0 : Int) ≤ (k : Int) := by omega
      have q2 : (k : Int) < (l.length : Int) := by omega
      clear hcl
      have hno : p ≠ q → Hid (l ≠ r) := fun h e => h (by rw [e, hq] at hp; exact (Option.some.inj hp).symm)
      have fst : p.1.toList = q.1.toList → p.1 = q.1 := fun h => ByteArray.ext (Array.toList_inj.1 (by rw [← Lib.toList_data, ← Lib.toList_data]; exact h))
      have snd : p.2.toList = q.2.toList → p.2 = q.2 := fun h => ByteArray.ext (Array.toList_inj.1 (by rw [← Lib.toList_data, ← Lib.toList_data]; exact h))
      by_cases d1 : p.1.toList = q.1.toList
      · by_cases d2 : p.2.toList = q.2.toList
        · have hpq : p = q := Prod.ext (fst d1) (snd d2)
          have hs2 : Hid (∀ i, i < k + 1 → l[i]? = r[i]?) := by
            intro i hi
            rcases Nat.lt_or_ge i k with h | h
            · exact hsame.out i h
            · obtain rfl : i = k := by omega
              rw [hp, hq, hpq]
          clear hno fst snd hsame hp hq hpq
          go_wp2_with fail
          go_quiet (fail)
          go_wp2_with fail
          go_roundw
          case rel => exact ⟨k + 1, by omega, by go_num, below_drewN hb nq, fun a => (World.cell?_drewN _ _ _).trans (HCL.out a), hs2⟩
          case measure => simp [intOf]; omega
        · have hN := hno (fun e => d2 (by rw [e]))
          clear hno fst snd hsame hp hq
          go_wp2_with fail
          go_quiet (fail)
          go_wp2_with fail
          go_ret
          exact ⟨⟨false, rfl, (by simp), fun h => absurd h hN.out⟩, below_drewN hb nq⟩
      · have hN := hno (fun e => d1 (by rw [e]))
        clear hno fst snd hsame hp hq
        go_wp2_with fail
        go_quiet (fail)
        go_wp2_with fail
        go_ret
        exact ⟨⟨false, rfl, (by simp), fun h => absurd h hN.out⟩, below_drewN hb nq⟩
    · have hY : Hid (l = r) := by
        apply List.ext_getElem?
        intro i
        rcases Nat.lt_or_ge i l.length with h | h
        · exact hsame.out i (by omega)
        · rw [List.getElem?_eq_none h, List.getElem?_eq_none (by omega)]
      clear hsame hcl
      go_wp2_with fail
      go_ret
      exact ⟨⟨true, rfl, fun _ => hY.out, fun _ => rfl⟩, hb⟩
set_option maxHeartbeats 400000 in
theorem sSame_len (a b : Option Addr) (n m ca cb : Nat) (w : World) (h : n ≠ m) :
    Calls Tryd.prog 17 #[.slice a n ca, .slice b m cb] w fun e w' => e = .returned (.bool false) ∧ w' = w := by
  have e1 : ((n : Int) != (m : Int)) = true := by rw [bne_iff_ne]; omega
  go_enter Tryd.func17, Tryd.ntmps17
  go_wp2
  go_ret
  exact ⟨rfl, rfl⟩
set_option maxHeartbeats 400000 in
theorem sSame_empty (a b : Option Addr) (ca cb : Nat) (w : World) :
    Calls Tryd.prog 17 #[.slice a 0 ca, .slice b 0 cb] w fun e w' => e = .returned (.bool true) ∧ w' = w := by
  go_enter Tryd.func17, Tryd.ntmps17
  go_wp2
  refine wp_loop_once ?_
  go_wp2
  go_ret
  exact ⟨rfl, rfl⟩
theorem sSame_any (v u : Value) (l r : List (ByteArray × ByteArray)) (w : World) (hl : l.length ≤ 1000000) (h : IsPairs w v l) (k : IsPairs w u r) :
    Calls Tryd.prog 17 #[v, u] w fun e w' => (∃ q : Bool, e = .returned (.bool q) ∧ (q = true ↔ l = r)) ∧ Below w.heap.size w w' := by
  obtain ⟨a, ca, rfl, _, _, hl'⟩ := h
  obtain ⟨b, cb, rfl, _, _, hr'⟩ := k
  by_cases hne : l.length = r.length
  · by_cases h0 : l = []
    · subst h0
      have hr0 : r = [] := List.eq_nil_of_length_eq_zero hne.symm
      subst hr0
      refine (sSame_empty a b ca cb w).mono ?_
      rintro e w' ⟨rfl, rfl⟩
      exact ⟨⟨true, rfl, fun _ => rfl, fun _ => rfl⟩, Below.refl _ _⟩
    · have hr0 : r ≠ [] := fun e => h0 (List.eq_nil_of_length_eq_zero (by rw [hne, e]; rfl))
      rcases hl' with ⟨_, h1, _⟩ | ⟨x, rfl, h1 | ⟨b1, o1, rfl, _, hf⟩⟩
      · exact absurd h1 h0
      · exact absurd h1 h0
      · rcases hr' with ⟨_, h1, _⟩ | ⟨y, rfl, h1 | ⟨b2, o2, rfl, _, hg⟩⟩
        · exact absurd h1 hr0
        · exact absurd h1 hr0
        · rw [← hne]
          exact sSame_some b1 o1 ca b2 o2 cb l r w hl hne hf hg
  · refine (sSame_len a b _ _ ca cb w hne).mono ?_
    rintro e w' ⟨rfl, rfl⟩
    exact ⟨⟨false, rfl, (by simp), fun e => absurd (by rw [e]) hne⟩, Below.refl _ _⟩
end Go.Proofs.YtnkefpopkaagaaaDoor
