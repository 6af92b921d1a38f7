/-
  HashPieces, walked.
-/
import Derived.Test.YtgehgcnaoapbbaaDoorKStre
import Derived.Test.YtgehgcnaoapbbaaDoorHFree
namespace Go.Proofs.YtgehgcnaoapbbaaDoor
open Go.RowKit Ch
set_option maxRecDepth 100000

theorem rem_ring (c : Int) (m : Nat) (hn2 : m ≤ 1000000) : ∃ k : Nat, k ≤ m ∧ (wrap64 (wrap64 (c.tmod ((m + 1 : Nat) : Int) + (m : Int)) + 1)).tmod ((m + 1 : Nat) : Int) = (k : Int) := by
  have h1 := Int.tmod_lt_of_pos c (show (0 : Int) < ((m + 1 : Nat) : Int) by omega)
  have h2 : -(((m + 1 : Nat) : Int)) < c.tmod ((m + 1 : Nat) : Int) := Int.lt_tmod_of_pos c (by omega)
  rw [Go.IntWalk.wrap64_in (c.tmod ((m + 1 : Nat) : Int) + (m : Int)) (by omega), Go.IntWalk.wrap64_in _ (by omega), Int.tmod_eq_emod_of_nonneg (by omega)]
  have h3 := Int.emod_nonneg (c.tmod ((m + 1 : Nat) : Int) + (m : Int) + 1) (show ((m + 1 : Nat) : Int) ≠ 0 by omega)
  have h4 := Int.emod_lt_of_pos (c.tmod ((m + 1 : Nat) : Int) + (m : Int) + 1) (show (0 : Int) < ((m + 1 : Nat) : Int) by omega)
  refine ⟨((c.tmod ((m + 1 : Nat) : Int) + (m : Int) + 1) % ((m + 1 : Nat) : Int)).toNat, by omega, by omega⟩
theorem below2 {a b c : World} (h1 : Below a.heap.size a b) (h2 : Below b.heap.size b c) : Below a.heap.size a c := h1.trans (h2.mono h1.size)
theorem isBytes_nil (u : World) : IsBytes u (.slice none 0 0) ByteArray.empty := ⟨none, 0, rfl, Nat.le_refl _, by unfold maxLen; omega, .inl ⟨rfl, rfl, rfl⟩⟩
theorem IsSl.three {W : World} {u u' u'' : Value} {t t' t'' : ByteArray} (hI : IsBytes W u t) (hI' : IsBytes W u' t') (hI'' : IsBytes W u'' t'') : IsSl (W.alloc (.cells #[u, u', u''] 23)) (.slice (some ⟨W.heap.size, 0, none⟩) 3 3) [t, t', t''] := by
  have hN := heap_push_at W (.cells #[u, u', u''] 23)
  refine ⟨_, 3, rfl, .inr ⟨W.heap.size, 0, rfl, block_lt hN, fun i z hz => ?_⟩⟩
  rcases i with _ | _ | _ | i
  · simp only [List.getElem?_cons_zero, Option.some.injEq] at hz
    subst hz
    exact ⟨_, block_cell 0 hN rfl, hI.alloc _⟩
  · simp only [List.getElem?_cons_succ, List.getElem?_cons_zero, Option.some.injEq] at hz
    subst hz
    exact ⟨_, block_cell 1 hN rfl, hI'.alloc _⟩
  · simp only [List.getElem?_cons_succ, List.getElem?_cons_zero, Option.some.injEq] at hz
    subst hz
    exact ⟨_, block_cell 2 hN rfl, hI''.alloc _⟩
  · cases hz
/-- The noughts ahead of a long key. -/
def Z65 : ByteArray := ⟨(List.replicate 65 (0 : UInt8)).toArray⟩
theorem e65 : (madeCells (Value.int .u8 0).cells (65 * 1)).toList = byteVals Z65 := by kernel_rfl
def semPc (x : Option Addr) (cx cy : Nat) (y : Option Addr) (s t sA sB sE SH HM : ByteArray) (k : Nat) : Nat → Value → World → Prop := fun i v u => match i with
  | 0 => v = .slice x s.size cx
  | 1 => v = .int .i64 (k : Int)
  | 2 => v = .slice x k cx
  | 3 => v = .slice x s.size cx
  | 4 => v = .int .i64 (k : Int)
  | 5 => v = .slice (if cx = k then x else x.map fun z => z.add k) (s.size - k) (cx - k)
  | 6 => IsSl u v [sA, sB]
  | 7 => IsBytes u v SH
  | 8 => v = .string SH
  | 9 => v = .slice x s.size cx
  | 10 => IsSl u v [s]
  | 11 => IsBytes u v SH
  | 12 => v = .string SH
  | 13 => v = .bool false
  | 14 => v = .bool false
  | 15 => v = .slice y t.size cy
  | 16 => v = .slice x s.size cx
  | 17 => v = .int .i64 (k : Int)
  | 18 => v = .slice x k cx
  | 19 => v = .slice x s.size cx
  | 20 => v = .int .i64 (k : Int)
  | 21 => v = .slice (if cx = k then x else x.map fun z => z.add k) (s.size - k) (cx - k)
  | 22 => IsSl u v [sA, sE, sB]
  | 23 => IsBytes u v HM
  | 24 => v = .string HM
  | 25 => v = .slice y t.size cy
  | 26 => v = .slice x s.size cx
  | 27 => IsSl u v [s]
  | 28 => IsBytes u v HM
  | 29 => v = .string HM
  | 30 => v = .bool false
  | 31 => v = .bool false
  | _ => True
def semPd (x : Option Addr) (cx : Nat) (s LG SL HL : ByteArray) (a8 : Option Addr) (c8 : Nat) : Nat → Value → World → Prop := fun i v u => match i with
  | 0 => v = .slice a8 LG.size c8
  | 1 => v = .slice x s.size cx
  | 2 => IsSl u v [s]
  | 3 => IsBytes u v HL
  | 4 => v = .string HL
  | 5 => v = .slice a8 LG.size c8
  | 6 => IsSl u v [LG]
  | 7 => IsBytes u v SL
  | 8 => v = .slice x s.size cx
  | 9 => IsSl u v [s]
  | 10 => IsBytes u v HL
  | 11 => v = .string HL
  | 12 => v = .bool true
  | 13 => v = .bool true
  | 14 => ∃ B, v = .slice (some ⟨B, 0, none⟩) 32 32
  | 15 => v = .int .i64 32
  | 16 => v = .bool true
  | 17 => v = .bool true
  | 18 => v = .bool true
  | _ => True
set_option maxHeartbeats 4000000 in
theorem lkPieces_any (x y : Option Addr) (cx cy : Nat) (s t : ByteArray) (c : Int) (w : World) (hS : IsBytes w (.slice x s.size cx) s) (hT : IsBytes w (.slice y t.size cy) t) (hKT : KTab w) (hc : (Lit.int .i64 c).wf = true) :
    Calls Tryd.prog 7 #[.slice x s.size cx, .slice y t.size cy, .int .i64 c] w fun e w' => e = .returned (.bool true) ∧ Below w.heap.size w w' := by
  have hc63 := bounds_i64 hc
  by_cases hs : s.size ≤ 500 ∧ t.size ≤ 300
  · obtain ⟨hs, ht⟩ := hs
    have hs0 : ¬ (500 : Int) < (s.size : Int) := by omega
    have hs1 : decide ((500 : Int) < (s.size : Int)) = false := decide_eq_false hs0
    have ht0 : ¬ (300 : Int) < (t.size : Int) := by omega
    have ht1 : decide ((300 : Int) < (t.size : Int)) = false := decide_eq_false ht0
    obtain ⟨k, hk, ek⟩ := rem_ring c s.size (by omega)
    obtain ⟨n1, hn1⟩ : ∃ n1 : Nat, n1 = s.size + 1 := ⟨_, rfl⟩
    rw [← hn1] at ek
    have en1 : (s.size : Int) + 1 = (n1 : Int) := by omega
    have h501 : n1 ≤ 501 := by omega
    have h0n : ¬ (n1 : Int) = 0 := by omega
    have hkc : k ≤ cx := by
      obtain ⟨_, _, e1, e2, _⟩ := hS
      simp only [Value.slice.injEq] at e1
      omega
    obtain ⟨sA, hsA⟩ : ∃ sA : ByteArray, sA = ⟨(s.data.toList.take k).toArray⟩ := ⟨_, rfl⟩
    obtain ⟨sB, hsB⟩ : ∃ sB : ByteArray, sB = ⟨(s.data.toList.drop k).toArray⟩ := ⟨_, rfl⟩
    obtain ⟨SH, hSH⟩ : ∃ SH : ByteArray, SH = ⟨(shaL s.data.toList).toArray⟩ := ⟨_, rfl⟩
    obtain ⟨HM, hHM⟩ : ∃ HM : ByteArray, HM = ⟨(hmacL t.data.toList s.data.toList).toArray⟩ := ⟨_, rfl⟩
    obtain ⟨sE, hsE⟩ : ∃ sE : ByteArray, sE = ByteArray.empty := ⟨_, rfl⟩
    have hcA : ∀ u, IsBytes u (.slice x s.size cx) s → IsBytes u (.slice x k cx) sA := fun u h => by
      have := IsBytes.head h (k := k) hk
      have e : seg s 0 k = s.data.toList.take k := by unfold seg; simp
      rw [e] at this; rw [hsA]; exact this
    have hcB : ∀ u, IsBytes u (.slice x s.size cx) s → IsBytes u (.slice (if cx = k then x else x.map fun z => z.add k) (s.size - k) (cx - k)) sB := fun u h => by
      have := IsBytes.rest h (k := k) hk
      have e : seg s k s.size = s.data.toList.drop k := by unfold seg; rw [← len_eq]; exact List.take_of_length_le (by rw [List.length_drop]; exact Nat.le_refl _)
      rw [e] at this; rw [hsB]; exact this
    have hfl1 : flatB [s] = s.data.toList := by simp [flatB]
    have hfl2 : flatB [sA, sB] = s.data.toList := by rw [hsA, hsB]; simp [flatB]
    have hfl3 : flatB [sA, sE, sB] = s.data.toList := by
      have h0 : ByteArray.empty.data.toList = [] := rfl
      rw [hsA, hsB, hsE]; simp [flatB]
    have hsl : s.data.toList.length ≤ 500 := by rw [len_eq]; exact hs
    have hSumAB : ∀ v u, IsSl u v [sA, sB] → KTab u → Calls Tryd.prog 10 #[v] u fun e w' => (∃ B, e = .returned (.slice (some ⟨B, 0, none⟩) 32 32) ∧ u.heap.size ≤ B ∧ IsBytes w' (.slice (some ⟨B, 0, none⟩) 32 32) SH) ∧ Below u.heap.size u w' := fun v u h1 h2 => by
      have := kSum_any v [sA, sB] u h1 h2 (by rw [hfl2]; omega) (by simp)
      rw [hfl2, ← hSH] at this; exact this
    have hSumS : ∀ v u, IsSl u v [s] → KTab u → Calls Tryd.prog 10 #[v] u fun e w' => (∃ B, e = .returned (.slice (some ⟨B, 0, none⟩) 32 32) ∧ u.heap.size ≤ B ∧ IsBytes w' (.slice (some ⟨B, 0, none⟩) 32 32) SH) ∧ Below u.heap.size u w' := fun v u h1 h2 => by
      have := kSum_any v [s] u h1 h2 (by rw [hfl1]; omega) (by simp)
      rw [hfl1, ← hSH] at this; exact this
    have hMac : ∀ ls, flatB ls = s.data.toList → ls.length ≤ 3 → ∀ v u, IsSl u v ls → (KTab u ∧ IsBytes u (.slice x s.size cx) s ∧ IsBytes u (.slice y t.size cy) t ∧ IsBytes u (.slice x k cx) sA ∧ IsBytes u (.slice (if cx = k then x else x.map fun z => z.add k) (s.size - k) (cx - k)) sB) → Calls Tryd.prog 13 #[.slice y t.size cy, v] u fun e w' => (∃ B, e = .returned (.slice (some ⟨B, 0, none⟩) 32 32) ∧ u.heap.size ≤ B ∧ IsBytes w' (.slice (some ⟨B, 0, none⟩) 32 32) HM) ∧ Below u.heap.size u w' := fun ls hf hl v u h1 h2 => by
      have := kMac_any y cy t v ls u (by omega) h2.2.2.1 h1 h2.1 (by rw [hf]; omega) (by omega)
      rw [hf, ← hHM] at this; exact this
    have hMacAB := hMac _ hfl3 (by simp)
    have hMacS := hMac _ hfl1 (by simp)
    clear hMac hsA hsB hSH hHM hfl1 hfl2 hfl3
    have HN1 := show Hid (n1 = s.size + 1) from hn1
    clear hn1
    obtain ⟨i0, hi5, hz5, hs5, hb5⟩ := info5
    go_enter Tryd.func7, Tryd.ntmps7
    go_wp2_with fail
    refine (lkAwake_any w hKT).mono ?_
    rintro e w1 ⟨rfl, hb1⟩
    go_upto_region 4 with fail

    have HU := show Hid (∀ u, Below w1.drew.heap.size w1.drew u → KTab u ∧ IsBytes u (.slice x s.size cx) s ∧ IsBytes u (.slice y t.size cy) t ∧ IsBytes u (.slice x k cx) sA ∧ IsBytes u (.slice (if cx = k then x else x.map fun z => z.add k) (s.size - k) (cx - k)) sB) from fun u hb => ⟨((hKT.later hb1).later ((Below.refl _ _).drew)).later hb, ((hS.later hb1).later ((Below.refl _ _).drew)).later hb, ((hT.later hb1).later ((Below.refl _ _).drew)).later hb, hcA _ (((hS.later hb1).later ((Below.refl _ _).drew)).later hb), hcB _ (((hS.later hb1).later ((Below.refl _ _).drew)).later hb)⟩
    refine free_walk (Sem := semPc x cx cy y s t sA sB sE SH HM k) rfl (n := 88) (by kernel_rfl) rfl (by kernel_rfl) ?_ ?_ ?_
    · intro i v u u' h hb
      match i, h with
      | 0, h => exact h
      | 1, h => exact h
      | 2, h => exact h
      | 3, h => exact h
      | 4, h => exact h
      | 5, h => exact h
      | 6, h => exact IsSl.later h hb
      | 7, h => exact IsBytes.later h hb
      | 8, h => exact h
      | 9, h => exact h
      | 10, h => exact IsSl.later h hb
      | 11, h => exact IsBytes.later h hb
      | 12, h => exact h
      | 13, h => exact h
      | 14, h => exact h
      | 15, h => exact h
      | 16, h => exact h
      | 17, h => exact h
      | 18, h => exact h
      | 19, h => exact h
      | 20, h => exact h
      | 21, h => exact h
      | 22, h => exact IsSl.later h hb
      | 23, h => exact IsBytes.later h hb
      | 24, h => exact h
      | 25, h => exact h
      | 26, h => exact h
      | 27, h => exact IsSl.later h hb
      | 28, h => exact IsBytes.later h hb
      | 29, h => exact h
      | 30, h => exact h
      | 31, h => exact h
      | _ + 32, _ => exact trivial
    · intro i o a u ho hF hbu
      match i, ho, hF with
      | 0, ho, hF =>
        obtain rfl := Option.some.inj ho
        have h0 : a.tmps[0]? = some (.slice x s.size cx) := (hF.out 0 rfl).trans rfl
        refine free_step rfl (by rfl) (fun K' hK => ?_)
        go_simp
        exact hK.out _ _ rfl (Below.refl _ _)
      | 1, ho, hF =>
        obtain rfl := Option.some.inj ho
        have h7 : a.tmps[7]? = some (.int .i64 (k : Int)) := (hF.out 7 rfl).trans rfl
        refine free_step rfl (by rfl) (fun K' hK => ?_)
        go_simp
        exact hK.out _ _ rfl (Below.refl _ _)
      | 2, ho, hF =>
        obtain rfl := Option.some.inj ho
        obtain ⟨v35, h35, s35⟩ := hF.dep 0 35 rfl rfl
        obtain rfl : v35 = .slice x s.size cx := s35
        obtain ⟨v36, h36, s36⟩ := hF.dep 1 36 rfl rfl
        obtain rfl : v36 = .int .i64 (k : Int) := s36
        refine free_step rfl (by rfl) (fun K' hK => ?_)
        go_simp
        exact hK.out _ _ rfl (Below.refl _ _)
      | 3, ho, hF =>
        obtain rfl := Option.some.inj ho
        have h0 : a.tmps[0]? = some (.slice x s.size cx) := (hF.out 0 rfl).trans rfl
        refine free_step rfl (by rfl) (fun K' hK => ?_)
        go_simp
        exact hK.out _ _ rfl (Below.refl _ _)
      | 4, ho, hF =>
        obtain rfl := Option.some.inj ho
        have h7 : a.tmps[7]? = some (.int .i64 (k : Int)) := (hF.out 7 rfl).trans rfl
        refine free_step rfl (by rfl) (fun K' hK => ?_)
        go_simp
        exact hK.out _ _ rfl (Below.refl _ _)
      | 5, ho, hF =>
        obtain rfl := Option.some.inj ho
        obtain ⟨v38, h38, s38⟩ := hF.dep 3 38 rfl rfl
        obtain rfl : v38 = .slice x s.size cx := s38
        obtain ⟨v39, h39, s39⟩ := hF.dep 4 39 rfl rfl
        obtain rfl : v39 = .int .i64 (k : Int) := s39
        refine free_step rfl (by rfl) (fun K' hK => ?_)
        go_simp
        exact hK.out _ _ rfl (Below.refl _ _)
      | 6, ho, hF =>
        obtain rfl := Option.some.inj ho
        obtain ⟨v37, h37, s37⟩ := hF.dep 2 37 rfl rfl
        obtain rfl : v37 = .slice x k cx := s37
        obtain ⟨v40, h40, s40⟩ := hF.dep 5 40 rfl rfl
        obtain rfl : v40 = .slice (if cx = k then x else x.map fun z => z.add k) (s.size - k) (cx - k) := s40
        refine free_step rfl (by rfl) (fun K' hK => ?_)
        go_simp
        exact hK.out _ _ (IsSl.two (HU.out u hbu).2.2.2.1 (HU.out u hbu).2.2.2.2) ((Below.refl _ u).alloc (Nat.le_refl _) _)
      | 7, ho, hF =>
        obtain rfl := Option.some.inj ho
        obtain ⟨v41, h41, s41⟩ := hF.dep 6 41 rfl rfl
        replace s41 : IsSl u v41 [sA, sB] := s41
        refine free_step rfl (by rfl) (fun K' hK => ?_)
        go_wp2_with fail
        refine (hSumAB _ u s41 (HU.out u hbu).1).mono ?_
        rintro e u' ⟨⟨B, rfl, _, hI⟩, hb⟩
        go_simp
        exact hK.out _ _ hI hb
      | 8, ho, hF =>
        obtain rfl := Option.some.inj ho
        obtain ⟨v42, h42, s42⟩ := hF.dep 7 42 rfl rfl
        replace s42 : IsBytes u v42 SH := s42
        have hcv := IsBytes.convert s42
        refine free_step rfl (by rfl) (fun K' hK => ?_)
        go_simp
        exact hK.out _ _ rfl (Below.refl _ _)
      | 9, ho, hF =>
        obtain rfl := Option.some.inj ho
        have h0 : a.tmps[0]? = some (.slice x s.size cx) := (hF.out 0 rfl).trans rfl
        refine free_step rfl (by rfl) (fun K' hK => ?_)
        go_simp
        exact hK.out _ _ rfl (Below.refl _ _)
      | 10, ho, hF =>
        obtain rfl := Option.some.inj ho
        obtain ⟨v44, h44, s44⟩ := hF.dep 9 44 rfl rfl
        obtain rfl : v44 = .slice x s.size cx := s44
        refine free_step rfl (by rfl) (fun K' hK => ?_)
        go_simp
        exact hK.out _ _ (IsSl.one (HU.out u hbu).2.1) ((Below.refl _ u).alloc (Nat.le_refl _) _)
      | 11, ho, hF =>
        obtain rfl := Option.some.inj ho
        obtain ⟨v45, h45, s45⟩ := hF.dep 10 45 rfl rfl
        replace s45 : IsSl u v45 [s] := s45
        refine free_step rfl (by rfl) (fun K' hK => ?_)
        go_wp2_with fail
        refine (hSumS _ u s45 (HU.out u hbu).1).mono ?_
        rintro e u' ⟨⟨B, rfl, _, hI⟩, hb⟩
        go_simp
        exact hK.out _ _ hI hb
      | 12, ho, hF =>
        obtain rfl := Option.some.inj ho
        obtain ⟨v46, h46, s46⟩ := hF.dep 11 46 rfl rfl
        replace s46 : IsBytes u v46 SH := s46
        have hcv := IsBytes.convert s46
        refine free_step rfl (by rfl) (fun K' hK => ?_)
        go_simp
        exact hK.out _ _ rfl (Below.refl _ _)
      | 13, ho, hF =>
        obtain rfl := Option.some.inj ho
        obtain ⟨v43, h43, s43⟩ := hF.dep 8 43 rfl rfl
        obtain rfl : v43 = .string SH := s43
        obtain ⟨v47, h47, s47⟩ := hF.dep 12 47 rfl rfl
        obtain rfl : v47 = .string SH := s47
        have tS : (SH.toList == SH.toList) = true := by simp
        refine free_step rfl (by rfl) (fun K' hK => ?_)
        go_simp
        exact hK.out _ _ rfl (Below.refl _ _)
      | 14, ho, hF =>
        obtain rfl := Option.some.inj ho
        obtain ⟨v48, h48, s48⟩ := hF.dep 13 48 rfl rfl
        obtain rfl : v48 = .bool false := s48
        refine free_step rfl (by rfl) (fun K' hK => ?_)
        go_simp
        exact hK.out _ _ rfl (Below.refl _ _)
      | 15, ho, hF =>
        obtain rfl := Option.some.inj ho
        have h1 : a.tmps[1]? = some (.slice y t.size cy) := (hF.out 1 rfl).trans rfl
        obtain ⟨v49, h49, s49⟩ := hF.dep 14 49 rfl rfl
        obtain rfl : v49 = .bool false := s49
        refine free_step rfl (by show (yielded _ a.tmps 14 == some false) = true; unfold yielded; simp [h49]) (fun K' hK => ?_)
        go_simp
        exact hK.out _ _ rfl (Below.refl _ _)
      | 16, ho, hF =>
        obtain rfl := Option.some.inj ho
        have h0 : a.tmps[0]? = some (.slice x s.size cx) := (hF.out 0 rfl).trans rfl
        obtain ⟨v49, h49, s49⟩ := hF.dep 14 49 rfl rfl
        obtain rfl : v49 = .bool false := s49
        refine free_step rfl (by show (yielded _ a.tmps 14 == some false) = true; unfold yielded; simp [h49]) (fun K' hK => ?_)
        go_simp
        exact hK.out _ _ rfl (Below.refl _ _)
      | 17, ho, hF =>
        obtain rfl := Option.some.inj ho
        have h7 : a.tmps[7]? = some (.int .i64 (k : Int)) := (hF.out 7 rfl).trans rfl
        obtain ⟨v49, h49, s49⟩ := hF.dep 14 49 rfl rfl
        obtain rfl : v49 = .bool false := s49
        refine free_step rfl (by show (yielded _ a.tmps 14 == some false) = true; unfold yielded; simp [h49]) (fun K' hK => ?_)
        go_simp
        exact hK.out _ _ rfl (Below.refl _ _)
      | 18, ho, hF =>
        obtain rfl := Option.some.inj ho
        obtain ⟨v51, h51, s51⟩ := hF.dep 16 51 rfl rfl
        obtain rfl : v51 = .slice x s.size cx := s51
        obtain ⟨v52, h52, s52⟩ := hF.dep 17 52 rfl rfl
        obtain rfl : v52 = .int .i64 (k : Int) := s52
        obtain ⟨v49, h49, s49⟩ := hF.dep 14 49 rfl rfl
        obtain rfl : v49 = .bool false := s49
        refine free_step rfl (by show (yielded _ a.tmps 14 == some false) = true; unfold yielded; simp [h49]) (fun K' hK => ?_)
        go_simp
        exact hK.out _ _ rfl (Below.refl _ _)
      | 19, ho, hF =>
        obtain rfl := Option.some.inj ho
        have h0 : a.tmps[0]? = some (.slice x s.size cx) := (hF.out 0 rfl).trans rfl
        obtain ⟨v49, h49, s49⟩ := hF.dep 14 49 rfl rfl
        obtain rfl : v49 = .bool false := s49
        refine free_step rfl (by show (yielded _ a.tmps 14 == some false) = true; unfold yielded; simp [h49]) (fun K' hK => ?_)
        go_simp
        exact hK.out _ _ rfl (Below.refl _ _)
      | 20, ho, hF =>
        obtain rfl := Option.some.inj ho
        have h7 : a.tmps[7]? = some (.int .i64 (k : Int)) := (hF.out 7 rfl).trans rfl
        obtain ⟨v49, h49, s49⟩ := hF.dep 14 49 rfl rfl
        obtain rfl : v49 = .bool false := s49
        refine free_step rfl (by show (yielded _ a.tmps 14 == some false) = true; unfold yielded; simp [h49]) (fun K' hK => ?_)
        go_simp
        exact hK.out _ _ rfl (Below.refl _ _)
      | 21, ho, hF =>
        obtain rfl := Option.some.inj ho
        obtain ⟨v54, h54, s54⟩ := hF.dep 19 54 rfl rfl
        obtain rfl : v54 = .slice x s.size cx := s54
        obtain ⟨v55, h55, s55⟩ := hF.dep 20 55 rfl rfl
        obtain rfl : v55 = .int .i64 (k : Int) := s55
        obtain ⟨v49, h49, s49⟩ := hF.dep 14 49 rfl rfl
        obtain rfl : v49 = .bool false := s49
        refine free_step rfl (by show (yielded _ a.tmps 14 == some false) = true; unfold yielded; simp [h49]) (fun K' hK => ?_)
        go_simp
        exact hK.out _ _ rfl (Below.refl _ _)
      | 22, ho, hF =>
        obtain rfl := Option.some.inj ho
        obtain ⟨v53, h53, s53⟩ := hF.dep 18 53 rfl rfl
        obtain rfl : v53 = .slice x k cx := s53
        obtain ⟨v56, h56, s56⟩ := hF.dep 21 56 rfl rfl
        obtain rfl : v56 = .slice (if cx = k then x else x.map fun z => z.add k) (s.size - k) (cx - k) := s56
        obtain ⟨v49, h49, s49⟩ := hF.dep 14 49 rfl rfl
        obtain rfl : v49 = .bool false := s49
        refine free_step rfl (by show (yielded _ a.tmps 14 == some false) = true; unfold yielded; simp [h49]) (fun K' hK => ?_)
        go_simp
        exact hK.out _ _ (IsSl.three (HU.out u hbu).2.2.2.1 (hsE ▸ isBytes_nil u) (HU.out u hbu).2.2.2.2) ((Below.refl _ u).alloc (Nat.le_refl _) _)
      | 23, ho, hF =>
        obtain rfl := Option.some.inj ho
        obtain ⟨v50, h50, s50⟩ := hF.dep 15 50 rfl rfl
        obtain rfl : v50 = .slice y t.size cy := s50
        obtain ⟨v57, h57, s57⟩ := hF.dep 22 57 rfl rfl
        replace s57 : IsSl u v57 [sA, sE, sB] := s57
        obtain ⟨v49, h49, s49⟩ := hF.dep 14 49 rfl rfl
        obtain rfl : v49 = .bool false := s49
        refine free_step rfl (by show (yielded _ a.tmps 14 == some false) = true; unfold yielded; simp [h49]) (fun K' hK => ?_)
        go_wp2_with fail
        refine (hMacAB _ u s57 (HU.out u hbu)).mono ?_
        rintro e u' ⟨⟨B, rfl, _, hI⟩, hb⟩
        go_simp
        exact hK.out _ _ hI hb
      | 24, ho, hF =>
        obtain rfl := Option.some.inj ho
        obtain ⟨v58, h58, s58⟩ := hF.dep 23 58 rfl rfl
        replace s58 : IsBytes u v58 HM := s58
        obtain ⟨v49, h49, s49⟩ := hF.dep 14 49 rfl rfl
        obtain rfl : v49 = .bool false := s49
        have hcv := IsBytes.convert s58
        refine free_step rfl (by show (yielded _ a.tmps 14 == some false) = true; unfold yielded; simp [h49]) (fun K' hK => ?_)
        go_simp
        exact hK.out _ _ rfl (Below.refl _ _)
      | 25, ho, hF =>
        obtain rfl := Option.some.inj ho
        have h1 : a.tmps[1]? = some (.slice y t.size cy) := (hF.out 1 rfl).trans rfl
        obtain ⟨v49, h49, s49⟩ := hF.dep 14 49 rfl rfl
        obtain rfl : v49 = .bool false := s49
        refine free_step rfl (by show (yielded _ a.tmps 14 == some false) = true; unfold yielded; simp [h49]) (fun K' hK => ?_)
        go_simp
        exact hK.out _ _ rfl (Below.refl _ _)
      | 26, ho, hF =>
        obtain rfl := Option.some.inj ho
        have h0 : a.tmps[0]? = some (.slice x s.size cx) := (hF.out 0 rfl).trans rfl
        obtain ⟨v49, h49, s49⟩ := hF.dep 14 49 rfl rfl
        obtain rfl : v49 = .bool false := s49
        refine free_step rfl (by show (yielded _ a.tmps 14 == some false) = true; unfold yielded; simp [h49]) (fun K' hK => ?_)
        go_simp
        exact hK.out _ _ rfl (Below.refl _ _)
      | 27, ho, hF =>
        obtain rfl := Option.some.inj ho
        obtain ⟨v61, h61, s61⟩ := hF.dep 26 61 rfl rfl
        obtain rfl : v61 = .slice x s.size cx := s61
        obtain ⟨v49, h49, s49⟩ := hF.dep 14 49 rfl rfl
        obtain rfl : v49 = .bool false := s49
        refine free_step rfl (by show (yielded _ a.tmps 14 == some false) = true; unfold yielded; simp [h49]) (fun K' hK => ?_)
        go_simp
        exact hK.out _ _ (IsSl.one (HU.out u hbu).2.1) ((Below.refl _ u).alloc (Nat.le_refl _) _)
      | 28, ho, hF =>
        obtain rfl := Option.some.inj ho
        obtain ⟨v60, h60, s60⟩ := hF.dep 25 60 rfl rfl
        obtain rfl : v60 = .slice y t.size cy := s60
        obtain ⟨v62, h62, s62⟩ := hF.dep 27 62 rfl rfl
        replace s62 : IsSl u v62 [s] := s62
        obtain ⟨v49, h49, s49⟩ := hF.dep 14 49 rfl rfl
        obtain rfl : v49 = .bool false := s49
        refine free_step rfl (by show (yielded _ a.tmps 14 == some false) = true; unfold yielded; simp [h49]) (fun K' hK => ?_)
        go_wp2_with fail
        refine (hMacS _ u s62 (HU.out u hbu)).mono ?_
        rintro e u' ⟨⟨B, rfl, _, hI⟩, hb⟩
        go_simp
        exact hK.out _ _ hI hb
      | 29, ho, hF =>
        obtain rfl := Option.some.inj ho
        obtain ⟨v63, h63, s63⟩ := hF.dep 28 63 rfl rfl
        replace s63 : IsBytes u v63 HM := s63
        obtain ⟨v49, h49, s49⟩ := hF.dep 14 49 rfl rfl
        obtain rfl : v49 = .bool false := s49
        have hcv := IsBytes.convert s63
        refine free_step rfl (by show (yielded _ a.tmps 14 == some false) = true; unfold yielded; simp [h49]) (fun K' hK => ?_)
        go_simp
        exact hK.out _ _ rfl (Below.refl _ _)
      | 30, ho, hF =>
        obtain rfl := Option.some.inj ho
        obtain ⟨v59, h59, s59⟩ := hF.dep 24 59 rfl rfl
        obtain rfl : v59 = .string HM := s59
        obtain ⟨v64, h64, s64⟩ := hF.dep 29 64 rfl rfl
        obtain rfl : v64 = .string HM := s64
        obtain ⟨v49, h49, s49⟩ := hF.dep 14 49 rfl rfl
        obtain rfl : v49 = .bool false := s49
        have tS : (HM.toList == HM.toList) = true := by simp
        refine free_step rfl (by show (yielded _ a.tmps 14 == some false) = true; unfold yielded; simp [h49]) (fun K' hK => ?_)
        go_simp
        exact hK.out _ _ rfl (Below.refl _ _)
      | 31, ho, hF =>
        obtain rfl := Option.some.inj ho
        obtain ⟨v49, h49, s49⟩ := hF.dep 14 49 rfl rfl
        obtain rfl : v49 = .bool false := s49
        obtain ⟨v65, h65, s65⟩ := hF.dep 30 65 rfl rfl
        obtain rfl : v65 = .bool false := s65
        refine free_step rfl (by rfl) (fun K' hK => ?_)
        go_simp
        exact hK.out _ _ rfl (Below.refl _ _)
      | n + 32, ho, _ => exact absurd (Array.getElem?_eq_some_iff.1 ho).1 (by show ¬ n + 32 < 32; omega)
    · intro vs u hS hbu
      have e31 : vs 31 = .bool false := hS 31 66 rfl
      simp only [putFrom, Act.put, List.setIfInBounds_toArray, List.set_cons_succ, List.set_cons_zero, Nat.reduceAdd]
      rw [e31]
      clear hS e31
      generalize vs 0 = z0
      generalize vs 1 = z1
      generalize vs 2 = z2
      generalize vs 3 = z3
      generalize vs 4 = z4
      generalize vs 5 = z5
      generalize vs 6 = z6
      generalize vs 7 = z7
      generalize vs 8 = z8
      generalize vs 9 = z9
      generalize vs 10 = z10
      generalize vs 11 = z11
      generalize vs 12 = z12
      generalize vs 13 = z13
      generalize vs 14 = z14
      generalize vs 15 = z15
      generalize vs 16 = z16
      generalize vs 17 = z17
      generalize vs 18 = z18
      generalize vs 19 = z19
      generalize vs 20 = z20
      generalize vs 21 = z21
      generalize vs 22 = z22
      generalize vs 23 = z23
      generalize vs 24 = z24
      generalize vs 25 = z25
      generalize vs 26 = z26
      generalize vs 27 = z27
      generalize vs 28 = z28
      generalize vs 29 = z29
      generalize vs 30 = z30
      clear hSumAB hMacAB hSumS hMacS
      have hTu := (HU.out u hbu).2.2.1
      have hz65 : Z65.size + t.size ≤ 1000000 := by rw [show Z65.size = 65 from rfl]; omega
      go_wp2_with (first
        | (at_make; go_must (refine wpList_make_full u rfl _ _ 23 rfl u.heap.size 5 i0 (.int .u8 0) 1 Tryd.underlying23 hi5 hz5 hs5 .i64 .i64 _ _ 65 rfl rfl rfl rfl (by rw [hb5]; omega) (by unfold maxLen; omega) (Nat.le_refl _) ?_; intro w6 ho6 hg6; have hb6 : Below u.heap.size u w6 := (Below.refl _ u).grown hg6 (Nat.le_refl _) (fun k h => by cases h); rw [e65] at ho6; have hT6 := hTu.later hb6))
        | (at_builtin; go_must (refine wpList_append_bytes rfl _ _ rfl u.heap.size _ Z65 rfl ho6 _ t rfl hT6 hz65 hb6.size ?_; intro v8 w8 ho8 hb8)))
      obtain ⟨a8, c8, rfl⟩ := own_shape ho8
      have hb68 : Below u.heap.size u w8 := hb6.trans hb8
      have hI8 := own_bytes ho8
      obtain ⟨LG, hLG⟩ : ∃ LG, LG = cat Z65 t := ⟨_, rfl⟩
      rw [← hLG] at hI8 ⊢
      have hLz : LG.size = 65 + t.size := by rw [hLG, cat_size]; rfl
      obtain ⟨SL, hSL⟩ : ∃ SL : ByteArray, SL = ⟨(shaL LG.data.toList).toArray⟩ := ⟨_, rfl⟩
      obtain ⟨HL, hHL⟩ : ∃ HL : ByteArray, HL = ⟨(hmacL LG.data.toList s.data.toList).toArray⟩ := ⟨_, rfl⟩
      have hbu8 : Below w1.drew.heap.size w1.drew w8 := hbu.trans (hb68.mono hbu.size)
      have HV := show Hid (∀ u, Below w8.drew.heap.size w8.drew u → KTab u ∧ IsBytes u (.slice x s.size cx) s ∧ IsBytes u (.slice a8 LG.size c8) LG) from fun u hb => ⟨((HU.out w8 hbu8).1.later ((Below.refl _ _).drew)).later hb, ((HU.out w8 hbu8).2.1.later ((Below.refl _ _).drew)).later hb, (hI8.later ((Below.refl _ _).drew)).later hb⟩
      have HB := show Hid (Below w.heap.size w w8.drew) from (hb1.drew.trans (hbu8.mono hb1.drew.size)).drew
      have hfl1 : flatB [s] = s.data.toList := by simp [flatB]
      have hflL : flatB [LG] = LG.data.toList := by simp [flatB]
      have hLl : LG.data.toList.length = 65 + t.size := by rw [len_eq]; exact hLz
      have hMacL : ∀ v u, IsSl u v [s] → (KTab u ∧ IsBytes u (.slice x s.size cx) s ∧ IsBytes u (.slice a8 LG.size c8) LG) → Calls Tryd.prog 13 #[.slice a8 LG.size c8, v] u fun e w' => (∃ B, e = .returned (.slice (some ⟨B, 0, none⟩) 32 32) ∧ u.heap.size ≤ B ∧ IsBytes w' (.slice (some ⟨B, 0, none⟩) 32 32) HL) ∧ Below u.heap.size u w' := fun v u h1 h2 => by
        have := kMac_any a8 c8 LG v [s] u (by omega) h2.2.2 h1 h2.1 (by rw [hfl1]; omega) (by simp)
        rw [hfl1, ← hHL] at this; exact this
      have hMacM : ∀ kv v u, IsBytes u kv SL → IsSl u v [s] → (KTab u ∧ IsBytes u (.slice x s.size cx) s ∧ IsBytes u (.slice a8 LG.size c8) LG) → Calls Tryd.prog 13 #[kv, v] u fun e w' => (∃ B, e = .returned (.slice (some ⟨B, 0, none⟩) 32 32) ∧ u.heap.size ≤ B ∧ IsBytes w' (.slice (some ⟨B, 0, none⟩) 32 32) HL) ∧ Below u.heap.size u w' := fun kv v u h0 h1 h2 => by
        obtain ⟨a, cap, hv, _⟩ := id h0
        subst hv
        have hz : SL.size = 32 := by rw [hSL, size_of_list]; exact shaL_length _
        have := kMac_any a cap SL v [s] u (by omega) h0 h1 h2.1 (by rw [hfl1]; omega) (by simp)
        have e : hmacL SL.data.toList s.data.toList = hmacL LG.data.toList s.data.toList := by
          unfold hmacL
          rw [show SL.data.toList = shaL LG.data.toList by rw [hSL], keyB_long (by omega)]
        rw [hfl1, e, ← hHL] at this; exact this
      have hSumL : ∀ v u, IsSl u v [LG] → KTab u → Calls Tryd.prog 10 #[v] u fun e w' => (∃ B, e = .returned (.slice (some ⟨B, 0, none⟩) 32 32) ∧ u.heap.size ≤ B ∧ IsBytes w' (.slice (some ⟨B, 0, none⟩) 32 32) SL) ∧ Below u.heap.size u w' := fun v u h1 h2 => by
        have := kSum_any v [LG] u h1 h2 (by rw [hflL]; omega) (by simp)
        rw [hflL, ← hSL] at this; exact this
      have hSumE := fun u (h : KTab u) => kSum_any (.slice none 0 0) [] u ⟨none, 0, rfl, .inl rfl⟩ h (by simp [flatB]) (by simp)
      clear hSL hHL hLG hLz hLl ho8 hb8 hb6 ho6 hg6 hT6 HU
      go_wp2_with fail
      refine free_walk (Sem := semPd x cx s LG SL HL a8 c8) rfl (n := 88) (by kernel_rfl) rfl (by kernel_rfl) ?_ ?_ ?_
      · intro i v u u' h hb
        match i, h with
        | 0, h => exact h
        | 1, h => exact h
        | 2, h => exact IsSl.later h hb
        | 3, h => exact IsBytes.later h hb
        | 4, h => exact h
        | 5, h => exact h
        | 6, h => exact IsSl.later h hb
        | 7, h => exact IsBytes.later h hb
        | 8, h => exact h
        | 9, h => exact IsSl.later h hb
        | 10, h => exact IsBytes.later h hb
        | 11, h => exact h
        | 12, h => exact h
        | 13, h => exact h
        | 14, h => exact h
        | 15, h => exact h
        | 16, h => exact h
        | 17, h => exact h
        | 18, h => exact h
        | _ + 19, _ => exact trivial
      · intro i o a u ho hF hbu
        match i, ho, hF with
        | 0, ho, hF =>
          obtain rfl := Option.some.inj ho
          have h8 : a.tmps[8]? = some (.slice a8 LG.size c8) := (hF.out 8 rfl).trans rfl
          refine free_step rfl (by rfl) (fun K' hK => ?_)
          go_simp
          exact hK.out _ _ rfl (Below.refl _ _)
        | 1, ho, hF =>
          obtain rfl := Option.some.inj ho
          have h0 : a.tmps[0]? = some (.slice x s.size cx) := (hF.out 0 rfl).trans rfl
          refine free_step rfl (by rfl) (fun K' hK => ?_)
          go_simp
          exact hK.out _ _ rfl (Below.refl _ _)
        | 2, ho, hF =>
          obtain rfl := Option.some.inj ho
          obtain ⟨v71, h71, s71⟩ := hF.dep 1 71 rfl rfl
          obtain rfl : v71 = .slice x s.size cx := s71
          refine free_step rfl (by rfl) (fun K' hK => ?_)
          go_simp
          exact hK.out _ _ (IsSl.one (HV.out u hbu).2.1) ((Below.refl _ u).alloc (Nat.le_refl _) _)
        | 3, ho, hF =>
          obtain rfl := Option.some.inj ho
          obtain ⟨v70, h70, s70⟩ := hF.dep 0 70 rfl rfl
          obtain rfl : v70 = .slice a8 LG.size c8 := s70
          obtain ⟨v72, h72, s72⟩ := hF.dep 2 72 rfl rfl
          replace s72 : IsSl u v72 [s] := s72
          refine free_step rfl (by rfl) (fun K' hK => ?_)
          go_wp2_with fail
          refine (hMacL _ u s72 (HV.out u hbu)).mono ?_
          rintro e u' ⟨⟨B, rfl, _, hI⟩, hb⟩
          go_simp
          exact hK.out _ _ hI hb
        | 4, ho, hF =>
          obtain rfl := Option.some.inj ho
          obtain ⟨v73, h73, s73⟩ := hF.dep 3 73 rfl rfl
          replace s73 : IsBytes u v73 HL := s73
          have hcv := IsBytes.convert s73
          refine free_step rfl (by rfl) (fun K' hK => ?_)
          go_simp
          exact hK.out _ _ rfl (Below.refl _ _)
        | 5, ho, hF =>
          obtain rfl := Option.some.inj ho
          have h8 : a.tmps[8]? = some (.slice a8 LG.size c8) := (hF.out 8 rfl).trans rfl
          refine free_step rfl (by rfl) (fun K' hK => ?_)
          go_simp
          exact hK.out _ _ rfl (Below.refl _ _)
        | 6, ho, hF =>
          obtain rfl := Option.some.inj ho
          obtain ⟨v75, h75, s75⟩ := hF.dep 5 75 rfl rfl
          obtain rfl : v75 = .slice a8 LG.size c8 := s75
          refine free_step rfl (by rfl) (fun K' hK => ?_)
          go_simp
          exact hK.out _ _ (IsSl.one (HV.out u hbu).2.2) ((Below.refl _ u).alloc (Nat.le_refl _) _)
        | 7, ho, hF =>
          obtain rfl := Option.some.inj ho
          obtain ⟨v76, h76, s76⟩ := hF.dep 6 76 rfl rfl
          replace s76 : IsSl u v76 [LG] := s76
          refine free_step rfl (by rfl) (fun K' hK => ?_)
          go_wp2_with fail
          refine (hSumL _ u s76 (HV.out u hbu).1).mono ?_
          rintro e u' ⟨⟨B, rfl, _, hI⟩, hb⟩
          go_simp
          exact hK.out _ _ hI hb
        | 8, ho, hF =>
          obtain rfl := Option.some.inj ho
          have h0 : a.tmps[0]? = some (.slice x s.size cx) := (hF.out 0 rfl).trans rfl
          refine free_step rfl (by rfl) (fun K' hK => ?_)
          go_simp
          exact hK.out _ _ rfl (Below.refl _ _)
        | 9, ho, hF =>
          obtain rfl := Option.some.inj ho
          obtain ⟨v78, h78, s78⟩ := hF.dep 8 78 rfl rfl
          obtain rfl : v78 = .slice x s.size cx := s78
          refine free_step rfl (by rfl) (fun K' hK => ?_)
          go_simp
          exact hK.out _ _ (IsSl.one (HV.out u hbu).2.1) ((Below.refl _ u).alloc (Nat.le_refl _) _)
        | 10, ho, hF =>
          obtain rfl := Option.some.inj ho
          obtain ⟨v77, h77, s77⟩ := hF.dep 7 77 rfl rfl
          replace s77 : IsBytes u v77 SL := s77
          obtain ⟨v79, h79, s79⟩ := hF.dep 9 79 rfl rfl
          replace s79 : IsSl u v79 [s] := s79
          refine free_step rfl (by rfl) (fun K' hK => ?_)
          go_wp2_with fail
          refine (hMacM _ _ u s77 s79 (HV.out u hbu)).mono ?_
          rintro e u' ⟨⟨B, rfl, _, hI⟩, hb⟩
          go_simp
          exact hK.out _ _ hI hb
        | 11, ho, hF =>
          obtain rfl := Option.some.inj ho
          obtain ⟨v80, h80, s80⟩ := hF.dep 10 80 rfl rfl
          replace s80 : IsBytes u v80 HL := s80
          have hcv := IsBytes.convert s80
          refine free_step rfl (by rfl) (fun K' hK => ?_)
          go_simp
          exact hK.out _ _ rfl (Below.refl _ _)
        | 12, ho, hF =>
          obtain rfl := Option.some.inj ho
          obtain ⟨v74, h74, s74⟩ := hF.dep 4 74 rfl rfl
          obtain rfl : v74 = .string HL := s74
          obtain ⟨v81, h81, s81⟩ := hF.dep 11 81 rfl rfl
          obtain rfl : v81 = .string HL := s81
          have tS : (HL.toList == HL.toList) = true := by simp
          refine free_step rfl (by rfl) (fun K' hK => ?_)
          go_simp
          exact hK.out _ _ rfl (Below.refl _ _)
        | 13, ho, hF =>
          obtain rfl := Option.some.inj ho
          obtain ⟨v82, h82, s82⟩ := hF.dep 12 82 rfl rfl
          obtain rfl : v82 = .bool true := s82
          refine free_step rfl (by rfl) (fun K' hK => ?_)
          go_simp
          exact hK.out _ _ rfl (Below.refl _ _)
        | 14, ho, hF =>
          obtain rfl := Option.some.inj ho
          obtain ⟨v83, h83, s83⟩ := hF.dep 13 83 rfl rfl
          obtain rfl : v83 = .bool true := s83
          refine free_step rfl (by show (yielded _ a.tmps 13 == some true) = true; unfold yielded; simp [h83]) (fun K' hK => ?_)
          go_wp2_with fail
          refine (hSumE u (HV.out u hbu).1).mono ?_
          rintro e u' ⟨⟨B, rfl, _, hI⟩, hb⟩
          go_simp
          exact hK.out _ _ ⟨_, rfl⟩ hb
        | 15, ho, hF =>
          obtain rfl := Option.some.inj ho
          obtain ⟨v84, h84, s84⟩ := hF.dep 14 84 rfl rfl
          replace s84 : ∃ B, v84 = .slice (some ⟨B, 0, none⟩) 32 32 := s84
          obtain ⟨v83, h83, s83⟩ := hF.dep 13 83 rfl rfl
          obtain rfl : v83 = .bool true := s83
          refine free_step rfl (by show (yielded _ a.tmps 13 == some true) = true; unfold yielded; simp [h83]) (fun K' hK => ?_)
          obtain ⟨B, rfl⟩ := s84
          go_simp
          exact hK.out _ _ rfl (Below.refl _ _)
        | 16, ho, hF =>
          obtain rfl := Option.some.inj ho
          obtain ⟨v85, h85, s85⟩ := hF.dep 15 85 rfl rfl
          obtain rfl : v85 = .int .i64 32 := s85
          obtain ⟨v83, h83, s83⟩ := hF.dep 13 83 rfl rfl
          obtain rfl : v83 = .bool true := s83
          refine free_step rfl (by show (yielded _ a.tmps 13 == some true) = true; unfold yielded; simp [h83]) (fun K' hK => ?_)
          go_simp
          exact hK.out _ _ rfl (Below.refl _ _)
        | 17, ho, hF =>
          obtain rfl := Option.some.inj ho
          obtain ⟨v83, h83, s83⟩ := hF.dep 13 83 rfl rfl
          obtain rfl : v83 = .bool true := s83
          obtain ⟨v86, h86, s86⟩ := hF.dep 16 86 rfl rfl
          obtain rfl : v86 = .bool true := s86
          refine free_step rfl (by rfl) (fun K' hK => ?_)
          go_simp
          exact hK.out _ _ rfl (Below.refl _ _)
        | 18, ho, hF =>
          obtain rfl := Option.some.inj ho
          obtain ⟨v87, h87, s87⟩ := hF.dep 17 87 rfl rfl
          obtain rfl : v87 = .bool true := s87
          refine free_step rfl (by rfl) (fun K' hK => ?_)
          go_simp
          exact hK.out _ _ rfl (Below.refl _ _)
        | n + 19, ho, _ => exact absurd (Array.getElem?_eq_some_iff.1 ho).1 (by show ¬ n + 19 < 19; omega)
      · intro vs u hS hbu
        have e18 : vs 18 = .bool true := hS 18 6 rfl
        simp only [putFrom, Act.put, List.setIfInBounds_toArray, List.set_cons_succ, List.set_cons_zero, Nat.reduceAdd]
        rw [e18]
        clear hS e18
        generalize vs 0 = z0
        generalize vs 1 = z1
        generalize vs 2 = z2
        generalize vs 3 = z3
        generalize vs 4 = z4
        generalize vs 5 = z5
        generalize vs 6 = z6
        generalize vs 7 = z7
        generalize vs 8 = z8
        generalize vs 9 = z9
        generalize vs 10 = z10
        generalize vs 11 = z11
        generalize vs 12 = z12
        generalize vs 13 = z13
        generalize vs 14 = z14
        generalize vs 15 = z15
        generalize vs 16 = z16
        generalize vs 17 = z17
        go_wp2_with fail
        go_ret
        exact ⟨rfl, HB.out.trans (hbu.mono (by have := HB.out.size; exact this))⟩
      
  · by_cases hs5 : (500 : Int) < (s.size : Int)
    · go_enter Tryd.func7, Tryd.ntmps7
      go_wp2_with fail
      refine (lkAwake_any w hKT).mono ?_
      rintro e w1 ⟨rfl, hb1⟩
      go_wp2_with fail
      refine (lkAwake_any w1 (hKT.later hb1)).mono ?_
      rintro e w2 ⟨rfl, hb2⟩
      go_wp2_with fail
      go_ret
      exact ⟨rfl, below2 hb1 hb2⟩
    · have hs6 : (300 : Int) < (t.size : Int) := by omega
      go_enter Tryd.func7, Tryd.ntmps7
      go_wp2_with fail
      refine (lkAwake_any w hKT).mono ?_
      rintro e w1 ⟨rfl, hb1⟩
      go_wp2_with fail
      refine (lkAwake_any w1 (hKT.later hb1)).mono ?_
      rintro e w2 ⟨rfl, hb2⟩
      go_wp2_with fail
      go_ret
      exact ⟨rfl, below2 hb1 hb2⟩
end Go.Proofs.YtgehgcnaoapbbaaDoor
