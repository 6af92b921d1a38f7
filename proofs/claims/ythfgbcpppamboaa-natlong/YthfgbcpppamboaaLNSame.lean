/-
  Layer 6's laws: same; what a number's bytes are.
-/
import Derived.Test.YthfgbcpppamboaaNRExp
import Derived.Test.YthfgbcpppamboaaNRGcd
import Derived.Test.YthfgbcpppamboaaNKeptEtc
import Derived.Test.YthfgbcpppamboaaNInv
namespace Go.Proofs.Ythfgbcpppamboaa
open Go.RowKit Ch
set_option maxRecDepth 100000

theorem IsNum.shape {w : World} {v : Value} {N : Nat} (h : IsNum w v N) : ∃ y l c, v = .slice y l c ∧ (N = 0 → l = 0) := by
  obtain ⟨R, y, c, h1, h2, h3, h4⟩ := h
  refine ⟨y, R.length, c, h1, fun h0 => ?_⟩
  have h5 : R = [] := numB_inj h3 rfl (by rw [h4, h0]; rfl)
  rw [h5]
  rfl
theorem isNum_bytes {w : World} {v : Value} {N : Nat} {S : ByteArray} (h : IsNum w v N) (hS : bareL S.data.toList = S.data.toList) (hN : numB S.data.toList = N) : IsBytes w v S := by
  obtain ⟨R, y, c, h1, h2, h3, h4⟩ := h
  have h5 : R = S.data.toList := numB_inj h3 hS (by rw [h4, hN])
  rw [h5] at h2
  exact h2
/-- The bytes of a number. -/
theorem isNum_ex {w : World} {v : Value} {N : Nat} (h : IsNum w v N) : ∃ S : ByteArray, (bareL S.data.toList = S.data.toList ∧ numB S.data.toList = N) ∧ (∃ y c, v = .slice y S.size c) ∧ IsBytes w v S := by
  obtain ⟨R, y, c, h1, h2, h3, h4⟩ := h
  exact ⟨⟨R.toArray⟩, ⟨h3, h4⟩, ⟨y, c, by rw [h1, size_of_list]⟩, h2⟩
theorem numS_inj {S T : ByteArray} {N : Nat} (h : bareL S.data.toList = S.data.toList ∧ numB S.data.toList = N) (k : bareL T.data.toList = T.data.toList ∧ numB T.data.toList = N) : S = T := by
  have h1 := numB_inj h.1 k.1 (by rw [h.2, k.2])
  cases S with | mk a => cases T with | mk b =>
    congr 1
    exact Array.toList_inj.1 h1
theorem numS_len {S : ByteArray} {N k : Nat} (h : bareL S.data.toList = S.data.toList ∧ numB S.data.toList = N) (hN : N < 256 ^ k) : S.size ≤ k := by
  rw [← len_eq]
  by_cases h0 : S.data.toList = []
  · rw [h0]
    exact Nat.zero_le _
  · have h1 := numB_ge h.1 h0
    rw [h.2] at h1
    have h2 := (Nat.pow_lt_pow_iff_right (a := 256) (by decide)).1 (Nat.lt_of_le_of_lt h1 hN)
    omega
theorem numS_lt (S : ByteArray) : numB S.data.toList < 256 ^ S.size := by
  have := numB_lt S.data.toList
  rwa [len_eq] at this
def semLnS (y yd : Option Addr) (c ld cd : Nat) (S : ByteArray) : Nat → Value → World → Prop := fun ix v u => match ix with
  | 0 => v = .slice y S.size c
  | 1 => v = .string S
  | 2 => v = .slice yd ld cd
  | 3 => IsBytes u v S
  | 4 => v = .string S
  | 5 => v = .bool true
  | 6 => v = .bool true
  | _ => True
set_option maxHeartbeats 2000000 in
theorem lnSame_any (n N : Nat) (y : Option Addr) (c : Nat) (d : Value) (S : ByteArray) (w : World) (hS : IsBytes w (.slice y S.size c) S) (hd : IsD n w d N) (hb : bareL S.data.toList = S.data.toList ∧ numB S.data.toList = N) (hn : n ≤ 1000000) :
    Calls Try.prog 16 #[.slice y S.size c, d] w fun e w' => e = .returned (.bool true) ∧ Below w.heap.size w w' := by
  obtain ⟨yd, ld, cd, rfl, _, _⟩ := id hd.shape
  have HU := show Hid (∀ u, Below w.drew.heap.size w.drew u → IsBytes u (.slice y S.size c) S ∧ IsD n u (.slice yd ld cd) N ∧ bareL S.data.toList = S.data.toList ∧ numB S.data.toList = N) from fun u hu => by
    have h1 := below_drew (Below.refl w.heap.size w) hu
    exact ⟨hS.later h1, hd.later h1, hb.1, hb.2⟩
  have tS : (S.toList == S.toList) = true := by simp
  clear hS hd hb
  go_enter Try.func16, Try.ntmps16
  go_wp2_with fail
  refine free_walk (Sem := semLnS y yd c ld cd S) rfl (n := 11) (by kernel_rfl) rfl (by kernel_rfl) ?_ ?_ ?_
  · intro ix v u u' h hb
    match ix, h with
    | 0, h => exact h
    | 1, h => exact h
    | 2, h => exact h
    | 3, h => exact IsBytes.later h hb
    | 4, h => exact h
    | 5, h => exact h
    | 6, h => exact h
    | _ + 7, _ => exact trivial
  · intro ix o a u ho hF hbu
    match ix, ho, hF with
    | 0, ho, hF =>
      obtain rfl := Option.some.inj ho
      have h0 : a.tmps[0]? = some (.slice y S.size c) := (hF.out 0 rfl).trans rfl
      refine free_step rfl (by rfl) (fun K' hK => ?_)
      go_simp
      exact hK.out _ _ rfl (Below.refl _ _)
    | 1, ho, hF =>
      obtain rfl := Option.some.inj ho
      obtain ⟨v5, h5, s5⟩ := hF.dep 0 5 rfl rfl
      obtain rfl : v5 = .slice y S.size c := s5
      have hcv := IsBytes.convert (HU.out u hbu).1
      refine free_step rfl (by rfl) (fun K' hK => ?_)
      go_simp
      exact hK.out _ _ rfl (Below.refl _ _)
    | 2, ho, hF =>
      obtain rfl := Option.some.inj ho
      have h1 : a.tmps[1]? = some (.slice yd ld cd) := (hF.out 1 rfl).trans rfl
      refine free_step rfl (by rfl) (fun K' hK => ?_)
      go_simp
      exact hK.out _ _ rfl (Below.refl _ _)
    | 3, ho, hF =>
      obtain rfl := Option.some.inj ho
      obtain ⟨v7, h7, s7⟩ := hF.dep 2 7 rfl rfl
      obtain rfl : v7 = .slice yd ld cd := s7
      refine free_step rfl (by rfl) (fun K' hK => ?_)
      go_wp2_with fail
      refine (dBytes_any n _ N u (HU.out u hbu).2.1 hn).mono ?_
      rintro e u' ⟨⟨x, rfl, hx⟩, hb⟩
      have hx2 := isNum_bytes hx (HU.out u hbu).2.2.1 (HU.out u hbu).2.2.2
      obtain ⟨yx, cx, rfl, _⟩ := id hx2
      go_simp
      exact hK.out _ _ hx2 hb
    | 4, ho, hF =>
      obtain rfl := Option.some.inj ho
      obtain ⟨v8, h8, s8⟩ := hF.dep 3 8 rfl rfl
      replace s8 : IsBytes u v8 S := s8
      obtain ⟨yx, cx, rfl, _⟩ := id s8
      have hcv := IsBytes.convert s8
      refine free_step rfl (by rfl) (fun K' hK => ?_)
      go_simp
      exact hK.out _ _ rfl (Below.refl _ _)
    | 5, ho, hF =>
      obtain rfl := Option.some.inj ho
      obtain ⟨v6, h6, s6⟩ := hF.dep 1 6 rfl rfl
      obtain rfl : v6 = .string S := s6
      obtain ⟨v9, h9, s9⟩ := hF.dep 4 9 rfl rfl
      obtain rfl : v9 = .string S := s9
      refine free_step rfl (by rfl) (fun K' hK => ?_)
      go_simp
      exact hK.out _ _ rfl (Below.refl _ _)
    | 6, ho, hF =>
      obtain rfl := Option.some.inj ho
      obtain ⟨v10, h10, s10⟩ := hF.dep 5 10 rfl rfl
      obtain rfl : v10 = .bool true := s10
      refine free_step rfl (by rfl) (fun K' hK => ?_)
      go_simp
      exact hK.out _ _ rfl (Below.refl _ _)
    | n + 7, ho, _ => exact absurd (Array.getElem?_eq_some_iff.1 ho).1 (by show ¬ n + 7 < 7; omega)
  · intro vs u hS hbu
    have e6 : vs 6 = .bool true := hS 6 4 rfl
    simp only [putFrom, Act.put, List.setIfInBounds_toArray, List.set_cons_succ, List.set_cons_zero, Nat.reduceAdd]
    rw [e6]
    clear hS e6
    generalize vs 0 = z0
    generalize vs 1 = z1
    generalize vs 2 = z2
    generalize vs 3 = z3
    generalize vs 4 = z4
    generalize vs 5 = z5
    go_wp2_with fail
    go_ret
    exact ⟨rfl, below_drew (Below.refl _ _) hbu⟩
end Go.Proofs.Ythfgbcpppamboaa
