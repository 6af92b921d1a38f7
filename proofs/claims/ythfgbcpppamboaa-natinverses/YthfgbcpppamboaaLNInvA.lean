/-
  Inverse by less than 2.
-/
import Derived.Test.YthfgbcpppamboaaLNFact
namespace Go.Proofs.Ythfgbcpppamboaa
open Go.RowKit Ch
set_option maxRecDepth 100000

set_option maxHeartbeats 2000000 in
theorem nInverse_arg (x y : Option Addr) (cx cy : Nat) (s t : ByteArray) (w : World) (hS : IsBytes w (.slice x s.size cx) s) (hT : IsBytes w (.slice y t.size cy) t) (hs : s.size ≤ 1024) (ht : t.size ≤ 1024) (h2 : numB t.data.toList < 2) :
    Calls Try.prog 29 #[.slice x s.size cx, .slice y t.size cy] w fun e w' => e = .returned (.tuple #[.slice none 0 0, .int .i64 2]) ∧ Below w.heap.size w w' := by
  have hSl := IsSl.two hS hT
  have hb0 : Below w.heap.size w (w.alloc (.cells #[.slice x s.size cx, .slice y t.size cy] 22)) := (Below.refl _ w).alloc (Nat.le_refl _) _
  have hL := nAnyLong_any _ _ _ hSl (by simp)
  have hlo : longAny [s, t] = false := by simp [longAny]; omega
  rw [hlo] at hL
  generalize hW : w.alloc (.cells #[.slice x s.size cx, .slice y t.size cy] 22) = W0 at *
  obtain ⟨W1, hW1⟩ : ∃ u, W0.alloc (.cells #[.int .u8 2] 5) = u := ⟨_, rfl⟩
  have hb1 : Below W0.heap.size W0 W1 := by rw [← hW1]; exact (Below.refl _ W0).alloc (Nat.le_refl _) _
  have hC := show Calls Try.prog 19 #[.slice y t.size cy, .slice (some ⟨W0.heap.size, 0, none⟩) 1 1] W1 _ from nCmp_any y _ cy 1 t ⟨#[2]⟩ W1 ((hT.later hb0).later hb1) (by rw [← hW1]; exact isB2 W0) (by omega) (by decide)
  have hc0 : cmpL t.data.toList [2] < 0 := (cmp_num t.data.toList [2]).1.2 (by have : numB [2] = 2 := by decide
                                                                               omega)
  generalize cmpL t.data.toList [2] = cc at *
  have HB := show Hid (Below w.heap.size w W1) from hb0.trans (hb1.mono hb0.size)
  clear hS hT hb0 hb1 hSl hlo h2
  go_enter Try.func29, Try.ntmps29
  go_wp2_with fail
  refine hL.mono ?_
  rintro e w1 ⟨rfl, rfl⟩
  clear hL hW
  go_wp2_with fail
  refine hC.mono ?_
  rintro e w2 ⟨rfl, rfl⟩
  clear hC
  go_wp2_with fail
  go_ret2
  exact ⟨rfl, HB.out⟩
theorem isD_lit (w : World) (k : Nat) (hk : 0 < k) (hk2 : k < 256) : IsD 1 (w.alloc (.cells #[.int .i64 (k : Int)] 3)) (.slice (some ⟨w.heap.size, 0, none⟩) 1 1) k := by
  refine ⟨some ⟨w.heap.size, 0, none⟩, 1, [k], rfl, own_n (own_oneN RI w k), by intro z hz; simp at hz; omega, ?_, by simp [numD], by simp⟩
  have := trimL_stop (d := k) (by omega) []
  exact this
/-- The first byte of a number isn't nought. -/
theorem bare_first {S : ByteArray} (h : bareL S.data.toList = S.data.toList) (h0 : S.size ≠ 0) : byte S 0 ≠ 0 := by
  rw [byte_list]
  have hl := len_eq S
  cases hS : S.data.toList with
  | nil => rw [hS] at hl; simp at hl; omega
  | cons a l =>
    rw [hS] at h
    simp only [List.getElem?_cons_zero, Option.getD_some]
    intro h1
    have h2 : a = 0 := by
      apply UInt8.toNat_inj.1
      exact h1
    subst h2
    rw [bareL_zero] at h
    have h3 : (bareL l).length ≤ l.length := (List.dropWhile_sublist _).length_le
    rw [h] at h3
    simp at h3
    omega
end Go.Proofs.Ythfgbcpppamboaa
