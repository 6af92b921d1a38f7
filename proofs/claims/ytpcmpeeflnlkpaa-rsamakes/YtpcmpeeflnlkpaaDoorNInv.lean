/-
  Package nat: Inverse.
-/
import Derived.Test.YtpcmpeeflnlkpaaDoorNSubEtc
import Derived.Test.YtpcmpeeflnlkpaaDoorHFreeTEtc
namespace Go.Proofs.YtpcmpeeflnlkpaaDoor
open Go.RowKit Ch
set_option maxRecDepth 100000

theorem IsW.lt {n : Nat} {w : World} {v : Value} {N : Nat} (h : IsW n w v N) : N < 18446744073709551616 ^ n := by
  obtain ⟨y, c, L, h1, h2, h3, h4, h5, h6⟩ := h
  rw [← h5]
  exact Nat.lt_of_lt_of_le (numW_lt h3) (Nat.pow_le_pow_right (by decide) h6)
/-- Where Inverse stands. -/
def InvSt (m a p1 p2 p3 : Nat) (A B : Nat) (u : World) : Prop := ∃ s f neg ys ls cs gf, (EuSt m a A B f s neg ∧ f < m) ∧ u.heap[p1]? = some (.cells #[.slice ys ls cs] 61 (0, 0)) ∧ u.heap[p2]? = some (.cells #[gf] 61 (0, 0)) ∧ u.heap[p3]? = some (.cells #[.bool neg] 4 (0, 0)) ∧ IsW 128 u (.slice ys ls cs) s ∧ IsW 128 u gf f
theorem InvSt.later {m a p1 p2 p3 A B : Nat} {u u' : World} (h : InvSt m a p1 p2 p3 A B u) (hb : Below u.heap.size u u') : InvSt m a p1 p2 p3 A B u' := by
  obtain ⟨s, f, neg, ys, ls, cs, gf, h1, h2, h3, h4, h5, h6⟩ := h
  exact ⟨s, f, neg, ys, ls, cs, gf, h1, (hb.block p1 (block_lt h2)).trans h2, (hb.block p2 (block_lt h3)).trans h3, (hb.block p3 (block_lt h4)).trans h4, h5.later hb, h6.later hb⟩
theorem InvSt.box {m a p1 p2 p3 A B : Nat} {u : World} (h : InvSt m a p1 p2 p3 A B u) : ∀ p ∈ [p1, p2, p3], BoxAt u p := by
  obtain ⟨s, f, neg, ys, ls, cs, gf, h1, h2, h3, h4, h5, h6⟩ := h
  intro p hp
  simp only [List.mem_cons, List.not_mem_nil, or_false] at hp
  rcases hp with rfl | rfl | rfl
  · exact ⟨_, _, h2, h5.noInt⟩
  · exact ⟨_, _, h3, h6.noInt⟩
  · exact ⟨_, _, h4, fun k z h => by cases h⟩
theorem invSt_step {m a p1 p2 p3 : Nat} (hm2 : 2 ≤ m) (hm : m < 18446744073709551616 ^ 128) (h12 : p1 ≠ p2) (h31 : p3 ≠ p1) (h32 : p3 ≠ p2) (A B : Nat) (u : World) (v : Value) (h : InvSt m a p1 p2 p3 A B u) (hB : B ≠ 0) (hq : IsW 128 u v (A / B)) :
    Calls Tryd.prog 50 (#[v] ++ #[.pointer (some ⟨p1, 0, none⟩), .pointer (some ⟨p2, 0, none⟩), .pointer (some ⟨p3, 0, none⟩)]) u fun e u' => e = .returned (.tuple #[]) ∧ InvSt m a p1 p2 p3 B (A % B) u' ∧ KeptX [p1, p2, p3] u u' := by
  have hbx := h.box
  obtain ⟨s, f, neg, ys, ls, cs, gf, h1, h2, h3, h4, h5, h6⟩ := h
  refine (nInvS_any p1 p2 p3 v gf ys ls cs (A / B) s f neg u h12 h31 h32 h2 h3 h4 hq h5 h6).mono ?_
  rintro e u' ⟨rfl, ⟨x, k1, k2⟩, k3, k4, k5⟩
  refine ⟨rfl, ?_, k5⟩
  have hE := euSt_step h1.1 hB
  have hsm := euSt_small hm2 h1.1 hB
  have hle : f + A / B * s ≤ m := by
    have h7 := hE.1
    have h8 : (f + A / B * s) * 1 ≤ (f + A / B * s) * B := Nat.mul_le_mul_left _ (by omega)
    omega
  have k6 := k2.narrow (k := 128) (by omega)
  obtain ⟨y, l, c, rfl, _, _⟩ := id k6.shape
  exact ⟨_, _, _, _, _, _, _, ⟨hE, hsm⟩, k1, k3, k4, k6, h5.kept k5 hbx⟩
theorem isB2 (w : World) : IsBytes (w.alloc (.cells #[.int .u8 2] 5)) (.slice (some ⟨w.heap.size, 0, none⟩) 1 1) ⟨#[2]⟩ := by
  refine ⟨_, 1, rfl, by decide, by unfold maxLen; decide, .inr ⟨_, rfl, .inr ⟨w.heap.size, 0, rfl, by simp, fun i hi => ?_⟩⟩⟩
  obtain rfl : i = 0 := by
    have h1 : (⟨#[2]⟩ : ByteArray).size = 1 := rfl
    omega
  exact block_cell 0 (heap_push_at w _) rfl
theorem isW1 (w : World) : IsW 1 (w.alloc (.cells #[.int .u64 1] 69)) (.slice (some ⟨w.heap.size, 0, none⟩) 1 1) 1 := by
  refine ⟨_, 1, [1], rfl, ⟨_, 1, rfl, by simp, by unfold maxLen; omega, .inr ⟨_, rfl, .inr ⟨w.heap.size, 0, rfl, by simp, fun i q hq => ?_⟩⟩⟩, by intro z hz; simp at hz; omega, rfl, rfl, by simp⟩
  rcases i with _ | i
  · simp only [List.getElem?_cons_zero, Option.some.injEq] at hq
    subst hq
    exact block_cell 0 (heap_push_at w _) rfl
  · cases hq
theorem inv_boxes (w : World) (o0 o1 o2 o3 : Obj) : ((((w.alloc o0).alloc o1).alloc o2).alloc o3).heap[w.heap.size + 1]? = some o1 ∧ ((((w.alloc o0).alloc o1).alloc o2).alloc o3).heap[w.heap.size + 1 + 1]? = some o2 ∧ ((((w.alloc o0).alloc o1).alloc o2).alloc o3).heap[w.heap.size + 1 + 1 + 1]? = some o3 ∧ Below (w.alloc o0).heap.size (w.alloc o0) ((((w.alloc o0).alloc o1).alloc o2).alloc o3) := by
  have hb1 : Below (w.alloc o0).heap.size (w.alloc o0) ((w.alloc o0).alloc o1) := (Below.refl _ _).alloc (Nat.le_refl _) _
  have hb2 : Below ((w.alloc o0).alloc o1).heap.size ((w.alloc o0).alloc o1) (((w.alloc o0).alloc o1).alloc o2) := (Below.refl _ _).alloc (Nat.le_refl _) _
  have hb3 : Below (((w.alloc o0).alloc o1).alloc o2).heap.size (((w.alloc o0).alloc o1).alloc o2) ((((w.alloc o0).alloc o1).alloc o2).alloc o3) := (Below.refl _ _).alloc (Nat.le_refl _) _
  have e0 : (w.alloc o0).heap.size = w.heap.size + 1 := by simp
  have e1 : ((w.alloc o0).alloc o1).heap.size = w.heap.size + 1 + 1 := by simp
  have e2 : (((w.alloc o0).alloc o1).alloc o2).heap.size = w.heap.size + 1 + 1 + 1 := by simp
  refine ⟨?_, ?_, ?_, hb1.trans ((hb2.trans (hb3.mono hb2.size)).mono hb1.size)⟩
  · rw [hb3.block _ (by omega), hb2.block _ (by omega), ← e0]
    exact heap_push_at _ _
  · rw [hb3.block _ (by omega), ← e1]
    exact heap_push_at _ _
  · rw [← e2]
    exact heap_push_at _ _
theorem IsW.one {n : Nat} {w : World} {v : Value} {N : Nat} (h : IsW n w v N) : ∃ y l c, v = .slice y l c ∧ (N = 1 → l = 1) ∧ (l = 1 → ∃ b o, y = some ⟨b, o, none⟩ ∧ w.cell? ⟨b, o, none⟩ = some (.int .u64 (N : Int))) := by
  obtain ⟨y, c, L, rfl, h2, h3, h4, h5, h6⟩ := h
  refine ⟨y, L.length, c, rfl, fun hN => ?_, fun hl => ?_⟩
  · by_cases h0 : L = []
    · subst h0
      rw [hN] at h5
      cases h5
    · have h7 := tidy_ge h4 h0
      have h8 : 0 < L.length := List.length_pos_iff.2 h0
      rw [h5, hN] at h7
      by_cases h9 : L.length = 1
      · exact h9
      · have h10 : 18446744073709551616 ^ 1 ≤ 18446744073709551616 ^ (L.length - 1) := Nat.pow_le_pow_right (by decide) (by omega)
        omega
  · obtain ⟨z, rfl⟩ : ∃ z, L = [z] := List.length_eq_one_iff.1 hl
    obtain ⟨_, b, o, hy, _, gx⟩ := IsN.cellAt h2 (i := 0) (n := z) rfl
    refine ⟨b, o, hy, ?_⟩
    have h7 : z = N := by
      rw [← h5]
      simp [numW]
    rw [← h7]
    exact gx
/-- Inverse's answer: a number that a is one by. -/
def InvOk (w w' : World) (m a : Nat) (e : Ending) : Prop := if Nat.gcd a m = 1 then ∃ K, NumOk w w' K e ∧ K < m ∧ K * a % m = 1 else e = .returned (.tuple #[.slice none 0 0, .int .i64 20]) ∧ Below w.heap.size w w'
set_option maxHeartbeats 2000000 in
theorem nInverse_any (x y : Option Addr) (cx cy : Nat) (s t : ByteArray) (w : World) (hS : IsBytes w (.slice x s.size cx) s) (hT : IsBytes w (.slice y t.size cy) t) (hs : s.size ≤ 1024) (ht : t.size ≤ 1024) (h2 : 2 ≤ numB t.data.toList) :
    Calls Tryd.prog 26 #[.slice x s.size cx, .slice y t.size cy] w fun e w' => InvOk w w' (numB t.data.toList) (numB s.data.toList) e := by
  have hSl := IsSl.two hS hT
  have hb0 : Below w.heap.size w (w.alloc (.cells #[.slice x s.size cx, .slice y t.size cy] 22)) := (Below.refl _ w).alloc (Nat.le_refl _) _
  have hL := nAnyLong_any _ _ _ hSl (by simp)
  have hlo : longAny [s, t] = false := by simp [longAny]; omega
  rw [hlo] at hL
  generalize hW : w.alloc (.cells #[.slice x s.size cx, .slice y t.size cy] 22) = W0 at *
  obtain ⟨W1, hW1⟩ : ∃ u, W0.alloc (.cells #[.int .u8 2] 5) = u := ⟨_, rfl⟩
  have hb1 : Below W0.heap.size W0 W1 := by rw [← hW1]; exact (Below.refl _ W0).alloc (Nat.le_refl _) _
  have hC := show Calls Tryd.prog 32 #[.slice y t.size cy, .slice (some ⟨W0.heap.size, 0, none⟩) 1 1] W1 _ from nCmp_any y _ cy 1 t ⟨#[2]⟩ W1 ((hT.later hb0).later hb1) (by rw [← hW1]; exact isB2 W0) (by omega) (by decide)
  have hc0 : ¬ cmpL t.data.toList [2] < 0 := fun h => absurd ((cmp_num t.data.toList [2]).1.1 h) (by have : numB [2] = 2 := by decide
                                                                                                     omega)
  generalize cmpL t.data.toList [2] = cc at *
  obtain ⟨M, hM⟩ : ∃ x, numB t.data.toList = x := ⟨_, rfl⟩
  obtain ⟨A, hA⟩ : ∃ x, numB s.data.toList = x := ⟨_, rfl⟩
  have HN := show Hid (numB t.data.toList = M ∧ numB s.data.toList = A) from ⟨hM, hA⟩
  rw [hM] at h2 ⊢
  rw [hA]
  have HS := show Hid (IsBytes W1 (.slice x s.size cx) s ∧ IsBytes W1 (.slice y t.size cy) t ∧ Below w.heap.size w W1) from ⟨(hS.later hb0).later hb1, (hT.later hb0).later hb1, hb0.trans (hb1.mono hb0.size)⟩
  have hmf : ∀ (fn : Fn) (first cap : Array Value) (w : World), (Instr.makeFunc fn first cap).run Tryd.prog w = .ok (.func fn first cap) w := fun _ _ _ _ => rfl
  have hM0 : M ≠ 0 := by omega
  clear hS hT hb0 hb1 hSl hlo hM hA
  go_enter Tryd.func26, Tryd.ntmps26
  go_wp2_with fail
  refine hL.mono ?_
  rintro e w1 ⟨rfl, rfl⟩
  clear hL hW
  go_wp2_with fail
  refine hC.mono ?_
  rintro e w2 ⟨rfl, rfl⟩
  clear hC
  go_wp2_with fail
  refine (wFrom y cy t w2 HS.out.2.1 ht).mono ?_
  rintro e w3 ⟨⟨v3, rfl, h3⟩, hb3⟩
  rw [HN.out.1] at h3
  go_wp2_with fail
  refine (wFrom x cx s w3 (HS.out.1.later hb3) hs).mono ?_
  rintro e w4 ⟨⟨v4, rfl, h4⟩, hb4⟩
  rw [HN.out.2] at h4
  go_wp2_with fail
  refine (wDivide 128 128 v4 v3 A M w4 h4 (h3.later hb4) (by omega) hM0).mono ?_
  rintro e w5 ⟨v5, v6, rfl, _, h6, hb5⟩
  go_wp2_with fail
  obtain ⟨k1, k2, k3, k4⟩ := inv_boxes w5 (.cells #[.int .u64 1] 69) (.cells #[.slice none 0 0] 61) (.cells #[.slice (some ⟨w5.heap.size, 0, none⟩) 1 1] 61) (.cells #[.bool true] 4)
  have hone := (isW1 w5).later k4
  have hb5a : Below w5.heap.size w5 (w5.alloc (.cells #[.int .u64 1] 69)) := (Below.refl _ w5).alloc (Nat.le_refl _) _
  have hb56 := hb5a.trans (k4.mono hb5a.size)
  generalize (((w5.alloc (.cells #[.int .u64 1] 69)).alloc (.cells #[.slice none 0 0] 61)).alloc (.cells #[.slice (some ⟨w5.heap.size, 0, none⟩) 1 1] 61)).alloc (.cells #[.bool true] 4) = w6 at *
  have hnil : IsW 1 w6 (.slice none 0 0) 0 := ⟨none, 0, [], rfl, ⟨none, 0, rfl, by simp, by unfold maxLen; omega, .inl ⟨rfl, rfl, rfl⟩⟩, fun z hz => (List.not_mem_nil hz).elim, by unfold Tidy; rfl, rfl, by simp⟩
  have hmW : M < 18446744073709551616 ^ 128 := h3.lt
  have hbw5 : Below w.heap.size w w5 := HS.out.2.2.trans ((hb3.trans ((hb4.trans (hb5.mono hb4.size)).mono hb3.size)).mono HS.out.2.2.size)
  have hsz := hbw5.size
  have h36 : IsW 128 w6 v3 M := ((h3.later hb4).later hb5).later hb56
  have h66 := h6.later hb56
  have hbw6 := hbw5.trans (hb56.mono hbw5.size)
  obtain ⟨n, hn⟩ : ∃ n, w5.heap.size = n := ⟨_, rfl⟩
  rw [hn] at k1 k2 k3 hone hsz ⊢
  have hSt : InvSt M A (n + 1 + 1) (n + 1) (n + 1 + 1 + 1) M (A % M) w6 := ⟨1, 0, true, _, _, _, _, ⟨euSt_start h2, by omega⟩, k2, k1, k3, hone.more (by omega), hnil.more (by omega)⟩
  have hE := nEuclid_any 50 #[.pointer (some ⟨n + 1 + 1, 0, none⟩), .pointer (some ⟨n + 1, 0, none⟩), .pointer (some ⟨n + 1 + 1 + 1, 0, none⟩)] [n + 1 + 1, n + 1, n + 1 + 1 + 1] (InvSt M A (n + 1 + 1) (n + 1) (n + 1 + 1 + 1)) 128 (by omega) (enters_of Tryd.func50 (by kernel_rfl) rfl) (fun B C u v h hB hq => invSt_step h2 hmW (by omega) (by omega) (by omega) B C u v h hB hq) (fun _ _ _ _ h hb => h.later hb) (fun _ _ _ h => h.box) v3 v6 _ _ w6 h36 h66 hSt
  have hbox6 := hSt.box
  rw [show Nat.gcd M (A % M) = Nat.gcd A M by rw [Nat.gcd_comm A M, Nat.gcd_rec M A, Nat.gcd_comm]] at hE
  have HW6 := show Hid (IsW 128 w6 v3 M ∧ Below w.heap.size w w6 ∧ w.heap.size ≤ n ∧ ∀ p ∈ [n + 1 + 1, n + 1, n + 1 + 1 + 1], BoxAt w6 p) from ⟨h36, hbw6, hsz, hbox6⟩
  clear k1 k2 k3 k4 hone hb5a hb56 hnil hmW hbw5 hsz h36 h66 hbw6 hSt hbox6 h3 h4 h6 hb3 hb4 hb5 hn hW1
  refine hE.mono ?_
  rintro e w7 ⟨⟨v7, rfl, h7⟩, hS7, hk7⟩
  clear hE
  have hbw7 : Below w.heap.size w w7 := HW6.out.2.1.trans (hk7.below HW6.out.2.1.size (fun p hp => by
    have := HW6.out.2.2.1
    simp only [List.mem_cons, List.not_mem_nil, or_false] at hp
    omega))
  have h37 : IsW 128 w7 v3 M := HW6.out.1.kept hk7 HW6.out.2.2.2
  obtain ⟨y7, l7, c7, rfl, hl1, hl2⟩ := h7.one
  have HW7 := show Hid (IsW 128 w7 v3 M ∧ Below w.heap.size w w7) from ⟨h37, hbw7⟩
  generalize hG : Nat.gcd A M = g at *
  obtain ⟨s7, f7, neg, ys, ls, cs, gf, hE7, hB1, hB2, hB3, hI1, hI2⟩ := hS7
  have HE7 := show Hid ((EuSt M A g 0 f7 s7 neg ∧ f7 < M) ∧ IsW 128 w7 gf f7 ∧ Nat.gcd A M = g) from ⟨hE7, hI2, hG⟩
  have hgf := hI2.shape
  have hlow : w.heap.size ≤ n + 1 := Nat.le_succ_of_le HW6.out.2.2.1
  clear h7 h37 hbw7 hk7 hE7 hI1 hI2 hB1 hG HW6
  obtain ⟨yf, lf, cf, rfl, _, _⟩ := hgf
  have g3 := block_cell (v := .bool neg) 0 hB3 rfl
  have g2 := block_cell (v := .slice yf lf cf) 0 hB2 rfl
  have r2 := block_free 0 hB2
  have HB2 := show Hid (w7.heap[n + 1]? = some (.cells #[.slice yf lf cf] 61 (0, 0)) ∧ w.heap.size ≤ n + 1) from ⟨hB2, hlow⟩
  clear hB2 hB3 hlow
  by_cases hl : l7 = 1
  · obtain ⟨b, o, rfl, gx⟩ := hl2 hl
    subst hl
    by_cases hg : g = 1
    · subst hg
      cases neg
      · have hTo := wTo 128 (.slice yf lf cf) f7 w7 HE7.out.2.1 (by omega)
        have HQ := show Hid (Nat.gcd A M = 1 ∧ f7 < M ∧ f7 * A % M = 1) from by
          obtain ⟨⟨⟨q1, q2, q3⟩, q4⟩, _, q5⟩ := HE7.out
          simp only [Bool.false_eq_true, if_false] at q3
          exact ⟨q5, q4, inv_plus h2 q3.1⟩
        go_wp2_with fail
        refine hTo.mono ?_
        rintro e w8 ⟨⟨v8, rfl, h8⟩, hb8⟩
        clear hTo
        have HF := show Hid (InvOk w w8 M A (.returned (.tuple #[v8, .int .i64 0]))) from by
          unfold Hid InvOk
          rw [if_pos HQ.out.1]
          exact ⟨f7, numOk_mk h8 (HW7.out.2.trans (hb8.mono HW7.out.2.size)), HQ.out.2⟩
        clear h8 hb8
        go_wp2_with fail
        go_ret2
        exact HF.out
      · have hD := wDifference 128 128 v3 (.slice yf lf cf) M f7 w7 HW7.out.1 HE7.out.2.1 (by omega) (Nat.le_of_lt HE7.out.1.2)
        have HQ := show Hid (Nat.gcd A M = 1 ∧ M - f7 < M ∧ (M - f7) * A % M = 1) from by
          obtain ⟨⟨⟨q1, q2, q3⟩, q4⟩, _, q5⟩ := HE7.out
          simp only [if_true] at q3
          have q6 := inv_minus h2 (Nat.le_of_lt q4) q3.1
          refine ⟨q5, ?_, q6⟩
          have q7 : f7 ≠ 0 := by
            intro q7
            rw [q7, Nat.sub_zero, Nat.mul_mod_right] at q6
            omega
          omega
        go_wp2_with fail
        refine hD.mono ?_
        rintro e w8 ⟨⟨v8, rfl, h8⟩, hb8⟩
        clear hD
        obtain ⟨y8, l8, c8, rfl, _, _⟩ := id h8.shape
        have hk8 := (hb8.block (n + 1) (block_lt HB2.out.1)).trans HB2.out.1
        have c8a := block_cell (v := .slice yf lf cf) 0 hk8 rfl
        have r8 := block_free 0 hk8
        have hk9 := setCell_block (i := 0) (u := .slice y8 l8 c8) hk8
        have hX : BoxAt w8 (n + 1) := ⟨_, _, hk8, fun k z h => by cases h⟩
        have hK9 := keptX_set (ps := [n + 1]) (p := n + 1) (v := .slice y8 l8 c8) w8 (by simp)
        have h9 := h8.kept hK9 (fun p hp => by
          simp only [List.mem_cons, List.not_mem_nil, or_false] at hp
          rw [hp]
          exact hX)
        have hb79 : Below w.heap.size w (w8.setCell ⟨n + 1, 0, none⟩ (.slice y8 l8 c8)) := by
          have h1 := HW7.out.2.trans (hb8.mono HW7.out.2.size)
          exact h1.trans (hK9.below h1.size (fun p hp => by
            simp only [List.mem_cons, List.not_mem_nil, or_false] at hp
            rw [hp]
            exact HB2.out.2))
        generalize hw9 : w8.setCell ⟨n + 1, 0, none⟩ (.slice y8 l8 c8) = w9 at *
        have c9 := block_cell (v := .slice y8 l8 c8) 0 hk9 rfl
        have hTo := wTo 128 (.slice y8 l8 c8) _ w9 h9 (by omega)
        have HB9 := show Hid (Below w.heap.size w w9) from hb79
        clear h8 h9 hb8 hk8 hk9 hK9 hX hb79 g2 r2
        go_wp2_with fail
        refine hTo.mono ?_
        rintro e w10 ⟨⟨v10, rfl, h10⟩, hb10⟩
        clear hTo
        have HF := show Hid (InvOk w w10 M A (.returned (.tuple #[v10, .int .i64 0]))) from by
          unfold Hid InvOk
          rw [if_pos HQ.out.1]
          exact ⟨M - f7, numOk_mk h10 (HB9.out.trans (hb10.mono HB9.out.size)), HQ.out.2⟩
        clear h10 hb10
        go_wp2_with fail
        go_ret2
        exact HF.out
    · have hgI : ((g : Int) != 1) = true := by simp; omega
      have HF := show Hid (InvOk w w7 M A (.returned (.tuple #[.slice none 0 0, .int .i64 20]))) from by
        unfold Hid InvOk
        rw [if_neg (by rw [HE7.out.2.2]; exact hg)]
        exact ⟨rfl, HW7.out.2⟩
      go_wp2_with fail
      go_ret2
      exact HF.out
  · have hlI : ((l7 : Int) != 1) = true := by simp; omega
    have HF := show Hid (InvOk w w7 M A (.returned (.tuple #[.slice none 0 0, .int .i64 20]))) from by
      unfold Hid InvOk
      rw [if_neg (by rw [HE7.out.2.2]; exact fun hg => hl (hl1 hg))]
      exact ⟨rfl, HW7.out.2⟩
    go_wp2_with fail
    go_ret2
    exact HF.out
end Go.Proofs.YtpcmpeeflnlkpaaDoor
