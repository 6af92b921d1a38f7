/-
  Package nat: Sub.
  Package nat: the closures of Exp and Gcd.
  Worlds that differ in some boxes alone. Of no layer alone.
  Package nat: euclid, with any step that keeps all but some boxes.
  Package nat: Gcd.
-/
import Derived.Test.YtpcmpeeflnlkpaaDoorNCmpIEtc
import Derived.Test.YtpcmpeeflnlkpaaDoorNTopEtc
namespace Go.Proofs.YtpcmpeeflnlkpaaDoor
open Go.RowKit Ch
set_option maxRecDepth 100000

set_option maxHeartbeats 1000000 in
theorem nSub_less (x y : Option Addr) (cx cy : Nat) (s t : ByteArray) (w : World) (hS : IsBytes w (.slice x s.size cx) s) (hT : IsBytes w (.slice y t.size cy) t) (hs : s.size ≤ 1024) (ht : t.size ≤ 1024) (hlt : numB s.data.toList < numB t.data.toList) :
    Calls Tryd.prog 47 #[.slice x s.size cx, .slice y t.size cy] w fun e w' => e = .returned (.tuple #[.slice none 0 0, .int .i64 2]) ∧ Below w.heap.size w w' := by
  have hSl := IsSl.two hS hT
  have hb0 : Below w.heap.size w (w.alloc (.cells #[.slice x s.size cx, .slice y t.size cy] 22)) := (Below.refl _ w).alloc (Nat.le_refl _) _
  have hL := nAnyLong_any _ _ _ hSl (by simp)
  have hlo : longAny [s, t] = false := by simp [longAny]; omega
  rw [hlo] at hL
  have hC := nCmp_any x y cx cy s t _ (hS.later hb0) (hT.later hb0) (by omega) (by omega)
  have hc0 := (cmp_num s.data.toList t.data.toList).1.2 hlt
  generalize hW : w.alloc (.cells #[.slice x s.size cx, .slice y t.size cy] 22) = W0 at *
  generalize cmpL s.data.toList t.data.toList = cc at *
  have HB0 := show Hid (Below w.heap.size w W0) from hb0
  clear hS hT hb0 hSl hlo hlt
  go_enter Tryd.func47, Tryd.ntmps47
  go_wp2_with fail
  refine hL.mono ?_
  rintro e w1 ⟨rfl, rfl⟩
  clear hL hW
  go_wp2_with fail
  refine hC.mono ?_
  rintro e w2 ⟨rfl, rfl⟩
  clear hC
  go_wp2_with fail
  go_ret2
  exact ⟨rfl, HB0.out⟩
set_option maxHeartbeats 1000000 in
theorem nSub_any (x y : Option Addr) (cx cy : Nat) (s t : ByteArray) (w : World) (hS : IsBytes w (.slice x s.size cx) s) (hT : IsBytes w (.slice y t.size cy) t) (hs : s.size ≤ 1024) (ht : t.size ≤ 1024) (hle : numB t.data.toList ≤ numB s.data.toList) :
    Calls Tryd.prog 47 #[.slice x s.size cx, .slice y t.size cy] w fun e w' => NumOk w w' (numB s.data.toList - numB t.data.toList) e := by
  have hSl := IsSl.two hS hT
  have hb0 : Below w.heap.size w (w.alloc (.cells #[.slice x s.size cx, .slice y t.size cy] 22)) := (Below.refl _ w).alloc (Nat.le_refl _) _
  have hL := nAnyLong_any _ _ _ hSl (by simp)
  have hlo : longAny [s, t] = false := by simp [longAny]; omega
  rw [hlo] at hL
  have hC := nCmp_any x y cx cy s t _ (hS.later hb0) (hT.later hb0) (by omega) (by omega)
  have hc0 : ¬ cmpL s.data.toList t.data.toList < 0 := fun h => absurd ((cmp_num s.data.toList t.data.toList).1.1 h) (by omega)
  generalize hW : w.alloc (.cells #[.slice x s.size cx, .slice y t.size cy] 22) = W0 at *
  generalize cmpL s.data.toList t.data.toList = cc at *
  have HS := show Hid (IsBytes W0 (.slice x s.size cx) s ∧ IsBytes W0 (.slice y t.size cy) t ∧ Below w.heap.size w W0) from ⟨hS.later hb0, hT.later hb0, hb0⟩
  clear hS hT hb0 hSl hlo
  go_enter Tryd.func47, Tryd.ntmps47
  go_wp2_with fail
  refine hL.mono ?_
  rintro e w1 ⟨rfl, rfl⟩
  clear hL hW
  go_wp2_with fail
  refine hC.mono ?_
  rintro e w2 ⟨rfl, rfl⟩
  clear hC
  go_wp2_with fail
  refine (wFrom x cx s w2 HS.out.1 hs).mono ?_
  rintro e w3 ⟨⟨v3, rfl, h3⟩, hb3⟩
  go_wp2_with fail
  refine (wFrom y cy t w3 (HS.out.2.1.later hb3) ht).mono ?_
  rintro e w4 ⟨⟨v4, rfl, h4⟩, hb4⟩
  go_wp2_with fail
  refine (wDifference 128 128 v3 v4 _ _ w4 (h3.later hb4) h4 (by omega) hle).mono ?_
  rintro e w5 ⟨⟨v5, rfl, h5⟩, hb5⟩
  go_wp2_with fail
  refine (wTo _ v5 _ w5 h5 (by omega)).mono ?_
  rintro e w6 ⟨⟨v6, rfl, h6⟩, hb6⟩
  have HB := show Hid (Below w.heap.size w w6) from HS.out.2.2.trans ((hb3.trans ((hb4.trans ((hb5.trans (hb6.mono hb5.size)).mono hb4.size)).mono hb3.size)).mono HS.out.2.2.size)
  clear h3 h4 h5 hb3 hb4 hb5 hb6
  go_wp2_with fail
  go_ret2
  exact numOk_mk h6 HB.out
end Go.Proofs.YtpcmpeeflnlkpaaDoor

namespace Go.Proofs.YtpcmpeeflnlkpaaDoor
open Go.RowKit Ch
set_option maxRecDepth 100000

set_option maxHeartbeats 1000000 in
theorem nExpR_any (n m pb : Nat) (u v : Value) (M N : Nat) (w : World) (hu : IsW n w u M) (hc : w.cell? ⟨pb, 0, none⟩ = some v) (hv : IsW m w v N) (hn : n ≤ 20000) (h0 : N ≠ 0) :
    Calls Tryd.prog 59 #[u, .pointer (some ⟨pb, 0, none⟩)] w fun e w' => (∃ x, e = .returned x ∧ IsW m w' x (M % N)) ∧ Below w.heap.size w w' := by
  have hD := wDivide n m u v M N w hu hv hn h0
  obtain ⟨y, l, c, rfl, _, _⟩ := hv.shape
  obtain ⟨y', l', c', rfl, _, _⟩ := hu.shape
  clear hu hv
  go_enter Tryd.func59, Tryd.ntmps59
  go_wp2_with fail
  refine hD.mono ?_
  rintro e w1 ⟨v1, v2, rfl, h1, h2, hb⟩
  go_wp2_with fail
  go_ret
  exact ⟨⟨_, rfl, h2⟩, hb⟩
theorem nGcdS_any (v : Value) (w : World) : Calls Tryd.prog 63 #[v] w fun e w' => e = .returned (.tuple #[]) ∧ w' = w := by
  go_enter Tryd.func63, Tryd.ntmps63
  go_wp2_with fail
  go_end0
  exact ⟨rfl, rfl⟩
end Go.Proofs.YtpcmpeeflnlkpaaDoor

namespace Go.Proofs.YtpcmpeeflnlkpaaDoor
open Go.RowKit Ch
set_option maxRecDepth 100000

/-- All blocks but these are kept. -/
structure KeptX (ps : List Nat) (w w' : World) : Prop where
  os : w'.os = w.os
  tape : w'.tape = w.tape
  output : w'.output = w.output
  size : w.heap.size ≤ w'.heap.size
  block : ∀ k, k < w.heap.size → k ∉ ps → w'.heap[k]? = w.heap[k]?
theorem KeptX.of {ps : List Nat} {w w' : World} (h : Below w.heap.size w w') : KeptX ps w w' := ⟨h.os, h.tape, h.output, h.size, fun k hk _ => h.block k hk⟩
theorem KeptX.trans {ps : List Nat} {a b c : World} (h : KeptX ps a b) (k : KeptX ps b c) : KeptX ps a c :=
  ⟨k.os.trans h.os, k.tape.trans h.tape, k.output.trans h.output, Nat.le_trans h.size k.size, fun i hi hn => (k.block i (Nat.lt_of_lt_of_le hi h.size) hn).trans (h.block i hi hn)⟩
theorem KeptX.below {ps : List Nat} {w w' : World} {B : Nat} (h : KeptX ps w w') (hB : B ≤ w.heap.size) (hp : ∀ p ∈ ps, B ≤ p) : Below B w w' :=
  ⟨h.os, h.tape, h.output, h.size, fun k hk => h.block k (by omega) (fun hm => by have := hp k hm; omega)⟩
/-- A block of one cell that is no number. -/
def BoxAt (w : World) (p : Nat) : Prop := ∃ x t, w.heap[p]? = some (.cells #[x] t (0, 0)) ∧ ∀ k z, x ≠ .int k z
theorem IsW.kept {n : Nat} {w w' : World} {v : Value} {N : Nat} {ps : List Nat} (h : IsW n w v N) (hk : KeptX ps w w') (hb : ∀ p ∈ ps, BoxAt w p) : IsW n w' v N := by
  obtain ⟨y, c, L, rfl, hI, h3, h4, h5, h6⟩ := h
  refine ⟨y, c, L, rfl, ?_, h3, h4, h5, h6⟩
  obtain ⟨a, cap, hv, hc, hm, hr⟩ := hI
  refine ⟨a, cap, hv, hc, hm, ?_⟩
  rcases hr with h1 | ⟨x, h1, h2⟩
  · exact .inl h1
  · refine .inr ⟨x, h1, ?_⟩
    rcases h2 with h2 | ⟨b, o, h2, h7, h8⟩
    · exact .inl h2
    · refine .inr ⟨b, o, h2, Nat.lt_of_lt_of_le h7 hk.size, fun i q hq => ?_⟩
      have hcell := h8 i q hq
      have hnp : b ∉ ps := by
        intro hmem
        obtain ⟨z, t, hz, hne⟩ := hb b hmem
        rw [cell_of_row w b (o + i) #[z] t (0, 0) hz] at hcell
        rcases ho : o + i with _ | j
        · rw [ho] at hcell
          simp only [List.getElem?_toArray, List.getElem?_cons_zero, Option.some.injEq] at hcell
          exact hne _ _ hcell
        · rw [ho] at hcell
          simp at hcell
      have hbl := hk.block b h7 hnp
      have e : w'.cell? ⟨b, o + i, none⟩ = w.cell? ⟨b, o + i, none⟩ := by
        unfold World.cell?
        rw [hbl]
      rw [e]
      exact hcell
end Go.Proofs.YtpcmpeeflnlkpaaDoor

namespace Go.Proofs.YtpcmpeeflnlkpaaDoor
open Go.RowKit Ch
set_option maxRecDepth 100000

/-- The number that words in memory are. -/
def wVal (w : World) : Value → Nat
  | .slice (some a) n _ => numW ((List.range n).map fun i => match w.cell? (a.add i) with
    | some (.int _ z) => z.toNat
    | _ => 0)
  | _ => 0
theorem IsW.val {n : Nat} {w : World} {v : Value} {N : Nat} (h : IsW n w v N) : wVal w v = N := by
  obtain ⟨y, c, L, rfl, hI, _, _, h5, _⟩ := h
  obtain ⟨a, cap, hv, _, _, hr⟩ := hI
  simp only [Value.slice.injEq] at hv
  obtain ⟨rfl, _, _⟩ := hv
  rw [← h5]
  rcases hr with ⟨h1, h0, _⟩ | ⟨x, h1, h2⟩
  · subst h1
    rw [List.eq_nil_of_length_eq_zero h0]
    rfl
  · subst h1
    show numW _ = numW L
    congr 1
    rcases h2 with h2 | ⟨b, o, rfl, _, h8⟩
    · rw [List.eq_nil_of_length_eq_zero h2]
      rfl
    · apply List.ext_getElem?
      intro i
      rw [List.getElem?_map]
      by_cases hi : i < L.length
      · rw [List.getElem?_range hi, List.getElem?_eq_getElem hi]
        have e : (⟨b, o, none⟩ : Addr).add i = ⟨b, o + i, none⟩ := by unfold Addr.add; split <;> simp_all
        simp only [Option.map_some, e, h8 i _ (List.getElem?_eq_getElem hi), Int.toNat_natCast]
      · rw [List.getElem?_eq_none (by simp; omega), List.getElem?_eq_none (by omega)]
        rfl
set_option maxHeartbeats 2000000 in
theorem nEuclid_any (fn : Nat) (caps : Array Value) (ps : List Nat) (St : Nat → Nat → World → Prop) (n : Nat) (hn : n ≤ 20000) (eg : ∀ args w, (callFunc fn args).run Tryd.prog w = .ok (.enter fn args) w)
    (hstep : ∀ A B u v, St A B u → B ≠ 0 → IsW n u v (A / B) → Calls Tryd.prog fn (#[v] ++ caps) u fun e u' => e = .returned (.tuple #[]) ∧ St B (A % B) u' ∧ KeptX ps u u')
    (hbel : ∀ A B u u', St A B u → Below u.heap.size u u' → St A B u') (hbox : ∀ A B u, St A B u → ∀ p ∈ ps, BoxAt u p)
    (va vb : Value) (A B : Nat) (w : World) (hA : IsW n w va A) (hB : IsW n w vb B) (hS : St A B w) :
    Calls Tryd.prog 49 #[va, vb, .func (.func fn) #[] caps] w fun e w' => (∃ v, e = .returned v ∧ IsW n w' v (Nat.gcd A B)) ∧ St (Nat.gcd A B) 0 w' ∧ KeptX ps w w' := by
  have HST := show Hid (∀ A B u v, St A B u → B ≠ 0 → IsW n u v (A / B) → Calls Tryd.prog fn (#[v] ++ caps) u fun e u' => e = .returned (.tuple #[]) ∧ St B (A % B) u' ∧ KeptX ps u u') from hstep
  have H0 := show Hid (IsW n w va A ∧ IsW n w vb B ∧ St A B w) from ⟨hA, hB, hS⟩
  clear hstep hA hB hS
  go_enter Tryd.func49, Tryd.ntmps49
  go_wp2_with fail
  go_loopw [0, 1] (fun p q wr => ∃ a b : Nat, Hid (Nat.gcd a b = Nat.gcd A B) ∧ Hid (IsW n wr p a ∧ IsW n wr q b ∧ St a b wr ∧ KeptX ps w wr)) (fun _ q wr => wVal wr q)
  case atStart => exact ⟨A, B, rfl, H0.out.1, H0.out.2.1, H0.out.2.2, KeptX.of (Below.refl _ _)⟩
  case round =>
    obtain ⟨a, b, hg, hI⟩ := hrel
    obtain ⟨y, l, c, rfl, hl0, _⟩ := hI.out.2.1.shape
    by_cases hb0 : b = 0
    · have hl : l = 0 := hl0.2 hb0
      subst hl
      have HF := show Hid (IsW n wr u0 (Nat.gcd A B) ∧ St (Nat.gcd A B) 0 wr ∧ KeptX ps w wr) from by
        have h1 := hg.out
        rw [hb0, Nat.gcd_zero_right] at h1
        rw [← h1]
        have h2 := hI.out.2.2.1
        rw [hb0] at h2
        exact ⟨hI.out.1, h2, hI.out.2.2.2⟩
      clear hI hl0
      go_wp2_with fail
      go_ret
      exact ⟨⟨_, rfl, HF.out.1⟩, HF.out.2.1, HF.out.2.2⟩
    · have hl : (0 : Int) < (l : Int) := by
        have : l ≠ 0 := fun h => hb0 (hl0.1 h)
        omega
      have hD := wDivide n n u0 (.slice y l c) a b wr hI.out.1 hI.out.2.1 hn hb0
      have HV := show Hid (wVal wr (.slice y l c) = b) from hI.out.2.1.val
      clear hl0
      go_wp2_with fail
      refine hD.mono ?_
      rintro e w1 ⟨vq, vr, rfl, hq, hr, hb1⟩
      clear hD
      have hSt := HST.out a b w1 vq (hbel _ _ _ _ hI.out.2.2.1 hb1) hb0 hq
      go_wp2_with fail
      refine hSt.mono ?_
      rintro e w2 ⟨rfl, hS2, hK2⟩
      clear hSt
      have hbx := hbox _ _ _ (hbel _ _ _ _ hI.out.2.2.1 hb1)
      have HN := show Hid (IsW n w2 (.slice y l c) b ∧ IsW n w2 vr (a % b) ∧ St b (a % b) w2 ∧ KeptX ps w w2) from ⟨(hI.out.2.1.later hb1).kept hK2 hbx, hr.kept hK2 hbx, hS2, hI.out.2.2.2.trans ((KeptX.of hb1).trans hK2)⟩
      have HG2 := show Hid (Nat.gcd b (a % b) = Nat.gcd A B) from by unfold Hid; rw [← hg.out, Nat.gcd_comm a b, Nat.gcd_rec b a, Nat.gcd_comm]
      have HM := show Hid (wVal w2 vr = a % b) from HN.out.2.1.val
      clear hq hr hb1 hS2 hK2 hbx hI
      go_wp2_with fail
      go_roundw
      case rel => exact ⟨b, a % b, HG2.out, HN.out⟩
      case measure =>
        rw [HM.out, HV.out]
        exact Nat.mod_lt _ (Nat.pos_of_ne_zero hb0)
end Go.Proofs.YtpcmpeeflnlkpaaDoor

namespace Go.Proofs.YtpcmpeeflnlkpaaDoor
open Go.RowKit Ch
set_option maxRecDepth 100000

set_option maxHeartbeats 1000000 in
theorem nGcd_any (x y : Option Addr) (cx cy : Nat) (s t : ByteArray) (w : World) (hS : IsBytes w (.slice x s.size cx) s) (hT : IsBytes w (.slice y t.size cy) t) (hs : s.size ≤ 1024) (ht : t.size ≤ 1024) :
    Calls Tryd.prog 45 #[.slice x s.size cx, .slice y t.size cy] w fun e w' => NumOk w w' (Nat.gcd (numB s.data.toList) (numB t.data.toList)) e := by
  have hSl := IsSl.two hS hT
  have hb0 : Below w.heap.size w (w.alloc (.cells #[.slice x s.size cx, .slice y t.size cy] 22)) := (Below.refl _ w).alloc (Nat.le_refl _) _
  have hL := nAnyLong_any _ _ _ hSl (by simp)
  have hlo : longAny [s, t] = false := by simp [longAny]; omega
  rw [hlo] at hL
  generalize hW : w.alloc (.cells #[.slice x s.size cx, .slice y t.size cy] 22) = W0 at *
  have HS := show Hid (IsBytes W0 (.slice x s.size cx) s ∧ IsBytes W0 (.slice y t.size cy) t ∧ Below w.heap.size w W0) from ⟨hS.later hb0, hT.later hb0, hb0⟩
  have hmf : ∀ (fn : Fn) (first cap : Array Value) (w : World), (Instr.makeFunc fn first cap).run Tryd.prog w = .ok (.func fn first cap) w := fun _ _ _ _ => rfl
  clear hS hT hb0 hSl hlo
  go_enter Tryd.func45, Tryd.ntmps45
  go_wp2_with fail
  refine hL.mono ?_
  rintro e w1 ⟨rfl, rfl⟩
  clear hL hW
  go_wp2_with fail
  refine (wFrom x cx s w1 HS.out.1 hs).mono ?_
  rintro e w2 ⟨⟨v2, rfl, h2⟩, hb2⟩
  go_wp2_with fail
  refine (wFrom y cy t w2 (HS.out.2.1.later hb2) ht).mono ?_
  rintro e w3 ⟨⟨v3, rfl, h3⟩, hb3⟩
  have hE := nEuclid_any 63 #[] [] (fun _ _ _ => True) 128 (by omega) (enters_of Tryd.func63 (by kernel_rfl) rfl) (fun A B u v _ _ _ => (nGcdS_any v u).mono (by rintro e u' ⟨rfl, rfl⟩; exact ⟨rfl, trivial, KeptX.of (Below.refl _ _)⟩)) (fun _ _ _ _ _ _ => trivial) (fun _ _ _ _ p hp => by cases hp) v2 v3 _ _ w3 (h2.later hb3) h3 trivial
  go_wp2_with fail
  refine hE.mono ?_
  rintro e w4 ⟨⟨v4, rfl, h4⟩, _, hk4⟩
  clear hE
  have hb4 : Below w3.heap.size w3 w4 := hk4.below (Nat.le_refl _) (fun p hp => by cases hp)
  go_wp2_with fail
  refine (wTo _ v4 _ w4 h4 (by omega)).mono ?_
  rintro e w5 ⟨⟨v5, rfl, h5⟩, hb5⟩
  have HB := show Hid (Below w.heap.size w w5) from HS.out.2.2.trans ((hb2.trans ((hb3.trans ((hb4.trans (hb5.mono hb4.size)).mono hb3.size)).mono hb2.size)).mono HS.out.2.2.size)
  clear h2 h3 h4 hb2 hb3 hb4 hb5 hk4
  go_wp2_with fail
  go_ret2
  exact numOk_mk h5 HB.out
end Go.Proofs.YtpcmpeeflnlkpaaDoor
