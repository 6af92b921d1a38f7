/-
  Package der: isTag; the reader's length.
-/
import Derived.Test.YthdoginhbhdmbaaXRd
import Derived.Laws.BitsLemmas
namespace Go.Proofs.Ythdoginhbhdmbaa
open Go.RowKit Ch
set_option maxRecDepth 100000

theorem wr64 (n : Int) (h₀ : 0 ≤ n) (h₁ : n < 2 ^ 62) : IntKind.i64.wrap n = n := by rw [IntKind.wrap_i64]; omega
theorem join8 {x y : Int} (h0 : 0 ≤ x) (hx : x % 256 = 0) (h1 : x < 1000000000000) (h2 : 0 ≤ y) (h3 : y < 256) : bits .or .i64 x y = x + y :=
  bits_join .i64 62 (by decide) wr64 8 x y h0 hx (by omega) h2 h3 (by omega)
theorem and31 (t : Nat) (ht : t < 256) : bits .and .u8 (t : Int) 31 = ((t % 32 : Nat) : Int) := by
  have h := bits_mask .u8 8 (by decide) wraps_u8 5 (by decide) (t : Int) (by omega) (by omega)
  have e : ((2 : Int) ^ 5 - 1) = 31 := rfl
  rw [e] at h
  rw [h]
  omega
theorem xIsTag_any (t : UInt8) (w : World) : Calls Try.prog 20 #[.int .u8 (t.toNat : Int)] w fun e w' => e = .returned (.bool (decide (t.toNat % 32 ≠ 31))) ∧ w' = w := by
  have ht := t.toNat_lt
  have h1 := and31 t.toNat (by omega)
  obtain ⟨n, hn⟩ : ∃ n, t.toNat = n := ⟨_, rfl⟩
  rw [hn] at h1 ht ⊢
  obtain ⟨m, hm⟩ : ∃ m, n % 32 = m := ⟨_, rfl⟩
  rw [hm] at h1 ⊢
  clear hn hm
  by_cases h : m = 31
  · have hd : ((m : Int) != 31) = false := by simp; omega
    have hr : decide (m ≠ 31) = false := by simp [h]
    rw [hr]
    clear h hr
    go_enter Try.func20, Try.ntmps20
    go_wp2_with fail
    go_ret
    exact ⟨rfl, rfl⟩
  · have hd : ((m : Int) != 31) = true := by simp; omega
    have hr : decide (m ≠ 31) = true := by simp [h]
    rw [hr]
    clear h hr
    go_enter Try.func20, Try.ntmps20
    go_wp2_with fail
    go_ret
    exact ⟨rfl, rfl⟩
/-- What a call of the reader's answers: a number and what is left, or it breaks off. -/
def LenIs (rb : Nat) (w : World) (r : Except Nat (Nat × List UInt8)) (e : Ending) (w' : World) : Prop := match r with
  | .error k => e = .panicked (PE k) ∧ KeptX [rb] w w'
  | .ok (n, l) => e = .returned (.int .i64 (n : Int)) ∧ XRd rb l w' ∧ KeptX [rb] w w'
theorem src_cell {rb : Nat} {y : Option Addr} {c k : Nat} {l : List UInt8} {x : UInt8} {W : World} (h : Src rb (.slice y l.length c) l W) (hx : l[k]? = some x) : ∃ b o, y = some ⟨b, o, none⟩ ∧ W.cell? ⟨b, o + k, none⟩ = some (.int .u8 (x.toNat : Int)) := by
  have hz : (⟨l.toArray⟩ : ByteArray).size = l.length := size_of_list l
  have hlt := (List.getElem?_eq_some_iff.1 hx).1
  obtain ⟨b, o, h1, _, h2⟩ := IsBytes.cellAt (s := ⟨l.toArray⟩) (by rw [hz]; exact h.is) (i := k) (by rw [hz]; exact hlt)
  rw [byte_list, List.toList_toArray, hx] at h2
  exact ⟨b, o, h1, h2⟩
/-- A call's first byte. -/
theorem src_first {rb : Nat} {y : Option Addr} {c : Nat} {x : UInt8} {W : World} (h : Src rb (.slice y 1 c) [x] W) : ∃ b o, y = some ⟨b, o, none⟩ ∧ W.cell? ⟨b, o, none⟩ = some (.int .u8 (x.toNat : Int)) := by
  obtain ⟨b, o, h1, h2⟩ := src_cell (l := [x]) (k := 0) h rfl
  exact ⟨b, o, h1, h2⟩
set_option maxHeartbeats 4000000 in
theorem xLength_any (rb : Nat) (l : List UInt8) (w : World) (h : XRd rb l w) :
    Calls Try.prog 59 #[.pointer (some ⟨rb, 0, none⟩)] w (LenIs rb w (lenL l)) := by
  cases l with
  | nil =>
    have h1 := show Calls Try.prog 57 #[.pointer (some ⟨rb, 0, none⟩), .int .i64 1] w _ from xNext_err rb [] 1 w h (by decide)
    clear h
    go_enter Try.func59, Try.ntmps59
    go_wp2_with fail
    refine h1.mono ?_
    rintro e w1 ⟨rfl, hk⟩
    exact ⟨rfl, rfl, hk⟩
  | cons f r =>
    have hf8 := f.toNat_lt
    have h1 := show Calls Try.prog 57 #[.pointer (some ⟨rb, 0, none⟩), .int .i64 1] w _ from xNext_ok rb (f :: r) 1 w h (by simp)
    have e1 : (f :: r).take 1 = [f] := rfl
    have e2 : (f :: r).drop 1 = r := rfl
    rw [e1, e2] at h1
    obtain ⟨n, hn⟩ : ∃ n, f.toNat = n := ⟨_, rfl⟩
    have HL := show Hid (lenL (f :: r) = if n < 128 then .ok (n, r) else if n = 128 ∨ 131 < n then .error 10 else if r.length < n - 128 then .error 11 else if r.head? = some 0 ∨ numB (r.take (n - 128)) < 128 then .error 10 else if 1048576 ≤ numB (r.take (n - 128)) then .error 12 else .ok (numB (r.take (n - 128)), r.drop (n - 128))) from by rw [← hn]; rfl
    have hn8 : n < 256 := by omega
    clear h e1 e2 hf8
    by_cases c1 : n < 128
    · have c1I : (n : Int) < 128 := by omega
      have HR := show Hid (lenL (f :: r) = .ok (n, r)) from by unfold Hid; rw [HL.out, if_pos c1]
      rw [HR.out]
      have wn : IntKind.i64.wrap (n : Int) = (n : Int) := by rw [IntKind.wrap_i64]; omega
      go_enter Try.func59, Try.ntmps59
      go_wp2_with fail
      refine h1.mono ?_
      rintro e w1 ⟨⟨y, c, rfl, _, hs⟩, hx, hk⟩
      obtain ⟨b, o, rfl, gx⟩ := src_first hs
      rw [hn] at gx
      have HF := show Hid (XRd rb r w1 ∧ KeptX [rb] w w1) from ⟨hx, hk⟩
      clear hs hx hk h1 HL HR hn
      go_wp2_with fail
      go_ret
      exact ⟨rfl, HF.out⟩
    · have c1I : ¬ (n : Int) < 128 := by omega
      obtain ⟨m, hm⟩ : ∃ m : Int, (n : Int) - 128 = m := ⟨_, rfl⟩
      have wm : IntKind.i64.wrap m = m := by rw [IntKind.wrap_i64]; omega
      have wn : IntKind.i64.wrap (n : Int) = (n : Int) := by rw [IntKind.wrap_i64]; omega
      by_cases c2 : n = 128 ∨ 131 < n
      · have HR := show Hid (lenL (f :: r) = .error 10) from by unfold Hid; rw [HL.out, if_neg c1, if_pos c2]
        rw [HR.out]
        have hR := xNeed_err 10
        have c2I : m < 1 ∨ (1 ≤ m ∧ 3 < m) := by omega
        go_enter Try.func59, Try.ntmps59
        go_wp2_with fail
        refine h1.mono ?_
        rintro e w1 ⟨⟨y, c, rfl, _, hs⟩, hx, hk⟩
        obtain ⟨b, o, rfl, gx⟩ := src_first hs
        rw [hn] at gx
        have HF := show Hid (KeptX [rb] w w1) from hk
        clear hs hx hk h1 HL HR hn c2
        rcases c2I with c3 | ⟨c3, c4⟩
        · have c3I : ¬ 1 ≤ m := by omega
          have c3b : decide (1 ≤ m) = false := decide_eq_false c3I
          go_wp2_with fail
          refine (hR _).mono ?_
          rintro e w2 ⟨rfl, rfl⟩
          exact ⟨rfl, rfl, HF.out⟩
        · have c4I : ¬ m ≤ 3 := by omega
          have c4b : decide (m ≤ 3) = false := decide_eq_false c4I
          go_wp2_with fail
          refine (hR _).mono ?_
          rintro e w2 ⟨rfl, rfl⟩
          exact ⟨rfl, rfl, HF.out⟩
      · obtain ⟨k, hkm⟩ : ∃ k : Nat, n - 128 = k := ⟨_, rfl⟩
        obtain rfl : m = (k : Int) := by omega
        have k1 : (1 : Int) ≤ (k : Int) := by omega
        have k3 : (k : Int) ≤ 3 := by omega
        have kl : 1 ≤ k ∧ k ≤ 3 := by omega
        have hR := xNeed_ok 10
        have HL2 := show Hid (lenL (f :: r) = if r.length < k then .error 11 else if r.head? = some 0 ∨ numB (r.take k) < 128 then .error 10 else if 1048576 ≤ numB (r.take k) then .error 12 else .ok (numB (r.take k), r.drop k)) from by unfold Hid; rw [HL.out, if_neg c1, if_neg c2, hkm]
        clear HL c2 hkm
        by_cases c3 : r.length < k
        · have HR := show Hid (lenL (f :: r) = .error 11) from by unfold Hid; rw [HL2.out, if_pos c3]
          rw [HR.out]
          go_enter Try.func59, Try.ntmps59
          go_wp2_with fail
          refine h1.mono ?_
          rintro e w1 ⟨⟨y, c, rfl, _, hs⟩, hx, hk⟩
          obtain ⟨b, o, rfl, gx⟩ := src_first hs
          rw [hn] at gx
          have h2 := xNext_err rb r k w1 hx c3
          have HF := show Hid (KeptX [rb] w w1) from hk
          clear hs hx hk h1 HL2 HR hn c3
          go_wp2_with fail
          refine (hR _).mono ?_
          rintro e w2 ⟨rfl, rfl⟩
          go_wp2_with fail
          refine h2.mono ?_
          rintro e w3 ⟨rfl, hk3⟩
          exact ⟨rfl, rfl, HF.out.trans hk3⟩
        · obtain ⟨N, hN⟩ : ∃ N, numB (r.take k) = N := ⟨_, rfl⟩
          have HL3 := show Hid (lenL (f :: r) = if r.head? = some 0 ∨ N < 128 then .error 10 else if 1048576 ≤ N then .error 12 else .ok (N, r.drop k)) from by unfold Hid; rw [HL2.out, if_neg c3, hN]
          have hlk : (r.take k).length = k := by rw [List.length_take]; omega
          have HN := show Hid (numB (r.take k) = N ∧ (r.take k).length = k ∧ r.head? = (r.take k).head?) from ⟨hN, hlk, by
            cases r with
            | nil => simp at c3; omega
            | cons a q => cases k with
              | zero => omega
              | succ k => rfl⟩
          obtain ⟨R, hRR⟩ : ∃ R, lenL (f :: r) = R := ⟨_, rfl⟩
          rw [hRR]
          rw [hRR] at HL3
          clear HL2 hRR hN hlk
          go_enter Try.func59, Try.ntmps59
          go_wp2_with fail
          refine h1.mono ?_
          rintro e w1 ⟨⟨y, c, rfl, _, hs⟩, hx, hk⟩
          obtain ⟨b, o, rfl, gx⟩ := src_first hs
          rw [hn] at gx
          have h2 := xNext_ok rb r k w1 hx (by omega)
          have HF := show Hid (KeptX [rb] w w1) from hk
          clear hs hx hk h1 hn c3
          go_wp2_with fail
          refine (hR _).mono ?_
          rintro e w2 ⟨rfl, rfl⟩
          clear hR gx
          go_wp2_with fail
          refine h2.mono ?_
          rintro e w3 ⟨⟨y3, c3, rfl, _, hs3⟩, hx3, hk3⟩
          clear h2
          have HF3 := show Hid (XRd rb (r.drop k) w3 ∧ KeptX [rb] w w3) from ⟨hx3, HF.out.trans hk3⟩
          obtain ⟨ds, hds⟩ : ∃ ds, r.take k = ds := ⟨_, rfl⟩
          rw [hds] at HN hs3
          have HS3 := show Hid (Src rb (.slice y3 ds.length c3) ds w3) from by rw [HN.out.2.1]; exact hs3
          clear hs3 hx3 hk3 hds HF
          go_wp2_with fail
          go_loopw [6, 31] (fun a t wr => ∃ i A : Nat, i ≤ k ∧ a = .int .i64 (A : Int) ∧ t = .int .i64 (i : Int) ∧ Hid (numB (ds.take i) = A) ∧ wr = w3) (fun _ t _ => k - (intOf t).toNat)
          case atStart => exact ⟨0, 0, by omega, rfl, rfl, rfl, rfl⟩
          case round =>
            obtain ⟨i, A, hik, rfl, rfl, hA, rfl⟩ := hrel
            by_cases hi : i < k
            · have hiI : (i : Int) < (k : Int) := by omega
              obtain ⟨x, hx⟩ : ∃ x, ds[i]? = some x := ⟨_, List.getElem?_eq_getElem (by rw [HN.out.2.1]; exact hi)⟩
              obtain ⟨b4, o4, rfl, gx⟩ := src_cell HS3.out hx
              have hAl : A < 65536 := by
                have h5 := numB_lt (ds.take i)
                rw [hA.out] at h5
                have h6 : 256 ^ (ds.take i).length ≤ 256 ^ 2 := Nat.pow_le_pow_right (by decide) (by rw [List.length_take]; omega)
                omega
              obtain ⟨z, hz⟩ : ∃ z, x.toNat = z := ⟨_, rfl⟩
              have hz8 : z < 256 := by rw [← hz]; exact x.toNat_lt
              rw [hz] at gx
              obtain ⟨B, hB⟩ : ∃ B, A * 256 = B := ⟨_, rfl⟩
              obtain ⟨A2, hA2⟩ : ∃ B2, B + z = B2 := ⟨_, rfl⟩
              have HA2 := show Hid (numB (ds.take (i + 1)) = A2) from by unfold Hid; rw [numB_take hx, hA.out, hz]; omega
              have hBI : (A : Int) * 256 = (B : Int) := by omega
              have wB : IntKind.i64.wrap (B : Int) = (B : Int) := by rw [IntKind.wrap_i64]; omega
              have wz : IntKind.i64.wrap (z : Int) = (z : Int) := by rw [IntKind.wrap_i64]; omega
              have hj : bits .or .i64 (B : Int) (z : Int) = (A2 : Int) := by rw [join8 (by omega) (by omega) (by omega) (by omega) (by omega)]; omega
              have wi : IntKind.i64.wrap ((i : Int) + 1) = (i : Int) + 1 := by rw [IntKind.wrap_i64]; omega
              clear hx hz hB hA2 hA
              go_wp2_with fail
              go_roundw
              case rel => exact ⟨i + 1, A2, by omega, rfl, by go_num, HA2.out, trivial⟩
              case measure => simp [intOf]; omega
            · have hiI : ¬ (i : Int) < (k : Int) := by omega
              obtain rfl : i = k := by omega
              obtain rfl : A = N := by rw [← hA.out, List.take_of_length_le (by rw [HN.out.2.1]; exact Nat.le_refl _)]; exact HN.out.1
              obtain ⟨x, hx⟩ : ∃ x, ds[0]? = some x := ⟨_, List.getElem?_eq_getElem (by rw [HN.out.2.1]; omega)⟩
              obtain ⟨b4, o4, rfl, gx⟩ := src_cell HS3.out hx
              rw [Nat.add_zero] at gx
              have hhd : r.head? = some x := by
                rw [HN.out.2.2]
                cases ds with
                | nil => cases hx
                | cons a q => exact hx
              obtain ⟨z, hz⟩ : ∃ z, x.toNat = z := ⟨_, rfl⟩
              have hz8 : z < 256 := by rw [← hz]; exact x.toNat_lt
              have hzx : some x = some (0 : UInt8) ↔ z = 0 := by
                constructor
                · intro h
                  have := Option.some.inj h
                  rw [← hz, this]
                  rfl
                · intro h
                  congr 1
                  apply UInt8.toNat_inj.1
                  rw [hz, h]
                  rfl
              rw [hz] at gx
              have HL4 := show Hid (R = if z = 0 ∨ A < 128 then .error 10 else if 1048576 ≤ A then .error 12 else .ok (A, r.drop i)) from by
                have h5 := HL3.out
                rw [hhd] at h5
                simp only [hzx] at h5
                exact h5
              clear hA hx hhd hz hzx
              by_cases d1 : z = 0
              · have d1I : ((z : Int) != 0) = false := by simp; omega
                have HR := show Hid (R = .error 10) from by unfold Hid; rw [HL4.out, if_pos (.inl d1)]
                have hR := xNeed_err 10
                clear d1 HL3 HL4
                go_wp2_with fail
                refine (hR _).mono ?_
                rintro e w4 ⟨rfl, rfl⟩
                rw [HR.out]
                exact ⟨rfl, rfl, HF3.out.2⟩
              · have d1I : ((z : Int) != 0) = true := by simp; omega
                by_cases d2 : A < 128
                · have d2I : ¬ (128 : Int) ≤ (A : Int) := by omega
                  have d2b : decide ((128 : Int) ≤ (A : Int)) = false := decide_eq_false d2I
                  have HR := show Hid (R = .error 10) from by unfold Hid; rw [HL4.out, if_pos (.inr d2)]
                  have hR := xNeed_err 10
                  clear d1 HL3 HL4
                  go_wp2_with fail
                  refine (hR _).mono ?_
                  rintro e w4 ⟨rfl, rfl⟩
                  rw [HR.out]
                  exact ⟨rfl, rfl, HF3.out.2⟩
                · have d2I : (128 : Int) ≤ (A : Int) := by omega
                  have hR := xNeed_ok 10
                  by_cases d3 : 1048576 ≤ A
                  · have d3I : ¬ (A : Int) < 1048576 := by omega
                    have d3b : decide ((A : Int) < 1048576) = false := decide_eq_false d3I
                    have HR := show Hid (R = .error 12) from by unfold Hid; rw [HL4.out, if_neg (by omega), if_pos d3]
                    have hR2 := xNeed_err 12
                    clear d1 d2 d3 HL3 HL4
                    go_wp2_with fail
                    refine (hR _).mono ?_
                    rintro e w4 ⟨rfl, rfl⟩
                    go_wp2_with fail
                    refine (hR2 _).mono ?_
                    rintro e w5 ⟨rfl, rfl⟩
                    rw [HR.out]
                    exact ⟨rfl, rfl, HF3.out.2⟩
                  · have d3I : (A : Int) < 1048576 := by omega
                    have HR := show Hid (R = .ok (A, r.drop i)) from by unfold Hid; rw [HL4.out, if_neg (by omega), if_neg d3]
                    have hR2 := xNeed_ok 12
                    clear d1 d2 d3 HL3 HL4
                    go_wp2_with fail
                    refine (hR _).mono ?_
                    rintro e w4 ⟨rfl, rfl⟩
                    go_wp2_with fail
                    refine (hR2 _).mono ?_
                    rintro e w5 ⟨rfl, rfl⟩
                    go_wp2_with fail
                    go_ret
                    rw [HR.out]
                    exact ⟨rfl, HF3.out⟩
end Go.Proofs.Ythdoginhbhdmbaa
