/-
  Package der: begin, only, isNumber, where they hold; bytes.Equal of like bytes; Info.
-/
import Derived.Test.YthdoginhbhdmbaaXDCert
namespace Go.Proofs.Ythdoginhbhdmbaa
open Go.RowKit Ch
set_option maxRecDepth 100000

theorem isPs_shape {w : World} {v : Value} {qs : List (UInt8 × List UInt8)} (h : IsPs w v qs) : ∃ y c, v = .slice y qs.length c := h.shape
set_option maxHeartbeats 4000000 in
theorem xBegin_ok (vp vt : Value) (ps : List (UInt8 × List UInt8)) (ts : List UInt8) (w : World) (hp : IsPs w vp ps) (ht : IsBytes w vt ⟨ts.toArray⟩) (hpre : ∀ (i : Nat) (t : UInt8), ts[i]? = some t → ∃ b, ps[i]? = some (t, b)) (hlen : ts.length ≤ ps.length) (hl : ps.length ≤ 100000) :
    Calls Try.prog 56 #[vp, vt] w fun e w' => e = .returned (.bool true) ∧ w' = w := by
  obtain ⟨x, cx, rfl⟩ := hp.shape
  obtain ⟨y, cy, rfl⟩ := isb_shape ht
  obtain ⟨n, hn⟩ : ∃ n, ps.length = n := ⟨_, rfl⟩
  obtain ⟨m, hm⟩ : ∃ n, ts.length = n := ⟨_, rfl⟩
  rw [hn] at hp hlen hl ⊢
  rw [hm] at ht hlen ⊢
  have HC := show Hid (∀ i, i < m → ∃ (t : UInt8) (b o b2 o2 : Nat), x = some ⟨b, o, none⟩ ∧ y = some ⟨b2, o2, none⟩ ∧ w.cell? ⟨b, o + i * 2, none⟩ = some (.int .u8 (t.toNat : Int)) ∧ w.cell? ⟨b2, o2 + i, none⟩ = some (.int .u8 (t.toNat : Int))) from fun i hi => by
    have hti : ts[i]? = some ts[i] := List.getElem?_eq_getElem (by omega)
    obtain ⟨bl, hpi⟩ := hpre i _ hti
    obtain ⟨y0, c0, h0, _, h1⟩ := hp
    simp only [Value.slice.injEq] at h0
    obtain ⟨b, o, yb, cb, hy, _, g0, _, _⟩ := h1 i _ hpi
    have hz : (⟨ts.toArray⟩ : ByteArray).size = m := by rw [size_of_list, hm]
    obtain ⟨b2, o2, hy2, _, g1⟩ := IsBytes.cellAt (s := ⟨ts.toArray⟩) (by rw [hz]; exact ht) (i := i) (by rw [hz]; exact hi)
    rw [byte_list, List.toList_toArray, hti] at g1
    exact ⟨ts[i], b, o, b2, o2, h0.1.trans hy, hy2, g0, g1⟩
  have hlt : ¬ (n : Int) < (m : Int) := by omega
  have hm1 : m ≤ 100000 := by omega
  clear hp ht hpre hlen hn hm
  go_enter Try.func56, Try.ntmps56
  go_wp2_with fail
  go_loopw [14] (fun t wr => ∃ i : Nat, i ≤ m ∧ t = .int .i64 (i : Int) ∧ Hid (wr = w)) (fun t _ => m - (intOf t).toNat)
  case atStart => exact ⟨0, by omega, rfl, rfl⟩
  case round =>
    obtain ⟨i, hi, rfl, hw⟩ := hrel
    obtain hww := hw.out
    clear hw
    subst hww
    by_cases him : i < m
    · have himI : (i : Int) < (m : Int) := by omega
      obtain ⟨t, b, o, b2, o2, rfl, rfl, g0, g1⟩ := HC.out i him
      have hinn : (i : Int) < (n : Int) := by omega
      obtain ⟨n0, hn0⟩ : ∃ k, t.toNat = k := ⟨_, rfl⟩
      rw [hn0] at g0 g1
      have wi : IntKind.i64.wrap ((i : Int) + 1) = (i : Int) + 1 := by rw [IntKind.wrap_i64]; omega
      clear hn0
      go_wp2_with fail
      go_roundw
      case rel => exact ⟨i + 1, by omega, by go_num, trivial⟩
      case measure => simp [intOf]; omega
    · have himI : ¬ (i : Int) < (m : Int) := by omega
      go_wp2_with fail
      go_ret
      exact ⟨rfl, rfl⟩
set_option maxHeartbeats 4000000 in
theorem xOnly_ok (vb vt : Value) (B ts : List UInt8) (ps : List (UInt8 × List UInt8)) (w : World) (hb : IsBytes w vb ⟨B.toArray⟩) (ht : IsBytes w vt ⟨ts.toArray⟩) (hB : putL ps = B) (hok : ∀ p ∈ ps, pieceOk p) (hts : ps.map Prod.fst = ts) (hl : B.length ≤ 100000) :
    Calls Try.prog 38 #[vb, vt] w fun e w' => (∃ v, e = .returned v ∧ IsPs w' v ps) ∧ Below w.heap.size w w' := by
  have hpl : ∀ qs : List (UInt8 × List UInt8), qs.length ≤ (putL qs).length := fun qs => by
    induction qs with
    | nil => exact Nat.le_refl _
    | cons q qs ih =>
      rw [putL, List.length_append, List.length_cons]
      have := putL1_length q
      omega
  have hpn : ps.length ≤ B.length := by rw [← hB]; exact hpl ps
  obtain ⟨x, cx, rfl⟩ := isb_shape hb
  obtain ⟨y, cy, rfl⟩ := isb_shape ht
  have hz : (⟨B.toArray⟩ : ByteArray).size = B.length := size_of_list B
  have hP := xPieces_any x cx ⟨B.toArray⟩ w (by rw [hz]; exact hb) (by rw [hz]; omega)
  rw [hz, show (⟨B.toArray⟩ : ByteArray).data.toList = B from List.toList_toArray] at hP
  have hs : splitL B.length B = .ok ps := by
    rw [← hB]
    exact splitL_put ps _ hok (hpl ps)
  rw [hs] at hP
  have hlen : ts.length = ps.length := by rw [← hts, List.length_map]
  have HT := show Hid (IsBytes w (.slice y ts.length cy) ⟨ts.toArray⟩ ∧ (∀ (i : Nat) (t : UInt8), ts[i]? = some t → ∃ b, ps[i]? = some (t, b)) ∧ ts.length = ps.length ∧ ps.length ≤ 100000) from ⟨ht, fun i t h => by
    rw [← hts, List.getElem?_map] at h
    cases hp : ps[i]? with
    | none => rw [hp] at h; cases h
    | some p =>
      rw [hp] at h
      obtain rfl := Option.some.inj h
      exact ⟨p.2, rfl⟩, hlen, by omega⟩
  obtain ⟨k, hk⟩ : ∃ k, B.length = k := ⟨_, rfl⟩
  rw [hk] at hP ⊢
  clear hpl hpn hb ht hz hs hlen hk hts hB hok hl
  go_enter Try.func38, Try.ntmps38
  go_wp2_with fail
  refine hP.mono ?_
  rintro e w1 ⟨⟨v1, rfl, h1⟩, b1⟩
  obtain ⟨y1, c1, rfl⟩ := h1.shape
  have hBg := xBegin_ok (.slice y1 ps.length c1) (.slice y ts.length cy) ps ts w1 h1 (HT.out.1.later b1) HT.out.2.1 (Nat.le_of_eq HT.out.2.2.1) HT.out.2.2.2
  obtain ⟨n, hn⟩ : ∃ n, ps.length = n := ⟨_, rfl⟩
  have hmn : ts.length = n := HT.out.2.2.1.trans hn
  rw [hn, hmn] at hBg
  have HF := show Hid (IsPs w1 (.slice y1 n c1) ps ∧ Below w.heap.size w w1) from ⟨hn ▸ h1, b1⟩
  rw [hn, hmn]
  have hR := fun wx => xNeed_ok 10 wx
  clear h1 b1 hP hn hmn HT
  go_wp2_with fail
  refine hBg.mono ?_
  rintro e w2 ⟨rfl, rfl⟩
  clear hBg
  go_wp2_with fail
  refine (hR _).mono ?_
  rintro e w3 ⟨rfl, rfl⟩
  go_wp2_with fail
  go_ret
  exact ⟨⟨_, rfl, HF.out.1⟩, HF.out.2⟩
end Go.Proofs.Ythdoginhbhdmbaa
