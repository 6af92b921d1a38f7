/-
  Package der: Put, of pieces that may be put.
-/
import Derived.Test.YthdoginhbhdmbaaXAppK
import Derived.Test.YthdoginhbhdmbaaXPcs
namespace Go.Proofs.Ythdoginhbhdmbaa
open Go.RowKit Ch
set_option maxRecDepth 100000

theorem putL_take {ps : List (UInt8 × List UInt8)} {i : Nat} {p : UInt8 × List UInt8} (h : ps[i]? = some p) : putL (ps.take (i + 1)) = putL (ps.take i) ++ putL1 p := by
  have e : ps.take (i + 1) = ps.take i ++ [p] := by rw [List.take_add_one, h]; rfl
  rw [e, putL_append]
  simp [putL]
theorem putL_take_le (ps : List (UInt8 × List UInt8)) (i : Nat) : (putL (ps.take i)).length ≤ (putL ps).length := by
  have h : putL ps = putL (ps.take i) ++ putL (ps.drop i) := by rw [← putL_append, List.take_append_drop]
  rw [h, List.length_append]
  omega
theorem kept_cellX {ps : List Nat} {w w' : World} (h : KeptX ps w w') {p : Addr} (hp : p.block < w.heap.size) (hn : p.block ∉ ps) : w'.cell? p = w.cell? p := by
  unfold World.cell?
  rw [h.block _ hp hn]
set_option maxHeartbeats 8000000 in
theorem xPut_any (x : Option Addr) (cx : Nat) (ps : List (UInt8 × List UInt8)) (w : World) (hP : IsPs w (.slice x ps.length cx) ps) (hok : ∀ p ∈ ps, pieceOk p) (hl : ps.length ≤ 100000) (hsz : (putL ps).length ≤ 900000) :
    Calls Try.prog 8 #[.slice x ps.length cx] w fun e w' => (∃ v, e = .returned (.tuple #[v, .int .i64 0]) ∧ OwnL w.heap.size w' v (putL ps)) ∧ Below w.heap.size w w' := by
  obtain ⟨n, hn⟩ : ∃ n, ps.length = n := ⟨_, rfl⟩
  rw [hn] at hP hl ⊢
  have HP := show Hid (IsPs w (.slice x n cx) ps ∧ (∀ p ∈ ps, pieceOk p) ∧ (putL ps).length ≤ 900000 ∧ ps.length = n) from ⟨hP, hok, hsz, hn⟩
  clear hP hok hsz hn
  go_enter Try.func8, Try.ntmps8
  go_wp2_with fail
  go_loopw [11] (fun t wr => ∃ i : Nat, i ≤ n ∧ t = .int .i64 (i : Int) ∧ Hid (Below w.heap.size w wr)) (fun t _ => n - (intOf t).toNat)
  case atStart => exact ⟨0, by omega, rfl, Below.refl _ _⟩
  case round =>
    obtain ⟨i, hi, rfl, hb⟩ := hrel
    by_cases hin : i < n
    · have hinI : (i : Int) < (n : Int) := by omega
      obtain ⟨p, hp⟩ : ∃ p, ps[i]? = some p := ⟨_, List.getElem?_eq_getElem (by rw [HP.out.2.2.2]; exact hin)⟩
      have hpk := HP.out.2.1 p (List.mem_of_getElem? hp)
      obtain ⟨y0, c0, h0, _, h1⟩ := HP.out.1.later hb.out
      simp only [Value.slice.injEq] at h0
      obtain ⟨rfl, hn0, rfl⟩ := h0
      clear hn0
      obtain ⟨b, o, yb, cb, rfl, hbl, g0, g1, _⟩ := h1 i p hp
      obtain ⟨t, bl⟩ := p
      obtain ⟨k, hk⟩ : ∃ k, bl.length = k := ⟨_, rfl⟩
      have hkl : ¬ (1048576 : Int) ≤ (k : Int) := by have := hpk.2; simp only at this; omega
      have hkb : decide ((1048576 : Int) ≤ (k : Int)) = false := decide_eq_false hkl
      dsimp only at g0 g1
      rw [hk] at g1
      obtain ⟨q, hq⟩ : ∃ q, wr.heap.size = q := ⟨_, rfl⟩
      obtain ⟨W1, hW1⟩ : ∃ W, wr.alloc (.cells #[.int .u8 (t.toNat : Int), .slice yb k cb] 26) = W := ⟨_, rfl⟩
      have hN := heap_push_at wr (.cells #[.int .u8 (t.toNat : Int), .slice yb k cb] 26)
      rw [hW1, hq] at hN
      have k0 := block_cell (v := .int .u8 (t.toNat : Int)) 0 hN rfl
      have k1 := block_cell (v := .slice yb k cb) 1 hN rfl
      have hT := xIsTag_any t
      have hd : decide (t.toNat % 32 ≠ 31) = true := decide_eq_true hpk.1
      rw [hd] at hT
      have HB1 := show Hid (Below w.heap.size w W1) from hb.out.trans (by rw [← hW1]; exact (alB wr _).mono hb.out.size)
      clear hp hpk h1 hk hd hN hb hbl
      go_wp2_with fail
      refine (hT _).mono ?_
      rintro e w2 ⟨rfl, rfl⟩
      clear hT hW1 hq g0 g1
      have wi : IntKind.i64.wrap ((i : Int) + 1) = (i : Int) + 1 := by rw [IntKind.wrap_i64]; omega
      go_wp2_with fail
      go_roundw
      case rel => exact ⟨i + 1, by omega, by go_num, HB1.out⟩
      case measure => simp [intOf]; omega
    · have hinI : ¬ (i : Int) < (n : Int) := by omega
      have HB0 := show Hid (Below w.heap.size w wr) from hb.out
      obtain ⟨wt, hwt⟩ : ∃ a, a = wr := ⟨_, rfl⟩
      subst hwt
      clear hb hi hin
      go_wp2_with fail
      go_loopw [6, 28] (fun v t wr => ∃ i : Nat, i ≤ n ∧ t = .int .i64 (i : Int) ∧ Hid (OwnL w.heap.size wr v (putL (ps.take i))) ∧ Hid (Below w.heap.size w wr)) (fun _ t _ => n - (intOf t).toNat)
      case atStart => exact ⟨0, by omega, rfl, World.ownsRow_nil _ _ _ _, HB0.out⟩
      case round =>
        obtain ⟨i, hi, rfl, hv, hb⟩ := hrel
        by_cases hin : i < n
        · have hinI2 : (i : Int) < (n : Int) := by omega
          obtain ⟨p, hp⟩ : ∃ p, ps[i]? = some p := ⟨_, List.getElem?_eq_getElem (by rw [HP.out.2.2.2]; exact hin)⟩
          have hpk := HP.out.2.1 p (List.mem_of_getElem? hp)
          obtain ⟨y0, c0, h0, _, h1⟩ := HP.out.1
          simp only [Value.slice.injEq] at h0
          obtain ⟨rfl, hn0, rfl⟩ := h0
          clear hn0
          obtain ⟨b, o, yb, cb, rfl, hbl, g0', g1', hI'⟩ := h1 i p hp
          obtain ⟨t, bl⟩ := p
          obtain ⟨k, hk⟩ : ∃ k, bl.length = k := ⟨_, rfl⟩
          dsimp only at g0' g1' hI'
          rw [hk] at g1' hI'
          have hkl : k < 1048576 := by have := hpk.2; simp only at this; omega
          have HBd := show Hid (∀ u, Below w.heap.size w u → u.cell? ⟨b, o + i * 2, none⟩ = some (.int .u8 (t.toNat : Int)) ∧ u.cell? ⟨b, o + i * 2 + 1, none⟩ = some (.slice yb k cb) ∧ IsBytes u (.slice yb k cb) ⟨bl.toArray⟩) from fun u hu => ⟨(hu.cell (p := ⟨b, o + i * 2, none⟩) hbl).trans g0', (hu.cell (p := ⟨b, o + i * 2 + 1, none⟩) hbl).trans g1', hI'.later hu⟩
          have HTk := show Hid (putL (ps.take (i + 1)) = putL (ps.take i) ++ [t] ++ lenB k ++ bl) from by
            unfold Hid
            rw [putL_take hp, ← hk]
            simp [putL1]
          have hll := putL_take_le ps (i + 1)
          have HLn := show Hid ((putL (ps.take i)).length ≤ 900000 ∧ (putL (ps.take i) ++ [t] ++ lenB k).length + bl.length ≤ 1000000 ∧ (putL (ps.take i) ++ [t]).length ≤ 900000 ∧ bl.length = k) from by
            have h9 := HP.out.2.2.1
            have h10 := putL_take_le ps i
            have h11 : (putL (ps.take (i + 1))).length = ((putL (ps.take i) ++ [t] ++ lenB k)).length + bl.length := by rw [HTk.out, List.length_append]
            have h12 : 1 ≤ (lenB k).length := by unfold lenB; split <;> simp
            have h13 : ((putL (ps.take i) ++ [t] ++ lenB k)).length = (putL (ps.take i)).length + 1 + (lenB k).length := by simp; omega
            have h14 : (putL (ps.take i) ++ [t]).length = (putL (ps.take i)).length + 1 := by simp
            exact ⟨by omega, by omega, by omega, hk⟩
          clear hp hpk h1 hbl g0' g1' hI' hk hll
          have g0 := (HBd.out wr hb.out).1
          have g1 := (HBd.out wr hb.out).2.1
          obtain ⟨q, hq⟩ : ∃ q, wr.heap.size = q := ⟨_, rfl⟩
          obtain ⟨W1, hW1⟩ : ∃ W, wr.alloc (.cells #[.int .u8 (t.toNat : Int), .slice yb k cb] 26) = W := ⟨_, rfl⟩
          have hN := heap_push_at wr (.cells #[.int .u8 (t.toNat : Int), .slice yb k cb] 26)
          rw [hW1, hq] at hN
          have k0 := block_cell (v := .int .u8 (t.toNat : Int)) 0 hN rfl
          have k1 := block_cell (v := .slice yb k cb) 1 hN rfl
          have hB1 : Below wr.heap.size wr W1 := by rw [← hW1]; exact alB wr _
          have hqs : W1.heap.size = q + 1 := by rw [← hW1, ← hq]; simp
          obtain ⟨v, hv6⟩ : ∃ a, a = u6 := ⟨_, rfl⟩
          subst hv6
          have HV := show Hid (OwnL w.heap.size W1 v (putL (ps.take i)) ∧ w.heap.size ≤ q ∧ W1.heap.size = q + 1 ∧ (∀ g, v.ownBlock = some g → g < q) ∧ Below w.heap.size w W1) from ⟨hv.out.later hB1, by rw [← hq]; exact hb.out.size, hqs, fun g hg => hq ▸ (World.ownsRow.lt hv.out g hg).2, hb.out.trans (hB1.mono hb.out.size)⟩
          have HK := show Hid (W1.cell? ⟨q, 1, none⟩ = some (.slice yb k cb)) from k1
          have wi : IntKind.i64.wrap ((i : Int) + 1) = (i : Int) + 1 := by rw [IntKind.wrap_i64]; omega
          obtain ⟨vy, vc, rfl⟩ := own_shape hv.out
          obtain ⟨m, hm⟩ : ∃ m, (putL (ps.take i)).length = m := ⟨_, rfl⟩
          have HM := show Hid ((putL (ps.take i)).length = m) from hm
          rw [hm] at HV ⊢
          clear hv hN hB1 hqs hb k1 hm
          go_wp2_with (at_builtin; go_must (refine wpList_append_k rfl _ _ rfl w.heap.size (.slice vy m vc) (putL (ps.take i)) rfl (HV.out.1.later (alB _ _)) _ [t] rfl (litD W1 t) (by have := HLn.out; simp; omega) (by have := HV.out.2; simp; omega) ?_; intro v2 w2 ho2 hk2 hb2; have k1 := (kept_cellX hk2 (p := ⟨q, 1, none⟩) (by have := HV.out.2.2.1; simp; omega) (fun h => absurd (HV.out.2.2.2.1 q (by simpa using h)) (Nat.lt_irrefl q))).trans (((alB W1 (.cells #[.int .u8 (t.toNat : Int)] 5)).cell (p := ⟨q, 1, none⟩) (by have := HV.out.2.2.1; simp; omega)).trans HK.out)))
          have hr2 : RowTo w.heap.size W1 w2 (.slice vy m vc) v2 (putL (ps.take i) ++ [t]) := RowTo.pre (alB W1 _) ⟨ho2, hk2, hb2⟩
          have hw1 : w.heap.size ≤ W1.heap.size := by have := HV.out.2; omega
          have hl2 : W1.heap.size ≤ w2.heap.size := hr2.2.1.size
          have HV2 := show Hid (OwnL w.heap.size w2 v2 (putL (ps.take i) ++ [t]) ∧ Below w.heap.size w w2 ∧ q < w2.heap.size ∧ (∀ g, v2.ownBlock = some g → g ≠ q)) from ⟨ho2, HV.out.2.2.2.2.trans (hr2.below HV.out.1 hw1), by have := HV.out.2.2.1; omega, fun g hg => by
            have h8 := HV.out.2.2.1
            rcases hr2.2.2 g hg with h9 | h9
            · exact Nat.ne_of_lt (HV.out.2.2.2.1 g h9)
            · omega⟩
          have HK2 := show Hid (w2.cell? ⟨q, 1, none⟩ = some (.slice yb k cb)) from k1
          refine (xAppLen_k w.heap.size k v2 (putL (ps.take i) ++ [t]) w2 HV2.out.1 hkl HLn.out.2.2.1 (by omega)).mono ?_
          rintro e w3 ⟨v3, rfl, hr3⟩
          have k1 := (kept_cellX hr3.2.1 (p := ⟨q, 1, none⟩) HV2.out.2.2.1 (fun h => HV2.out.2.2.2 q (by simpa using h) rfl)).trans HK2.out
          have hB3 : Below w.heap.size w w3 := HV2.out.2.1.trans (hr3.below HV2.out.1 (by omega))
          have HV3 := show Hid (OwnL w.heap.size w3 v3 (putL (ps.take i) ++ [t] ++ lenB k) ∧ Below w.heap.size w w3) from ⟨hr3.1, hB3⟩
          clear hr2 hw1 hl2 ho2 hk2 hb2 hr3 hB3
          go_wp2_with (at_builtin; go_must (refine wpList_append_k rfl _ _ rfl w.heap.size v3 (putL (ps.take i) ++ [t] ++ lenB k) rfl HV3.out.1 (.slice yb k cb) bl rfl (HBd.out _ HV3.out.2).2.2 HLn.out.2.1 HV3.out.2.size ?_; intro v4 w4 ho4 hk4 hb4))
          go_roundw
          case rel => exact ⟨i + 1, by omega, by go_num, by rw [HTk.out]; exact ho4, HV3.out.2.trans (RowTo.below ⟨ho4, hk4, hb4⟩ HV3.out.1 HV3.out.2.size)⟩
          case measure => simp [intOf]; omega
        · obtain ⟨v, hv6⟩ : ∃ a, a = u6 := ⟨_, rfl⟩
          subst hv6
          have hin2 : ¬ (i : Int) < (n : Int) := by omega
          have h9 : ps.take i = ps := List.take_of_length_le (by have := HP.out.2.2.2; omega)
          rw [h9] at hv
          have HF := show Hid (OwnL w.heap.size wr v (putL ps) ∧ Below w.heap.size w wr) from ⟨hv.out, hb.out⟩
          clear hv hb h9
          go_wp2_with fail
          go_ret2
          exact ⟨⟨_, rfl, HF.out.1⟩, HF.out.2⟩
end Go.Proofs.Ythdoginhbhdmbaa
