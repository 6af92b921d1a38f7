/-
  Package der: Put, of pieces one of which may not be put.
-/
import Derived.Test.YthdoginhbhdmbaaXPut
namespace Go.Proofs.Ythdoginhbhdmbaa
open Go.RowKit Ch
set_option maxRecDepth 100000

set_option maxHeartbeats 8000000 in
theorem xPut_bad (x : Option Addr) (cx : Nat) (ps : List (UInt8 × List UInt8)) (w : World) (hP : IsPs w (.slice x ps.length cx) ps) (hbad : ¬ ∀ p ∈ ps, tagOk p.1) (hok : ∀ p ∈ ps, p.2.length < 1048576) (hl : ps.length ≤ 100000) :
    Calls Try.prog 8 #[.slice x ps.length cx] w fun e w' => e = .returned (.tuple #[.slice none 0 0, .int .i64 2]) ∧ Below w.heap.size w w' := by
  obtain ⟨n, hn⟩ : ∃ n, ps.length = n := ⟨_, rfl⟩
  rw [hn] at hP hl ⊢
  have HP := show Hid (IsPs w (.slice x n cx) ps ∧ (∀ p ∈ ps, p.2.length < 1048576) ∧ (¬ ∀ p ∈ ps, tagOk p.1) ∧ ps.length = n) from ⟨hP, hok, hbad, hn⟩
  clear hP hok hbad hn
  go_enter Try.func8, Try.ntmps8
  go_wp2_with fail
  go_loopw [11] (fun t wr => ∃ i : Nat, i ≤ n ∧ t = .int .i64 (i : Int) ∧ Hid (∀ j p, j < i → ps[j]? = some p → tagOk p.1) ∧ Hid (Below w.heap.size w wr)) (fun t _ => n - (intOf t).toNat)
  case atStart => exact ⟨0, by omega, rfl, fun j p h _ => absurd h (Nat.not_lt_zero j), Below.refl _ _⟩
  case round =>
    obtain ⟨i, hi, rfl, hg, hb⟩ := hrel
    by_cases hin : i < n
    · have hinI : (i : Int) < (n : Int) := by omega
      obtain ⟨p, hp⟩ : ∃ p, ps[i]? = some p := ⟨_, List.getElem?_eq_getElem (by rw [HP.out.2.2.2]; exact hin)⟩
      have hpk := HP.out.2.1 p (List.mem_of_getElem? hp)
      obtain ⟨y0, c0, h0, _, h1⟩ := HP.out.1.later hb.out
      simp only [Value.slice.injEq] at h0
      obtain ⟨rfl, hn0, rfl⟩ := h0
      clear hn0
      obtain ⟨b, o, yb, cb, rfl, hbl, g0, g1, _⟩ := h1 i p hp
      obtain ⟨t, bl⟩ := p
      obtain ⟨k, hk⟩ : ∃ k, bl.length = k := ⟨_, rfl⟩
      have hkl : ¬ (1048576 : Int) ≤ (k : Int) := by have := hpk; simp only at this; omega
      have hkb : decide ((1048576 : Int) ≤ (k : Int)) = false := decide_eq_false hkl
      dsimp only at g0 g1
      rw [hk] at g1
      obtain ⟨q, hq⟩ : ∃ q, wr.heap.size = q := ⟨_, rfl⟩
      obtain ⟨W1, hW1⟩ : ∃ W, wr.alloc (.cells #[.int .u8 (t.toNat : Int), .slice yb k cb] 26) = W := ⟨_, rfl⟩
      have hN := heap_push_at wr (.cells #[.int .u8 (t.toNat : Int), .slice yb k cb] 26)
      rw [hW1, hq] at hN
      have k0 := block_cell (v := .int .u8 (t.toNat : Int)) 0 hN rfl
      have k1 := block_cell (v := .slice yb k cb) 1 hN rfl
      have hT := xIsTag_any t
      have HB1 := show Hid (Below w.heap.size w W1) from hb.out.trans (by rw [← hW1]; exact (alB wr _).mono hb.out.size)
      have HG := show Hid ((∀ j p, j < i → ps[j]? = some p → tagOk p.1) ∧ ps[i]? = some (t, bl)) from ⟨hg.out, hp⟩
      clear hp hpk h1 hk hN hb hbl hg
      by_cases htg : tagOk t
      · have hd : decide (t.toNat % 32 ≠ 31) = true := decide_eq_true htg
        rw [hd] at hT
        clear hd
        go_wp2_with fail
        refine (hT _).mono ?_
        rintro e w2 ⟨rfl, rfl⟩
        clear hT hW1 hq g0 g1
        have wi : IntKind.i64.wrap ((i : Int) + 1) = (i : Int) + 1 := by rw [IntKind.wrap_i64]; omega
        go_wp2_with fail
        go_roundw
        case rel =>
          refine ⟨i + 1, by omega, by go_num, ?_, HB1.out⟩
          intro j p hj hp
          rcases Nat.lt_succ_iff_lt_or_eq.1 hj with h9 | h9
          · exact HG.out.1 j p h9 hp
          · rw [h9, HG.out.2] at hp
            rw [← Option.some.inj hp]
            exact htg
        case measure => simp [intOf]; omega
      · have hd : decide (t.toNat % 32 ≠ 31) = false := decide_eq_false htg
        rw [hd] at hT
        clear hd
        go_wp2_with fail
        refine (hT _).mono ?_
        rintro e w2 ⟨rfl, rfl⟩
        clear hT hW1 hq g0 g1
        go_wp2_with fail
        go_ret2
        exact ⟨rfl, HB1.out⟩
    · exfalso
      refine HP.out.2.2.1 fun p hp => ?_
      obtain ⟨j, hj, rfl⟩ := List.getElem_of_mem hp
      exact hg.out j _ (by have := HP.out.2.2.2; omega) (List.getElem?_eq_getElem hj)
end Go.Proofs.Ythdoginhbhdmbaa
