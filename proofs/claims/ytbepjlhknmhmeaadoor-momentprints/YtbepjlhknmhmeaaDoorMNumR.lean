/-
  Package moment: number, offset, zone.
-/
import Derived.Test.YtbepjlhknmhmeaaDoorMNum
namespace Go.Proofs.YtbepjlhknmhmeaaDoor
open Go.RowKit Ch
set_option maxRecDepth 100000

/-- What a part of the reading answers: a number, or its panic. -/
def PartSays (q : Nat) (m : Option (Nat × List UInt8)) (R : ByteArray) (e : Ending) (w w' : World) : Prop :=
  (∃ (n : Nat) (S : ByteArray), m = some (n, S.data.toList) ∧ S.size ≤ R.size ∧ e = .returned (.int .i64 (n : Int)) ∧ Rd q S w' ∧ KeptX [q] w w') ∨
  (m = none ∧ e = .panicked (PE 10) ∧ KeptX [q] w w')
theorem drop_size {R S : ByteArray} (h : S.data.toList = R.data.toList.dropWhile isDig) : S.size ≤ R.size := by
  rw [← len_eq, ← len_eq, h]
  exact (List.dropWhile_suffix _).length_le
set_option maxHeartbeats 2000000 in
theorem mNumber_any (q k : Nat) (R : ByteArray) (w : World) (h : Rd q R w) (hs : R.size ≤ 1000) (hk : k ≤ 9) :
    Calls Tryd.prog 57 #[.pointer (some ⟨q, 0, none⟩), .int .i64 (k : Int)] w fun e w' => PartSays q (numM k R.data.toList) R e w w' := by
  have hD := mDigits_any q R w h hs
  have hq := h.lt
  clear h
  go_enter Tryd.func57, Tryd.ntmps57
  go_wp2_with fail
  refine hD.mono ?_
  rintro e w1 ⟨⟨D, rfl, hDd⟩, ⟨S, hSd, hr⟩, hk1⟩
  have hl : (R.data.toList.takeWhile isDig).length = D.size := by rw [← hDd, len_eq]
  clear hD
  by_cases hc : D.size = k
  · have HF := show Hid (PartSays q (numM k R.data.toList) R (.returned (.int .i64 (valL D.data.toList : Int))) w w1) from .inl ⟨_, S, by unfold numM; rw [if_pos (hl.trans hc), hDd, hSd], drop_size hSd, rfl, hr, hk1⟩
    have ec : ((D.size : Int) == (k : Int)) = true := by rw [hc]; exact beq_self_eq_true _
    have hN := mNeed_ok 10 w1
    have hV := mVal_any D w1 (by rw [hDd]; exact take_dig _) (by omega)
    clear hl hDd hSd hr hk1 hc
    go_wp2_with fail
    refine hN.mono ?_
    rintro e w2 ⟨rfl, rfl⟩
    go_wp2_with fail
    refine hV.mono ?_
    rintro e w2 ⟨rfl, rfl⟩
    clear hV hN
    go_wp2_with fail
    go_ret
    exact HF.out
  · have HF := show Hid (PartSays q (numM k R.data.toList) R (.panicked (PE 10)) w w1) from .inr ⟨by unfold numM; rw [if_neg (by rw [hl]; exact hc)], rfl, hk1⟩
    have ec : ((D.size : Int) == (k : Int)) = false := beq_eq_false_iff_ne.2 (by omega)
    have hN := mNeed_err 10 w1
    clear hl hDd hSd hr hk1
    go_wp2_with fail
    refine hN.mono ?_
    rintro e w2 ⟨rfl, rfl⟩
    exact ⟨rfl, HF.out⟩
theorem sign_size {c : UInt8} {R S : ByteArray} (h : signM c R.data.toList = some S.data.toList) : S.size ≤ R.size := by
  rw [← len_eq, ← len_eq]
  cases hl : R.data.toList with
  | nil => rw [hl] at h; cases h
  | cons x t =>
    rw [hl, signM] at h
    split at h
    · rw [← Option.some.inj h, List.length_cons]
      omega
    · cases h
end Go.Proofs.YtbepjlhknmhmeaaDoor
