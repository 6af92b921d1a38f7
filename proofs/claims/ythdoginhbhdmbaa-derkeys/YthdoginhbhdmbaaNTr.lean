/-
  bytes.Clone and nat.Trim.
-/
import Derived.Test.YthdoginhbhdmbaaNBareEtc
import Derived.Test.YthdoginhbhdmbaaUTwo
namespace Go.Proofs.Ythdoginhbhdmbaa
open Go.RowKit Ch
set_option maxRecDepth 100000

set_option maxHeartbeats 1000000 in
theorem cBytesClone_any (x : Option Addr) (m cx : Nat) (s : ByteArray) (w : World) (hS : IsBytes w (.slice x m cx) s) (hm : m = s.size) (hs : s.size ≤ 1000000) :
    Calls Try.prog 58 #[.slice x m cx] w fun e w' => ∃ v, e = .returned v ∧ w'.ownsRow w.heap.size 5 1 v s.size (byteVals s) ∧ Below w.heap.size w w' := by
  have HS := show Hid (IsBytes w (.slice x m cx) s) from hS
  have HM := show Hid (m = s.size) from hm
  clear hS hm
  have q22 : ∀ (w : World) (a : Option Addr) (n c n' c' : Nat), (binOp .eql 24 (.slice a n c) (.slice none n' c')).run Try.prog w = .ok (.bool a.isNone) w := fun w a n c n' c' => Lib.run_eql_slice_nil w _ 5 a n c n' c' (by kernel_rfl)
  rcases x with _ | x
  · have h0 : s.size = 0 := by
      obtain ⟨_, _, e1, _, _, ⟨_, h0, _⟩ | ⟨_, e2, _⟩⟩ := HS.out
      · exact h0
      · simp only [Value.slice.injEq] at e1
        rw [← e1.1] at e2
        cases e2
    have HZ := show Hid (s.size = 0) from h0
    clear h0
    go_enter Try.func58, Try.ntmps58
    go_wp2_with fail
    go_ret
    refine ⟨_, rfl, ?_, Below.refl _ _⟩
    rw [empty_of_size HZ.out]
    exact own_nil _ _ _
  · go_enter Try.func58, Try.ntmps58
    go_wp2_with (at_builtin; go_must (refine wpList_append_bytes rfl _ _ rfl w.heap.size _ ByteArray.empty rfl (own_empty w _ (Nat.le_refl _)) _ s rfl (HS.out.alloc _) (by simp; omega) (by simp) ?_; intro v2 w2 ho2 hb2))
    go_ret
    refine ⟨_, rfl, ?_, ?_⟩
    · rw [cat_empty] at ho2
      exact ho2
    · exact ((Below.refl _ w).alloc (Nat.le_refl _) _).trans hb2
set_option maxHeartbeats 1000000 in
theorem nTrim_any (x : Option Addr) (cx : Nat) (s : ByteArray) (w : World) (hS : IsBytes w (.slice x s.size cx) s) (hs : s.size ≤ 1000000) :
    Calls Try.prog 44 #[.slice x s.size cx] w fun e w' => ∃ v, e = .returned v ∧ w'.ownsRow w.heap.size 5 1 v (bareL s.data.toList).length (Lib.byteCells (bareL s.data.toList)) ∧ Below w.heap.size w w' := by
  have hA := nBare_any x cx s w hS hs
  clear hS
  have hle : (bareL s.data.toList).length ≤ 1000000 := Nat.le_trans (List.dropWhile_sublist _).length_le (by rw [len_eq]; exact hs)
  go_enter Try.func44, Try.ntmps44
  go_wp2_with fail
  refine hA.mono ?_
  rintro e w1 ⟨⟨ya, ma, ca, rfl, hma, ha⟩, rfl⟩
  have hz : (⟨(bareL s.data.toList).toArray⟩ : ByteArray).size = (bareL s.data.toList).length := size_of_list _
  have hC := cBytesClone_any ya ma ca _ w1 ha (by rw [hz]; exact hma) (by rw [hz]; exact hle)
  rw [hz] at hC
  have HA := show Hid (ma = (bareL s.data.toList).length) from hma
  clear hma hA ha hz
  go_wp2_with fail
  refine hC.mono ?_
  rintro e w2 ⟨v, rfl, ho, hb⟩
  go_wp2_with fail
  go_ret
  exact ⟨_, rfl, ho, hb⟩
end Go.Proofs.Ythdoginhbhdmbaa
