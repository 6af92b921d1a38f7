/-
  The document's digits of bytes.
-/
import Derived.Test.YthfgbcpppamboaaNRef
namespace Go.Proofs.Ythfgbcpppamboaa
open Go.RowKit Ch
set_option maxRecDepth 100000

def RI : KR := ⟨.i64, 3, 24, 8, Try.underlying24, by kernel_rfl, by decide⟩
/-- The digits from j on, the lowest first. -/
def digR (s : ByteArray) (j : Nat) : List Nat := ((s.data.toList.drop j).map UInt8.toNat).reverse
theorem digR_len (s : ByteArray) (j : Nat) : (digR s j).length = s.size - j := by simp [digR]
theorem digR_all (s : ByteArray) : digR s s.size = [] := by
  unfold digR
  rw [List.drop_of_length_le (by rw [len_eq]; exact Nat.le_refl _)]
  rfl
theorem digR_step (s : ByteArray) (k : Nat) (h : k < s.size) : digR s (k + 1) ++ [byte s k] = digR s k := by
  have hl : k < s.data.toList.length := by rw [len_eq]; exact h
  unfold digR
  rw [List.drop_eq_getElem_cons hl, List.map_cons, List.reverse_cons]
  congr 2
  rw [byte_list, List.getElem?_eq_getElem hl]
  rfl
set_option maxHeartbeats 2000000 in
theorem dOf_any (x : Option Addr) (cx : Nat) (s : ByteArray) (w : World) (hS : IsBytes w (.slice x s.size cx) s) (hs : s.size ≤ 1000000) :
    Calls Try.prog 12 #[.slice x s.size cx] w fun e w' => (∃ v, e = .returned v ∧ (∃ y c, v = .slice y (trimL (digR s 0)).length c) ∧ IsN .i64 w' v (trimL (digR s 0))) ∧ Below w.heap.size w w' := by
  have HS := show Hid (IsBytes w (.slice x s.size cx) s) from hS
  clear hS
  have w0 : IntKind.i64.wrap ((s.size : Int) - 1) = (s.size : Int) - 1 := by rw [IntKind.wrap_i64]; omega
  go_enter Try.func12, Try.ntmps12
  go_wp2_with fail
  go_loopw [3, 4] (fun v t wr => ∃ j : Nat, j ≤ s.size ∧ t = .int .i64 ((j : Int) - 1) ∧ wr.ownsRow w.heap.size 3 1 v (digR s j).length (kc .i64 (digR s j)) ∧ Below w.heap.size w wr) (fun _ t _ => (intOf t + 1).toNat)
  case atStart => exact ⟨s.size, Nat.le_refl _, rfl, by rw [digR_all]; exact own_nil _ _ _, Below.refl _ _⟩
  case round =>
    obtain ⟨j, hj, rfl, hown, hb⟩ := hrel
    rcases j with _ | k
    · have hge : ¬ (0 : Int) ≤ ((0 : Nat) : Int) - 1 := by omega
      obtain ⟨ya, ca, rfl⟩ := own_shape hown
      have hT := dTrim_any ya ca (digR s 0) _ (own_n hown) (by rw [digR_len]; omega)
      have HB := show Hid (Below w.heap.size w _) from hb
      clear hown hb
      go_wp2_with fail
      refine hT.mono ?_
      rintro e w2 ⟨rfl, hn, rfl⟩
      go_wp2_with fail
      go_ret
      exact ⟨⟨_, rfl, ⟨_, _, rfl⟩, hn⟩, HB.out⟩
    · have e1 : ((k + 1 : Nat) : Int) - 1 = (k : Int) := by omega
      rw [e1]
      have hge : (0 : Int) ≤ (k : Int) := by omega
      have hlt : (k : Int) < (s.size : Int) := by omega
      obtain ⟨b, o, rfl, hbl, gc⟩ := IsBytes.cellAt (HS.out.later hb) (i := k) (by omega)
      obtain ⟨m, hm⟩ : ∃ m, byte s k = m := ⟨_, rfl⟩
      have hm8 : m < 256 := by rw [← hm]; exact byte_lt s k
      have HA := show Hid (digR s (k + 1) ++ [m] = digR s k) from by unfold Hid; rw [← hm]; exact digR_step s k (by omega)
      rw [hm] at gc
      have hpl : (digR s (k + 1)).length ≤ 1000000 := by rw [digR_len]; omega
      have hbz := hb.size
      have wm : IntKind.i64.wrap (m : Int) = (m : Int) := by rw [IntKind.wrap_i64]; omega
      have wk : IntKind.i64.wrap ((k : Int) - 1) = (k : Int) - 1 := by rw [IntKind.wrap_i64]; omega
      clear hm e1
      go_wp2_with (at_builtin; go_must (refine wpList_append_n RI rfl _ _ rfl w.heap.size _ _ rfl hown _ rfl m rfl _ HA hpl hbz hb ?_; intro v2 w2 ho2 hb2))
      go_roundw
      case rel => exact ⟨k, by omega, rfl, ho2, hb2⟩
      case measure => simp [intOf]
end Go.Proofs.Ythfgbcpppamboaa
