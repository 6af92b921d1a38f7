/-
  The statement on Bad: what the program answers is what the document's own reading answers, for every list of bytes.
-/
import Derived.Test.YtmhbdckgejcdhaaDoorBytes
namespace Go.Proofs.YtmhbdckgejcdhaaDoor
open Go.ChangeShapes Go.WideShapes Go.ChangeAt Go.RowKit Ch

theorem info5 : ∃ i, Tryd.prog.info? 5 = some i ∧ i.zero = some (.int .u8 0) ∧ i.size = 1 ∧ i.bytes = 1 := info_parts (by kernel_rfl)

theorem own_empty (w : World) (base : Nat) (hb : base ≤ w.heap.size) : (w.alloc (.cells #[] 5)).ownsRow base 5 1 (.slice (some ⟨w.heap.size, 0, none⟩) 0 0) 0 [] :=
  ⟨rfl, .inr ⟨w.heap.size, 0, #[], rfl, hb, heap_push_at w _, Nat.le_refl _, by unfold maxLen; omega, rfl, rfl⟩⟩

theorem IsBytes.alloc {w : World} {v : Value} {s : ByteArray} (h : IsBytes w v s) (o : Obj) : IsBytes (w.alloc o) v s := h.later ((Below.refl _ w).alloc (Nat.le_refl _) o)

/-- The cells that are appended. -/
theorem IsBytes.news {w : World} {x : Addr} {n cap : Nat} {s : ByteArray} (h : IsBytes w (.slice (some x) n cap) s) : ∀ j u, (byteVals s)[j]? = some u → w.cell? (x.add j) = some u := by
  intro j u hj
  obtain ⟨hlt, rfl⟩ := byteVals_at hj
  obtain ⟨a, cap', hv, _, _, ⟨rfl, _, _⟩ | ⟨y, rfl, h0 | ⟨b, o, rfl, _, hf⟩⟩⟩ := h
  · cases hv
  · omega
  · simp only [Value.slice.injEq, Option.some.injEq] at hv
    rw [hv.1]
    have := hf j (by omega)
    rw [Nat.zero_add] at this
    have e : (⟨b, o, none⟩ : Addr).add j = ⟨b, o + j, none⟩ := by unfold Addr.add; split <;> simp_all
    rw [e]
    exact this

set_option maxHeartbeats 1000000 in
theorem lBad_long (a : Option Addr) (len cap : Nat) (w : World) (hl63 : len ≤ 9223372036854775807) (h5 : 5000 < len) (ht : Tabs w) :
    Calls Tryd.prog 3 #[.slice a len cap] w fun e w' => e = .returned (.bool true) ∧ Below w.heap.size w w' := by
  go_enter Tryd.func3, Tryd.ntmps3
  go_wp2_with fail
  refine (awake_any w ht).mono ?_
  rintro e w1 ⟨rfl, b1⟩
  have t1 := ht.later b1
  go_wp2_with fail
  refine (awake_any w1 t1).mono ?_
  rintro e w2 ⟨rfl, b2⟩
  go_wp2_with fail
  go_ret
  exact ⟨rfl, b1.trans (b2.mono b1.size)⟩

set_option maxHeartbeats 1000000 in
theorem lBad_nil (w : World) (ht : Tabs w) :
    Calls Tryd.prog 3 #[.slice none 0 0] w fun e w' => e = .returned (.bool true) ∧ Below w.heap.size w w' := by
  obtain ⟨i0, hi, hz0, hz1, hz2⟩ := info5
  go_enter Tryd.func3, Tryd.ntmps3
  go_wp2_with fail
  refine (awake_any w ht).mono ?_
  rintro e w1 ⟨rfl, b1⟩
  go_wp2_with (at_builtin; refine wpList_append_own_none rfl _ _ 22 rfl w1.heap.size 5 i0 1 Tryd.underlying22 hi _ _ _ rfl (own_empty w1 _ (Nat.le_refl _)) rfl ?_)
  have ib := own_bytes (s := ByteArray.empty) (own_empty w1 _ (Nat.le_refl _))
  refine (cBad_bytes ib (by decide)).mono ?_
  rintro e w2 ⟨rfl, b2⟩
  go_wp2_with fail
  refine (rBad_empty none 0 w2).mono ?_
  rintro e w3 ⟨rfl, rfl⟩
  have hz : bad ByteArray.empty = -1 := rfl
  go_wp2_with fail
  go_ret
  exact ⟨rfl, b1.trans ((below_alloc b2).mono b1.size)⟩

set_option maxHeartbeats 1000000 in
theorem lBad_some (x : Addr) (cap : Nat) (s : ByteArray) (w : World) (hs : s.size ≤ 5000) (h : IsBytes w (.slice (some x) s.size cap) s) (ht : Tabs w) :
    Calls Tryd.prog 3 #[.slice (some x) s.size cap] w fun e w' => e = .returned (.bool true) ∧ Below w.heap.size w w' := by
  obtain ⟨i0, hi, hz0, hz1, hz2⟩ := info5
  have HB : Hid (IsBytes w (.slice (some x) s.size cap) s) := h
  clear h
  go_enter Tryd.func3, Tryd.ntmps3
  go_wp2_with fail
  refine (awake_any w ht).mono ?_
  rintro e w1 ⟨rfl, b1⟩
  have HB1 : Hid (IsBytes w1 (.slice (some x) s.size cap) s) := HB.out.later b1
  go_wp2_with (at_builtin; refine wpList_append_own _ rfl _ _ 22 rfl w1.heap.size 5 i0 (.int .u8 0) 1 1 Tryd.underlying22 hi hz0 hz1 hz2 rfl (by decide) _ _ _ rfl (own_empty w1 _ (Nat.le_refl _)) x s.size cap (byteVals s) rfl ?c0 ?c1 ?c2 ?c3 ?c4 ?c5 ?_)
  case c0 => rw [byteVals_length]; omega
  case c1 => exact (HB1.out.alloc _).news
  case c2 => exact byteVals_one s
  case c3 => unfold maxLen; omega
  case c4 => omega
  case c5 => simp
  intro v' w2 hown hgrow _
  have hB2 : Below w1.heap.size w1 w2 := ((Below.refl _ w1).alloc (Nat.le_refl _) _).grown hgrow (by simp) (fun k hk => by simp [Value.ownBlock] at hk; omega)
  have HB2 : Hid (IsBytes w2 (.slice (some x) s.size cap) s) := HB1.out.later hB2
  have ib : Hid (IsBytes w2 v' s) := own_bytes hown
  clear hown hgrow
  go_wp2_with fail
  refine (cBad_bytes ib.out (by omega)).mono ?_
  rintro e w3 ⟨rfl, b3⟩
  have HB3 : Hid (IsBytes w3 (.slice (some x) s.size cap) s) := HB2.out.later b3
  go_wp2_with fail
  refine (rBad_bytes HB3.out (by omega)).mono ?_
  rintro e w4 ⟨rfl, rfl⟩
  go_wp2_with fail
  go_ret
  have c2 := b1.trans (hB2.mono b1.size)
  exact ⟨ret_bool (by simp), c2.trans (b3.mono c2.size)⟩

theorem lBad_walk (a : Option Addr) (len cap : Nat) (s : ByteArray) (w : World) (hlen : s.size = len) (h : IsBytes w (.slice a len cap) s) (ht : Tabs w) :
    Calls Tryd.prog 3 #[.slice a len cap] w fun e w' => e = .returned (.bool true) ∧ Below w.heap.size w w' := by
  subst hlen
  by_cases h5 : 5000 < s.size
  · refine lBad_long a s.size cap w ?_ h5 ht
    obtain ⟨a', cap', hv, hc, hm, _⟩ := h
    unfold maxLen at hm
    omega
  · match a, h with
    | some x, h => exact lBad_some x cap s w (by omega) h ht
    | none, h =>
      obtain ⟨a', cap', hv, hc, hm, ⟨rfl, h0, rfl⟩ | ⟨y, rfl, _⟩⟩ := h
      · simp only [Value.slice.injEq, true_and] at hv
        rw [h0, hv]
        exact lBad_nil w ht
      · cases hv
end Go.Proofs.YtmhbdckgejcdhaaDoor
