/-
  Package der: appendLength.
-/
import Derived.Test.YthdoginhbhdmbaaXLen
import Derived.Test.YthdoginhbhdmbaaNTr
import Derived.Test.YthdoginhbhdmbaaUTwo
namespace Go.Proofs.Ythdoginhbhdmbaa
open Go.RowKit Ch
set_option maxRecDepth 100000

theorem litC (w : World) (s : ByteArray) (C : Array Value) (hC : C.toList = byteVals s) (hn : s.size ≤ maxLen) : IsBytes (w.alloc (.cells C 5)) (.slice (some ⟨w.heap.size, 0, none⟩) s.size s.size) s := by
  refine ⟨some ⟨w.heap.size, 0, none⟩, s.size, rfl, Nat.le_refl _, hn, .inr ⟨_, rfl, .inr ⟨w.heap.size, 0, rfl, by simp, ?_⟩⟩⟩
  intro i hi
  rw [Nat.zero_add] at hi
  have e1 : (byteVals s)[i]? = some (.int .u8 (byte s i : Int)) := by
    unfold byteVals
    rw [List.getElem?_map, list_at s i hi, byte_eq s i hi]
    rfl
  rw [← hC, Array.getElem?_toList] at e1
  rw [Nat.zero_add]
  exact block_cell _ (heap_push_at w _) e1
/-- A row of the call's own: these bytes. -/
def OwnL (base : Nat) (w : World) (v : Value) (l : List UInt8) : Prop := w.ownsRow base 5 1 v l.length (Lib.byteCells l)
theorem OwnL.is {base : Nat} {w : World} {v : Value} {l : List UInt8} (h : OwnL base w v l) : IsBytes w v ⟨l.toArray⟩ := by
  refine own_bytes (base := base) ?_
  have e : (⟨l.toArray⟩ : ByteArray).size = l.length := size_of_list l
  rw [e]
  exact h
/-- append of bytes onto a row of the call's own. -/
theorem wpList_append_l {w : World} {ops : Array Oper} {rest : List Oper} {o : Oper} {ac : Act} {Q : Exit → Act → World → Prop} (hgd : o.guard = none) (so x : Operand)
    (ho : o.op = .call { callee := .builtin .append, args := #[so, x], argTypes := #[24, 24] })
    (base : Nat) (v : Value) (l : List UInt8) (hs : ac.eval so = v) (hown : OwnL base w v l)
    (u : Value) (t : List UInt8) (hx : ac.eval x = u) (hu : IsBytes w u ⟨t.toArray⟩) (hsz : l.length + t.length ≤ 1000000) (hbase : base ≤ w.heap.size)
    (h : ∀ v' w', OwnL base w' v' (l ++ t) → Below base w w' → wpList Try.prog ops Q rest (ac.put o.dst v') w') : wpList Try.prog ops Q (o :: rest) ac w := by
  have e1 : (⟨l.toArray⟩ : ByteArray).size = l.length := size_of_list l
  have e2 : (⟨t.toArray⟩ : ByteArray).size = t.length := size_of_list t
  refine wpList_append_bytes hgd so x ho base v ⟨l.toArray⟩ hs (by rw [e1]; exact hown) u ⟨t.toArray⟩ hx hu (by rw [e1, e2]; exact hsz) hbase ?_
  intro v' w' ho' hb'
  refine h v' w' ?_ hb'
  have e3 : (cat ⟨l.toArray⟩ ⟨t.toArray⟩).size = (l ++ t).length := by
    rw [← len_eq]
    simp [cat]
  have e4 : byteVals (cat ⟨l.toArray⟩ ⟨t.toArray⟩) = Lib.byteCells (l ++ t) := by
    simp [byteVals, cat, Lib.byteCells]
  rw [e3, e4] at ho'
  exact ho'
theorem wpList_append_twob {w0 wr : World} {ops : Array Oper} {rest : List Oper} {o : Oper} {ac : Act} {Q : Exit → Act → World → Prop} (hgd : o.guard = none) (so x : Operand)
    (ho : o.op = .call { callee := .builtin .append, args := #[so, x], argTypes := #[24, 24] })
    (base : Nat) (v : Value) (acc : List UInt8) (hs : ac.eval so = v) (hown : wr.ownsRow base 5 1 v acc.length (Lib.byteCells acc))
    (z : Int) (hx : ac.eval x = .slice (some ⟨wr.heap.size, 0, none⟩) 1 1) (c : UInt8) (hc : Hid (z = (c.toNat : Int))) (acc' : List UInt8) (he : Hid (acc ++ [c] = acc')) (hlen : acc.length ≤ 1000000) (hbase : base ≤ wr.heap.size) (hb : Below base w0 wr)
    (e2 : TypeId) (size2 n2 : Nat) (u : Value) (xs : List Value) (hother : wr.ownsRow base e2 size2 u n2 xs) (hap : Apart v u)
    (h : ∀ v' w', w'.ownsRow base 5 1 v' acc'.length (Lib.byteCells acc') → Below base w0 w' → w'.ownsRow base e2 size2 u n2 xs → Apart v' u → wpList Try.prog ops Q rest (ac.put o.dst v') w') :
    wpList Try.prog ops Q (o :: rest) ac (wr.alloc (.cells #[.int .u8 z] 5)) := by
  obtain ⟨i0, hi, hz0, hz1, hz2⟩ := info5
  refine wpList_append_where _ hgd _ _ 24 ho base 5 i0 (.int .u8 0) 1 Try.underlying24 hi hz0 hz1 hz2 rfl v _ _ hs (hown.alloc _) ⟨wr.heap.size, 0, none⟩ 1 1 [_] hx rfl (cell_one_new _ _ _) (by intro u hu; simp at hu; subst hu; rfl) (by unfold maxLen; omega) (by omega) (by simp; omega) (by decide) ?_
  intro v' w2 hown2 hgrow hwhere
  have hb2 := below_grown hb hbase hown hgrow
  rw [hc.out] at hown2
  have hown3 := own_snoc (c := c) hown2
  rw [he.out] at hown3
  have hlt := World.ownsRow.lt hother
  refine h v' w2 hown3 hb2 ((hother.alloc _).kept hgrow ?_) ?_
  · rcases hu : u.ownBlock with _ | k
    · exact .inl rfl
    · exact .inr (fun hh => hap k hh.symm hu)
  · intro k hk hu
    rcases hwhere with h1 | h1
    · exact hap k (by rw [← h1]; exact hk) hu
    · rw [h1] at hk
      have := (hlt k hu).2
      simp at hk
      omega
theorem OwnL.later {base : Nat} {w w' : World} {v : Value} {l : List UInt8} (h : OwnL base w v l) (hb : Below w.heap.size w w') : OwnL base w' v l := by
  refine ⟨h.1, ?_⟩
  rcases h.2 with h2 | ⟨g, cap, cur, hv, hg2, hh, r⟩
  · exact .inl h2
  · exact .inr ⟨g, cap, cur, hv, hg2, (hb.block g (block_lt hh)).trans hh, r⟩
set_option maxHeartbeats 4000000 in
theorem xAppLen_any (base n : Nat) (v : Value) (l : List UInt8) (w : World) (ho : OwnL base w v l) (hn : n < 1048576) (hl : l.length ≤ 900000) (hbase : base ≤ w.heap.size) :
    Calls Try.prog 21 #[v, .int .i64 (n : Int)] w fun e w' => (∃ v', e = .returned v' ∧ OwnL base w' v' (l ++ lenB n)) ∧ Below base w w' := by
  obtain ⟨y, c, rfl⟩ := own_shape ho
  have hlen : l.length ≤ 1000000 := by omega
  by_cases h : n < 128
  · have hI : (n : Int) < 128 := by omega
    have wu : IntKind.u8.wrap (n : Int) = ((UInt8.ofNat n).toNat : Int) := by
      rw [ofNat_small (by omega)]
      exact wraps_u8 _ (by omega) (by omega)
    obtain ⟨l', hl'⟩ : ∃ l', Hid (l ++ [UInt8.ofNat n] = l') := ⟨_, rfl⟩
    have HL := show Hid (l ++ lenB n = l') from by unfold Hid lenB; rw [if_pos h]; exact hl'.out
    have hc0 : Hid (((UInt8.ofNat n).toNat : Int) = ((UInt8.ofNat n).toNat : Int)) := rfl
    obtain ⟨d, hd⟩ : ∃ d : UInt8, UInt8.ofNat n = d := ⟨_, rfl⟩
    rw [hd] at wu hl' hc0
    rw [HL.out]
    have ho' := show w.ownsRow base 5 1 (.slice y l.length c) l.length (Lib.byteCells l) from ho
    clear h hd ho
    go_enter Try.func21, Try.ntmps21
    go_wp2_with (at_builtin; go_must (refine wpList_append_one rfl _ _ rfl base (.slice y l.length c) l rfl ho' _ rfl d rfl _ hl' hlen hbase (Below.refl base w) ?_; intro v2 w2 ho2 hb2))
    go_ret
    exact ⟨⟨_, rfl, ho2⟩, hb2⟩
  · have hI : ¬ (n : Int) < 128 := by omega
    obtain ⟨ds, hds, h1, h3, hv, h0⟩ := len_forms (n := n) (by omega) hn
    have HL := show Hid (lenB n = UInt8.ofNat (128 + ds.length) :: ds) from by unfold Hid lenB; rw [if_neg h, hds]
    have w2u : IntKind.u8.wrap ((n : Int) / 65536) = ((UInt8.ofNat (n / 65536)).toNat : Int) := by
      rw [ofNat_small (by omega), wraps_u8 _ (by omega) (by omega)]
      omega
    have w1u : IntKind.u8.wrap ((n : Int) / 256) = ((UInt8.ofNat (n / 256)).toNat : Int) := by
      rw [IntKind.wrap_u8]
      simp
    have w0u : IntKind.u8.wrap (n : Int) = ((UInt8.ofNat n).toNat : Int) := by
      rw [IntKind.wrap_u8]
      simp
    obtain ⟨a2, ha2⟩ : ∃ d : UInt8, UInt8.ofNat (n / 65536) = d := ⟨_, rfl⟩
    obtain ⟨a1, ha1⟩ : ∃ d : UInt8, UInt8.ofNat (n / 256) = d := ⟨_, rfl⟩
    obtain ⟨a0, ha0⟩ : ∃ d : UInt8, UInt8.ofNat n = d := ⟨_, rfl⟩
    rw [ha2] at w2u hds
    rw [ha1] at w1u hds
    rw [ha0] at w0u hds
    obtain ⟨W0, hW0⟩ : ∃ W, w.alloc (.cells #[.int .u8 (a2.toNat : Int), .int .u8 (a1.toNat : Int), .int .u8 (a0.toNat : Int)] 5) = W := ⟨_, rfl⟩
    have hb0 : Below w.heap.size w W0 := by rw [← hW0]; exact (Below.refl _ w).alloc (Nat.le_refl _) _
    have hlit : IsBytes W0 (.slice (some ⟨w.heap.size, 0, none⟩) 3 3) ⟨#[a2, a1, a0]⟩ := by rw [← hW0]; exact litC w ⟨#[a2, a1, a0]⟩ _ rfl (show (3 : Nat) ≤ maxLen by unfold maxLen; decide)
    have hT := show Calls Try.prog 44 #[.slice (some ⟨w.heap.size, 0, none⟩) 3 3] W0 _ from nTrim_any _ 3 ⟨#[a2, a1, a0]⟩ W0 hlit (show (3 : Nat) ≤ 1000000 by decide)
    rw [show bareL (⟨#[a2, a1, a0]⟩ : ByteArray).data.toList = ds from hds] at hT
    have HO := show Hid (OwnL base w (.slice y l.length c) l ∧ base ≤ w.heap.size ∧ Below w.heap.size w W0) from ⟨ho, hbase, hb0⟩
    clear hds hv h0 h ha2 ha1 ha0 hlit hb0 ho hbase hn
    go_enter Try.func21, Try.ntmps21
    go_wp2_with fail
    refine hT.mono ?_
    rintro e w1 ⟨v1, rfl, ho1, hb1⟩
    clear hT
    obtain ⟨y1, c1, rfl⟩ := own_shape ho1
    have hz0 : W0.heap.size = w.heap.size + 1 := by rw [← hW0]; simp
    have hb01 := HO.out.2.2.trans (hb1.mono HO.out.2.2.size)
    have hv1 := show w1.ownsRow base 5 1 (.slice y l.length c) l.length (Lib.byteCells l) from HO.out.1.later hb01
    have hd1 := own_monoN ho1 (b := base) (by have := HO.out.2.1; omega)
    have hap : Apart (.slice y l.length c) (.slice y1 ds.length c1) := fun k hk hk2 => by
      have h5 := (World.ownsRow.lt HO.out.1 k hk).2
      have h6 := (World.ownsRow.lt ho1 k hk2).1
      omega
    have hbase1 : base ≤ w1.heap.size := Nat.le_trans HO.out.2.1 hb01.size
    have hBw := show Hid (Below base w w1) from hb01.mono HO.out.2.1
    obtain ⟨k, hk⟩ : ∃ k, ds.length = k := ⟨_, rfl⟩
    have hk3 : k ≤ 3 := by omega
    obtain ⟨kk, hkk⟩ : ∃ a, 128 + k = a := ⟨_, rfl⟩
    have hkI : (128 : Int) + (k : Int) = (kk : Int) := by omega
    have wk : IntKind.i64.wrap (kk : Int) = (kk : Int) := by rw [IntKind.wrap_i64]; omega
    have wku : IntKind.u8.wrap (kk : Int) = ((UInt8.ofNat kk).toNat : Int) := by
      rw [ofNat_small (by omega)]
      exact wraps_u8 _ (by omega) (by omega)
    obtain ⟨d, hd⟩ : ∃ d : UInt8, UInt8.ofNat kk = d := ⟨_, rfl⟩
    rw [hd] at wku
    have HD := show Hid (l ++ lenB n = (l ++ [d]) ++ ds) from by unfold Hid; rw [HL.out, hk, hkk, hd]; simp
    rw [hk] at hd1 hap ⊢
    obtain ⟨l', hl'⟩ : ∃ l', Hid (l ++ [d] = l') := ⟨_, rfl⟩
    have HKD := show Hid (ds.length = k ∧ l'.length = l.length + 1) from ⟨hk, by rw [← hl'.out]; simp⟩
    rw [hl'.out] at HD
    clear ho1 hb1 hb01 hk hkk hd HO HL hW0 hz0 h1 h3 w0u w1u w2u
    have e9 : ∀ (u : World) (v : Value), w1.ownsRow base 5 1 v k (Lib.byteCells ds) → True := fun _ _ _ => trivial
    clear e9
    go_wp2_with (at_builtin; go_must (first | (refine wpList_append_twob rfl _ _ rfl base (.slice y l.length c) l rfl hv1 _ rfl d rfl _ hl' hlen hbase1 (Below.refl base w1) 5 1 k (.slice y1 k c1) (Lib.byteCells ds) hd1 hap ?_; intro v2 w2 ho2 hb2 hd2 hap2) | (refine wpList_append_l rfl _ _ rfl base _ l' rfl ho2 (.slice y1 k c1) ds rfl (OwnL.is (base := base) (show OwnL base _ _ ds from by unfold OwnL; rw [HKD.out.1]; exact hd2)) (by have := HKD.out; omega) (by have := hb2.size; omega) ?_; intro v3 w3 ho3 hb3)))
    go_ret
    rw [HD.out]
    exact ⟨⟨_, rfl, ho3⟩, (hBw.out.trans hb2).trans hb3⟩
end Go.Proofs.Ythdoginhbhdmbaa
