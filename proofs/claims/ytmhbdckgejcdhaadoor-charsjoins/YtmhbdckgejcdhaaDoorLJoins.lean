/-
  The statement on texts put together and cut, for every two lists of bytes and every cut.
-/
import Derived.Test.YtmhbdckgejcdhaaDoorLBad
import Derived.Test.YtmhbdckgejcdhaaDoorPlain4
namespace Go.Proofs.YtmhbdckgejcdhaaDoor
open Go.ChangeShapes Go.WideShapes Go.ChangeAt Go.RowKit Ch

/-- append of bytes, nil or not, onto what the call owns. -/
theorem wpList_append_bytes {w : World} {ops : Array Oper} {rest : List Oper} {o : Oper} {ac : Act} {Q : Exit → Act → World → Prop} (hgd : o.guard = none) (so x : Operand)
    (ho : o.op = .call { callee := .builtin .append, args := #[so, x], argTypes := #[22, 22] })
    (base : Nat) (v : Value) (s : ByteArray) (hs : ac.eval so = v) (hown : w.ownsRow base 5 1 v s.size (byteVals s))
    (u : Value) (t : ByteArray) (hx : ac.eval x = u) (hu : IsBytes w u t) (hsz : s.size + t.size ≤ 1000000) (hbase : base ≤ w.heap.size)
    (h : ∀ v' w', w'.ownsRow base 5 1 v' (cat s t).size (byteVals (cat s t)) → Below base w w' → wpList Tryd.prog ops Q rest (ac.put o.dst v') w') : wpList Tryd.prog ops Q (o :: rest) ac w := by
  obtain ⟨i0, hi, hz0, hz1, hz2⟩ := info5
  have hv : byteVals (cat s t) = byteVals s ++ byteVals t := by simp [byteVals, cat]
  obtain ⟨a, cap, rfl, hc, hm, hrest⟩ := hu
  match a, hrest with
  | none, hrest =>
    have h0 : t.size = 0 ∧ cap = 0 := by
      rcases hrest with ⟨_, h0, h1⟩ | ⟨_, h0, _⟩
      · exact ⟨h0, h1⟩
      · cases h0
    have ht : byteVals t = [] := List.eq_nil_of_length_eq_zero (by rw [byteVals_length]; exact h0.1)
    rw [h0.1, h0.2] at hx
    refine wpList_append_own_none hgd so x 22 ho base 5 i0 1 Tryd.underlying22 hi v s.size _ hs hown hx (h v w ?_ (Below.refl _ _))
    rw [hv, ht, List.append_nil, cat_size, h0.1]
    exact hown
  | some y, hrest =>
    refine wpList_append_own w hgd so x 22 ho base 5 i0 (.int .u8 0) 1 1 Tryd.underlying22 hi hz0 hz1 hz2 rfl (by decide) v s.size _ hs hown y t.size cap (byteVals t) hx (by rw [byteVals_length]; omega) (IsBytes.news (n := t.size) (cap := cap) ⟨some y, cap, rfl, hc, hm, hrest⟩) (byteVals_one t) (by unfold maxLen; omega) (by omega) hbase ?_
    intro v' w' ho' hg _
    refine h v' w' ?_ ((Below.refl _ w).grown hg hbase (own_ge hown))
    rw [hv, cat_size]
    exact ho'

theorem IsBytes.head {w : World} {a : Option Addr} {cap : Nat} {s : ByteArray} (h : IsBytes w (.slice a s.size cap) s) {k : Nat} (hk : k ≤ s.size) : IsBytes w (.slice a k cap) ⟨(seg s 0 k).toArray⟩ := by
  have hz : (⟨(seg s 0 k).toArray⟩ : ByteArray).size = k := by
    rw [← len_eq]
    show (seg s 0 k).toArray.toList.length = k
    rw [List.toList_toArray, seg_length s hk]
    omega
  obtain ⟨a', cap', hv, hc, hm, h⟩ := h
  simp only [Value.slice.injEq, true_and] at hv
  obtain ⟨rfl, rfl⟩ := hv
  refine ⟨a, cap, by rw [hz], by rw [hz]; omega, hm, ?_⟩
  rcases h with ⟨h1, h2, h3⟩ | ⟨x, h1, h2 | ⟨b, o, h2, h3, h4⟩⟩
  · exact .inl ⟨h1, by rw [hz]; omega, h3⟩
  · exact .inr ⟨x, h1, .inl (by rw [hz]; omega)⟩
  · refine .inr ⟨x, h1, .inr ⟨b, o, h2, h3, ?_⟩⟩
    intro i hi
    rw [Nat.zero_add, hz] at hi
    rw [h4 i (by omega), byte_list, byte_list]
    show _ = some (Value.int .u8 ((((seg s 0 k).toArray.toList[0 + i]?).getD 0).toNat : Int))
    rw [List.toList_toArray]
    unfold seg
    rw [List.drop_zero, Nat.sub_zero, Nat.zero_add, List.getElem?_take_of_lt hi]

theorem seg_text_size (s : ByteArray) {k : Nat} (hk : k ≤ s.size) : (⟨(seg s 0 k).toArray⟩ : ByteArray).size = k := by
  rw [← len_eq]
  show (seg s 0 k).toArray.toList.length = k
  rw [List.toList_toArray, seg_length s hk]
  omega
theorem seg_text_byte (s : ByteArray) {k : Nat} (i : Nat) (hi : i < k) : byte ⟨(seg s 0 k).toArray⟩ i = byte s i := by
  rw [byte_list, byte_list]
  show ((((seg s 0 k).toArray.toList[i]?).getD 0).toNat) = _
  rw [List.toList_toArray]
  unfold seg
  rw [List.drop_zero, Nat.sub_zero, List.getElem?_take_of_lt hi]

theorem cat_empty (s : ByteArray) : cat ByteArray.empty s = s := by
  apply ByteArray.ext
  apply Array.toList_inj.1
  simp [cat]

/-- Where the cut lies. -/
theorem cut_at (c : Int) (n : Nat) : ∃ (r : Int) (k : Nat), c.tmod ((n : Int) + 1) = r ∧ -(n : Int) ≤ r ∧ r ≤ n ∧ k ≤ n ∧ (r + n + 1) % ((n : Int) + 1) = k := by
  have h1 : ((n : Int) + 1) ≠ 0 := by omega
  have h2 := Int.natAbs_tmod c ((n : Int) + 1)
  have h3 : (c.tmod ((n : Int) + 1)).natAbs < n + 1 := by
    rw [h2]
    have : ((n : Int) + 1).natAbs = n + 1 := by omega
    rw [this]
    exact Nat.mod_lt _ (by omega)
  refine ⟨_, ((c.tmod ((n : Int) + 1) + n + 1) % ((n : Int) + 1)).toNat, rfl, by omega, by omega, ?_, ?_⟩
  · have := Int.emod_lt_of_pos (c.tmod ((n : Int) + 1) + n + 1) (show (0 : Int) < (n : Int) + 1 by omega)
    omega
  · have := Int.emod_nonneg (c.tmod ((n : Int) + 1) + n + 1) h1
    omega

theorem cut_ok {s : ByteArray} (hx : bad s = -1) {k : Nat} (hk : k ≤ s.size) : bad ⟨(seg s 0 k).toArray⟩ = -1 ∨ ∃ y : Nat, bad ⟨(seg s 0 k).toArray⟩ = y ∧ y ≤ k ∧ (k : Int) - y < 4 := by
  have hz := seg_text_size s hk
  have h := bad_cut s ⟨(seg s 0 k).toArray⟩ (by omega) (fun i hi => seg_text_byte s i (by omega)) s.size 0 hx (by omega) k (by omega)
  have hb : badFrom ⟨(seg s 0 k).toArray⟩ k 0 = bad ⟨(seg s 0 k).toArray⟩ := by unfold bad; rw [hz]
  rw [hb, hz] at h
  rcases bad_lt ⟨(seg s 0 k).toArray⟩ with e | ⟨y, e, hy⟩
  · exact .inl e
  · rw [hz] at hy
    rcases h with h | h
    · omega
    · exact .inr ⟨y, e, by omega, by omega⟩

set_option maxHeartbeats 2000000 in
theorem lJoins_both (a b : Option Addr) (ca cb : Nat) (s t : ByteArray) (c : Int) (w : World) (hs : s.size ≤ 2000) (ht : t.size ≤ 2000) (ha : IsBytes w (.slice a s.size ca) s) (hb : IsBytes w (.slice b t.size cb) t) (tb : Tabs w) (hx : bad s = -1) (hy : bad t = -1) :
    Calls Tryd.prog 7 #[.slice a s.size ca, .slice b t.size cb, .int .i64 c] w fun e w' => e = .returned (.bool true) ∧ Below w.heap.size w w' := by
  have HA : Hid (IsBytes w (.slice a s.size ca) s) := ha
  have HB : Hid (IsBytes w (.slice b t.size cb) t) := hb
  have hcat := bad_cat t hx
  rw [if_pos hy] at hcat
  have hsz := cat_size s t
  have hz : (cat s t).size ≤ 1000000 := by omega
  obtain ⟨r, k, hr, hr0, hr1, hks, hk⟩ := cut_at c s.size
  have hkt : (r + s.size + 1).tmod ((s.size : Int) + 1) = k := by rw [Int.tmod_eq_emod_of_nonneg (by omega)]; exact hk
  have hca : s.size ≤ ca ∧ ca ≤ 9223372036854775807 := by
    obtain ⟨a', cap', hv, hc, hm, _⟩ := ha
    simp only [Value.slice.injEq, true_and] at hv
    unfold maxLen at hm
    omega
  obtain ⟨hca1, hca2⟩ := hca
  have hcut := cut_ok hx hks
  have hvz := seg_text_size s hks
  have hv6 : (⟨(seg s 0 k).toArray⟩ : ByteArray).size ≤ 1000000 := by omega
  obtain ⟨V, hV⟩ : ∃ V, V = (⟨(seg s 0 k).toArray⟩ : ByteArray) := ⟨_, rfl⟩
  rw [← hV] at hcut hv6
  have HV : Hid (V = (⟨(seg s 0 k).toArray⟩ : ByteArray)) := hV
  clear ha hb hsz hvz hV
  go_enter Tryd.func7, Tryd.ntmps7
  go_wp2_with fail
  refine (awake_any w tb).mono ?_
  rintro e w1 ⟨rfl, b1⟩
  have HA1 : Hid (IsBytes w1 (.slice a s.size ca) s) := HA.out.later b1
  have HB1 : Hid (IsBytes w1 (.slice b t.size cb) t) := HB.out.later b1
  go_wp2_with fail
  refine (cBad_bytes HA1.out (by omega)).mono ?_
  rintro e w2 ⟨rfl, b2⟩
  have HA2 : Hid (IsBytes w2 (.slice a s.size ca) s) := HA1.out.later b2
  have HB2 : Hid (IsBytes w2 (.slice b t.size cb) t) := HB1.out.later b2
  have c2 := b1.trans (b2.mono b1.size)
  go_wp2_with fail
  refine (cBad_bytes HB2.out (by omega)).mono ?_
  rintro e w3 ⟨rfl, b3⟩
  have HA3 : Hid (IsBytes w3 (.slice a s.size ca) s) := HA2.out.later b3
  have HB3 : Hid (IsBytes w3 (.slice b t.size cb) t) := HB2.out.later b3
  have c3 := c2.trans (b3.mono c2.size)
  go_wp2_with (at_builtin; refine wpList_append_bytes rfl _ _ rfl w3.heap.size _ ByteArray.empty rfl (own_empty w3 _ (Nat.le_refl _)) _ s rfl (HA3.out.alloc _) (by simp; omega) (by simp) ?_)
  intro v4 w4 own4 b4
  rw [cat_empty] at own4
  have b34 : Below w3.heap.size w3 w4 := ((Below.refl _ w3).alloc (Nat.le_refl _) _).trans b4
  have HB4 : Hid (IsBytes w4 (.slice b t.size cb) t) := HB3.out.later b34
  have hw4 := b34.size
  clear b4
  go_wp2_with (at_builtin; refine wpList_append_bytes rfl _ _ rfl w3.heap.size v4 s rfl own4 _ t rfl HB4.out (by omega) hw4 ?_)
  intro v5 w5 own5 b5
  have b35 := b34.trans b5
  have HV5 : Hid (IsBytes w5 v5 (cat s t)) := own_bytes own5
  have HA5 : Hid (IsBytes w5 (.slice a s.size ca) s) := HA3.out.later b35
  have c5 := c3.trans (b35.mono c3.size)
  clear own4 own5 b5 b34 hw4 b35
  go_wp2_with fail
  refine (cBad_bytes HV5.out hz).mono ?_
  rintro e w6 ⟨rfl, b6⟩
  have HA6 : Hid (IsBytes w6 (.slice a s.size ca) s) := HA5.out.later b6
  have c6 := c5.trans (b6.mono c5.size)
  go_wp2_with fail
  have HV6k : Hid (IsBytes w6 (.slice a k ca) V) := by unfold Hid; rw [HV.out]; exact HA6.out.head hks
  refine (cBad_bytes HV6k.out hv6).mono ?_
  rintro e w8 ⟨rfl, b8⟩
  have c8 := c6.trans (b8.mono c6.size)
  rcases hcut with e1 | ⟨y2, e1, e2, e3⟩
  · go_wp2_with fail
    go_ret
    exact ⟨rfl, c8⟩
  · go_wp2_with fail
    go_ret
    exact ⟨ret_bool (by simp), c8⟩

set_option maxHeartbeats 2000000 in
theorem lJoins_first (a b : Option Addr) (ca cb : Nat) (s t : ByteArray) (c : Int) (w : World) (hs : s.size ≤ 2000) (ht : t.size ≤ 2000) (ha : IsBytes w (.slice a s.size ca) s) (hb : IsBytes w (.slice b t.size cb) t) (tb : Tabs w) (hx : bad s = -1) (y : Nat) (hy : bad t = y) (hyl : y < t.size) :
    Calls Tryd.prog 7 #[.slice a s.size ca, .slice b t.size cb, .int .i64 c] w fun e w' => e = .returned (.bool true) ∧ Below w.heap.size w w' := by
  have HA : Hid (IsBytes w (.slice a s.size ca) s) := ha
  have HB : Hid (IsBytes w (.slice b t.size cb) t) := hb
  have hcat := bad_cat t hx
  rw [hy, if_neg (by omega)] at hcat
  have hsz := cat_size s t
  have hz : (cat s t).size ≤ 1000000 := by omega
  obtain ⟨r, k, hr, hr0, hr1, hks, hk⟩ := cut_at c s.size
  have hkt : (r + s.size + 1).tmod ((s.size : Int) + 1) = k := by rw [Int.tmod_eq_emod_of_nonneg (by omega)]; exact hk
  have hca : s.size ≤ ca ∧ ca ≤ 9223372036854775807 := by
    obtain ⟨a', cap', hv, hc, hm, _⟩ := ha
    simp only [Value.slice.injEq, true_and] at hv
    unfold maxLen at hm
    omega
  obtain ⟨hca1, hca2⟩ := hca
  have hcut := cut_ok hx hks
  have hvz := seg_text_size s hks
  have hv6 : (⟨(seg s 0 k).toArray⟩ : ByteArray).size ≤ 1000000 := by omega
  obtain ⟨V, hV⟩ : ∃ V, V = (⟨(seg s 0 k).toArray⟩ : ByteArray) := ⟨_, rfl⟩
  rw [← hV] at hcut hv6
  have HV : Hid (V = (⟨(seg s 0 k).toArray⟩ : ByteArray)) := hV
  clear ha hb hsz hvz hV
  go_enter Tryd.func7, Tryd.ntmps7
  go_wp2_with fail
  refine (awake_any w tb).mono ?_
  rintro e w1 ⟨rfl, b1⟩
  have HA1 : Hid (IsBytes w1 (.slice a s.size ca) s) := HA.out.later b1
  have HB1 : Hid (IsBytes w1 (.slice b t.size cb) t) := HB.out.later b1
  go_wp2_with fail
  refine (cBad_bytes HA1.out (by omega)).mono ?_
  rintro e w2 ⟨rfl, b2⟩
  have HA2 : Hid (IsBytes w2 (.slice a s.size ca) s) := HA1.out.later b2
  have HB2 : Hid (IsBytes w2 (.slice b t.size cb) t) := HB1.out.later b2
  have c2 := b1.trans (b2.mono b1.size)
  go_wp2_with fail
  refine (cBad_bytes HB2.out (by omega)).mono ?_
  rintro e w3 ⟨rfl, b3⟩
  have HA3 : Hid (IsBytes w3 (.slice a s.size ca) s) := HA2.out.later b3
  have HB3 : Hid (IsBytes w3 (.slice b t.size cb) t) := HB2.out.later b3
  have c3 := c2.trans (b3.mono c2.size)
  go_wp2_with (at_builtin; refine wpList_append_bytes rfl _ _ rfl w3.heap.size _ ByteArray.empty rfl (own_empty w3 _ (Nat.le_refl _)) _ s rfl (HA3.out.alloc _) (by simp; omega) (by simp) ?_)
  intro v4 w4 own4 b4
  rw [cat_empty] at own4
  have b34 : Below w3.heap.size w3 w4 := ((Below.refl _ w3).alloc (Nat.le_refl _) _).trans b4
  have HB4 : Hid (IsBytes w4 (.slice b t.size cb) t) := HB3.out.later b34
  have hw4 := b34.size
  clear b4
  go_wp2_with (at_builtin; refine wpList_append_bytes rfl _ _ rfl w3.heap.size v4 s rfl own4 _ t rfl HB4.out (by omega) hw4 ?_)
  intro v5 w5 own5 b5
  have b35 := b34.trans b5
  have HV5 : Hid (IsBytes w5 v5 (cat s t)) := own_bytes own5
  have HA5 : Hid (IsBytes w5 (.slice a s.size ca) s) := HA3.out.later b35
  have c5 := c3.trans (b35.mono c3.size)
  clear own4 own5 b5 b34 hw4 b35
  go_wp2_with fail
  refine (cBad_bytes HV5.out hz).mono ?_
  rintro e w6 ⟨rfl, b6⟩
  have HA6 : Hid (IsBytes w6 (.slice a s.size ca) s) := HA5.out.later b6
  have HV6 : Hid (IsBytes w6 v5 (cat s t)) := HV5.out.later b6
  have c6 := c5.trans (b6.mono c5.size)
  go_wp2_with fail
  refine (cBad_bytes HV6.out hz).mono ?_
  rintro e w7 ⟨rfl, b7⟩
  have HA7 : Hid (IsBytes w7 (.slice a s.size ca) s) := HA6.out.later b7
  have c7 := c6.trans (b7.mono c6.size)
  go_wp2_with fail
  have HV7k : Hid (IsBytes w7 (.slice a k ca) V) := by unfold Hid; rw [HV.out]; exact HA7.out.head hks
  refine (cBad_bytes HV7k.out hv6).mono ?_
  rintro e w8 ⟨rfl, b8⟩
  have c8 := c7.trans (b8.mono c7.size)
  rcases hcut with e1 | ⟨y2, e1, e2, e3⟩
  · go_wp2_with fail
    go_ret
    exact ⟨rfl, c8⟩
  · go_wp2_with fail
    go_ret
    exact ⟨ret_bool (by simp), c8⟩

set_option maxHeartbeats 2000000 in
theorem lJoins_bad (a b : Option Addr) (ca cb : Nat) (s t : ByteArray) (c : Int) (w : World) (hs : s.size ≤ 2000) (ht : t.size ≤ 2000) (ha : IsBytes w (.slice a s.size ca) s) (hb : IsBytes w (.slice b t.size cb) t) (tb : Tabs w) (x : Nat) (hx : bad s = x) (hxl : x < s.size) :
    Calls Tryd.prog 7 #[.slice a s.size ca, .slice b t.size cb, .int .i64 c] w fun e w' => e = .returned (.bool true) ∧ Below w.heap.size w w' := by
  have HA : Hid (IsBytes w (.slice a s.size ca) s) := ha
  have HB : Hid (IsBytes w (.slice b t.size cb) t) := hb
  have hca : s.size ≤ ca ∧ ca ≤ 9223372036854775807 := by
    obtain ⟨a', cap', hv, hc, hm, _⟩ := ha
    simp only [Value.slice.injEq, true_and] at hv
    unfold maxLen at hm
    omega
  obtain ⟨hca1, hca2⟩ := hca
  have hvz := seg_text_size s (Nat.le_of_lt hxl)
  have hahead : bad ⟨(seg s 0 x).toArray⟩ = -1 := by
    unfold bad
    exact bad_ahead s _ (fun i hi => seg_text_byte s i (by omega)) s.size 0 (by rw [hvz]; exact hx) (Nat.zero_le _) _ (by omega)
  have hv6 : (⟨(seg s 0 x).toArray⟩ : ByteArray).size ≤ 1000000 := by omega
  obtain ⟨V, hV⟩ : ∃ V, V = (⟨(seg s 0 x).toArray⟩ : ByteArray) := ⟨_, rfl⟩
  rw [← hV] at hahead hv6
  have HV : Hid (V = (⟨(seg s 0 x).toArray⟩ : ByteArray)) := hV
  clear ha hb hvz hV
  go_enter Tryd.func7, Tryd.ntmps7
  go_wp2_with fail
  refine (awake_any w tb).mono ?_
  rintro e w1 ⟨rfl, b1⟩
  have HA1 : Hid (IsBytes w1 (.slice a s.size ca) s) := HA.out.later b1
  have HB1 : Hid (IsBytes w1 (.slice b t.size cb) t) := HB.out.later b1
  go_wp2_with fail
  refine (cBad_bytes HA1.out (by omega)).mono ?_
  rintro e w2 ⟨rfl, b2⟩
  have HA2 : Hid (IsBytes w2 (.slice a s.size ca) s) := HA1.out.later b2
  have HB2 : Hid (IsBytes w2 (.slice b t.size cb) t) := HB1.out.later b2
  have c2 := b1.trans (b2.mono b1.size)
  go_wp2_with fail
  refine (cBad_bytes HB2.out (by omega)).mono ?_
  rintro e w3 ⟨rfl, b3⟩
  have HA3 : Hid (IsBytes w3 (.slice a s.size ca) s) := HA2.out.later b3
  have HB3 : Hid (IsBytes w3 (.slice b t.size cb) t) := HB2.out.later b3
  have c3 := c2.trans (b3.mono c2.size)
  go_wp2_with (at_builtin; refine wpList_append_bytes rfl _ _ rfl w3.heap.size _ ByteArray.empty rfl (own_empty w3 _ (Nat.le_refl _)) _ s rfl (HA3.out.alloc _) (by simp; omega) (by simp) ?_)
  intro v4 w4 own4 b4
  rw [cat_empty] at own4
  have b34 : Below w3.heap.size w3 w4 := ((Below.refl _ w3).alloc (Nat.le_refl _) _).trans b4
  have HB4 : Hid (IsBytes w4 (.slice b t.size cb) t) := HB3.out.later b34
  have hw4 := b34.size
  clear b4
  go_wp2_with (at_builtin; refine wpList_append_bytes rfl _ _ rfl w3.heap.size v4 s rfl own4 _ t rfl HB4.out (by omega) hw4 ?_)
  intro v5 w5 own5 b5
  have b35 := b34.trans b5
  have HA5 : Hid (IsBytes w5 (.slice a s.size ca) s) := HA3.out.later b35
  have c5 := c3.trans (b35.mono c3.size)
  clear own4 own5 b5 b34 hw4 b35
  go_wp2_with fail
  have HVk : Hid (IsBytes w5 (.slice a x ca) V) := by unfold Hid; rw [HV.out]; exact HA5.out.head (Nat.le_of_lt hxl)
  refine (cBad_bytes HVk.out hv6).mono ?_
  rintro e w8 ⟨rfl, b8⟩
  have c8 := c5.trans (b8.mono c5.size)
  go_wp2_with fail
  go_ret
  exact ⟨rfl, c8⟩

set_option maxHeartbeats 1000000 in
theorem lJoins_long (a b : Option Addr) (la lb ca cb : Nat) (c : Int) (w : World) (h1 : la ≤ 9223372036854775807) (h2 : lb ≤ 9223372036854775807) (h : 2000 < la ∨ 2000 < lb) (tb : Tabs w) :
    Calls Tryd.prog 7 #[.slice a la ca, .slice b lb cb, .int .i64 c] w fun e w' => e = .returned (.bool true) ∧ Below w.heap.size w w' := by
  by_cases ha : 2000 < la
  · clear h
    go_enter Tryd.func7, Tryd.ntmps7
    go_wp2_with fail
    refine (awake_any w tb).mono ?_
    rintro e w1 ⟨rfl, b1⟩
    have t1 := tb.later b1
    go_wp2_with fail
    refine (awake_any w1 t1).mono ?_
    rintro e w2 ⟨rfl, b2⟩
    go_wp2_with fail
    go_ret
    exact ⟨rfl, b1.trans (b2.mono b1.size)⟩
  · have hb : 2000 < lb := by omega
    clear h
    go_enter Tryd.func7, Tryd.ntmps7
    go_wp2_with fail
    refine (awake_any w tb).mono ?_
    rintro e w1 ⟨rfl, b1⟩
    have t1 := tb.later b1
    go_wp2_with fail
    refine (awake_any w1 t1).mono ?_
    rintro e w2 ⟨rfl, b2⟩
    go_wp2_with fail
    go_ret
    exact ⟨rfl, b1.trans (b2.mono b1.size)⟩

theorem lJoins_walk (a b : Option Addr) (la lb ca cb : Nat) (s t : ByteArray) (c : Int) (w : World) (hs : s.size = la) (ht : t.size = lb) (ha : IsBytes w (.slice a la ca) s) (hb : IsBytes w (.slice b lb cb) t) (tb : Tabs w) :
    Calls Tryd.prog 7 #[.slice a la ca, .slice b lb cb, .int .i64 c] w fun e w' => e = .returned (.bool true) ∧ Below w.heap.size w w' := by
  subst hs ht
  by_cases h : 2000 < s.size ∨ 2000 < t.size
  · refine lJoins_long a b s.size t.size ca cb c w ?_ ?_ h tb
    · obtain ⟨a', cap', hv, hc, hm, _⟩ := ha
      unfold maxLen at hm
      omega
    · obtain ⟨a', cap', hv, hc, hm, _⟩ := hb
      unfold maxLen at hm
      omega
  rcases bad_lt s with hx | ⟨x, hx, hxl⟩
  · rcases bad_lt t with hy | ⟨y, hy, hyl⟩
    · exact lJoins_both a b ca cb s t c w (by omega) (by omega) ha hb tb hx hy
    · exact lJoins_first a b ca cb s t c w (by omega) (by omega) ha hb tb hx y hy hyl
  · exact lJoins_bad a b ca cb s t c w (by omega) (by omega) ha hb tb x hx hxl
end Go.Proofs.YtmhbdckgejcdhaaDoor
