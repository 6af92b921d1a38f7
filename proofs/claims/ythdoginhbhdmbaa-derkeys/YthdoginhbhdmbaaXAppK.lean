/-
  Package der: appends, with all else kept; appendLength so.
-/
import Derived.Test.YthdoginhbhdmbaaXAppL
import Derived.Test.YthdoginhbhdmbaaXPiece
namespace Go.Proofs.Ythdoginhbhdmbaa
open Go.RowKit Ch
set_option maxRecDepth 100000

theorem run_append_k {P : Program} (w : World) (base : Nat) (t ty e : TypeId) (i : TypeInfo) (z : Value) (bytes : Nat) (ht : P.underlying t = some (.slice e)) (hi : P.info? e = some i) (hz : i.zero = some z)
    (hsize : i.size = 1) (hby : i.bytes = bytes) (hzs : z.cells.size = 1)
    (v : Value) (n : Nat) (xs : List Value) (hown : w.ownsRow base e 1 v n xs)
    (a : Addr) (m c : Nat) (news : List Value) (hl : news.length = m * 1) (hnews : ∀ j u, news[j]? = some u → w.cell? (a.add j) = some u) (h1 : ∀ u ∈ news, u.oneCell' = true)
    (h63 : n + m ≤ maxLen) (hbytes : (n + m) * bytes ≤ 140737488355328) (hbase : base ≤ w.heap.size) :
    ∃ v' w', (Builtin.append_ #[t, t] ty #[v, .slice (some a) m c]).run P w = .ok v' w' ∧ w'.ownsRow base e 1 v' (n + m) (xs ++ news) ∧ w.grownBy w' v.ownBlock ∧ ∀ g, v'.ownBlock = some g → v.ownBlock = some g ∨ w.heap.size ≤ g := by
  obtain ⟨v', w', hr, h2, h3, h5⟩ := run_append_own (P := P) w base t ty e i z 1 bytes ht hi hz hsize hby hzs (by decide) v n xs hown a m c news hl hnews h1 h63 hbytes hbase
  refine ⟨v', w', hr, h2, h3, ?_⟩
  by_cases hm : 0 < m
  · obtain ⟨v2, w2, hr2, _, _, h6⟩ := run_append_where (P := P) w base t ty e i z bytes ht hi hz hsize hby hzs v n xs hown a m c news hl hnews h1 h63 hbytes hbase hm
    rw [hr] at hr2
    simp only [Result.ok.injEq] at hr2
    obtain ⟨rfl, rfl⟩ := hr2
    intro g hg
    rcases h6 with h6 | h6
    · exact .inl (h6 ▸ hg)
    · rw [h6] at hg
      exact .inr (by have := Option.some.inj hg; omega)
  · obtain rfl : m = 0 := by omega
    have hl' : news.length = 0 * i.size := by rw [hsize]; exact hl
    rcases hown.2 with ⟨hv, hn⟩ | ⟨g, cap, cur, hv, hbg, hg, hnc, hcm, hcs, htake⟩
    · have h7 := h5.2 ⟨hv, rfl⟩
      rw [h7]
      intro g hg
      cases hg
    · subst hv
      have hr2 := run_append_room (P := P) w t ty e i ht hi g n cap cur hg a 0 c news hl' hnews h1 (by omega) (by rw [hl, hcs, hsize]; omega)
      rw [hr] at hr2
      simp only [Result.ok.injEq] at hr2
      rw [hr2.1]
      exact fun k hk => .inl hk
theorem kept_grownL {w w' : World} {g : Option Nat} (h : w.grownBy w' g) : KeptX g.toList w w' :=
  ⟨h.os, h.tape, h.output, h.size, fun k hk hn => h.block k hk (fun e => hn (by simp [e]))⟩
/-- append of bytes onto a row of the call's own, with all else kept. -/
theorem wpList_append_k {w : World} {ops : Array Oper} {rest : List Oper} {o : Oper} {ac : Act} {Q : Exit → Act → World → Prop} (hgd : o.guard = none) (so x : Operand)
    (ho : o.op = .call { callee := .builtin .append, args := #[so, x], argTypes := #[24, 24] })
    (base : Nat) (v : Value) (l : List UInt8) (hs : ac.eval so = v) (hown : OwnL base w v l)
    (u : Value) (t : List UInt8) (hx : ac.eval x = u) (hu : IsBytes w u ⟨t.toArray⟩) (hsz : l.length + t.length ≤ 1000000) (hbase : base ≤ w.heap.size)
    (h : ∀ v' w', OwnL base w' v' (l ++ t) → KeptX v.ownBlock.toList w w' → (∀ g, v'.ownBlock = some g → v.ownBlock = some g ∨ w.heap.size ≤ g) → wpList Try.prog ops Q rest (ac.put o.dst v') w') : wpList Try.prog ops Q (o :: rest) ac w := by
  obtain ⟨i0, hi, hz0, hz1, hz2⟩ := info5
  have e2 : (⟨t.toArray⟩ : ByteArray).size = t.length := size_of_list t
  obtain ⟨a, cap, rfl, hc, hm, hrest⟩ := id hu
  rw [e2] at hx hc hrest
  match a, hrest with
  | none, hrest =>
    have h0 : t.length = 0 ∧ cap = 0 := by
      rcases hrest with ⟨_, h0, h1⟩ | ⟨_, h0, _⟩
      · exact ⟨h0, h1⟩
      · cases h0
    have ht : t = [] := List.eq_nil_of_length_eq_zero h0.1
    subst ht
    rw [h0.2] at hx
    refine wpList_append_own_none hgd so x 24 ho base 5 i0 1 Try.underlying24 hi v l.length _ hs hown hx (h v w ?_ (KeptX.refl _ _) (fun g hg => .inl hg))
    rw [List.append_nil]
    exact hown
  | some y, hrest =>
    have hne : ∀ j q, (Lib.byteCells t)[j]? = some q → w.cell? (y.add j) = some q := by
      intro j q hj
      have hjl : j < t.length := by have := (List.getElem?_eq_some_iff.1 hj).1; simpa [Lib.byteCells] using this
      rcases hrest with ⟨h1, _⟩ | ⟨x2, h1, h2 | ⟨b, o2, h2, _, h4⟩⟩
      · cases h1
      · omega
      · obtain rfl := Option.some.inj h1
        subst h2
        have e : (⟨b, o2, none⟩ : Addr).add j = ⟨b, o2 + j, none⟩ := by unfold Addr.add; split <;> simp_all
        rw [e]
        have h5 := h4 j (by rw [e2]; omega)
        rw [Nat.zero_add, byte_list, List.toList_toArray, List.getElem?_eq_getElem hjl] at h5
        rw [h5, ← hj]
        simp [Lib.byteCells, hjl]
    refine wpList_plain hgd fun K hK => ?_
    obtain ⟨v', w', hr, h2, h3, h4⟩ := run_append_k (P := Try.prog) w base 24 o.type 5 i0 (.int .u8 0) 1 Try.underlying24 hi hz0 hz1 hz2 rfl v l.length _ hown y t.length cap (Lib.byteCells t) (by simp [Lib.byteCells]) hne (by
      intro q hq
      simp only [Lib.byteCells, List.mem_map] at hq
      obtain ⟨_, _, rfl⟩ := hq
      rfl) (by unfold maxLen; omega) (by omega) hbase
    unfold Oper.wp execOp
    simp only [ho, resolve, invoke, builtin, Sem.run_bind, Sem.run_pure, Result.andThen_ok, List.map_toArray, List.map_cons, List.map_nil, hs, hx, hr]
    refine hK _ _ (h v' w' ?_ (kept_grownL h3) h4)
    unfold OwnL
    rw [List.length_append]
    have e3 : Lib.byteCells (l ++ t) = Lib.byteCells l ++ Lib.byteCells t := by simp [Lib.byteCells]
    rw [e3]
    exact h2
theorem alB (w : World) (o : Obj) : Below w.heap.size w (w.alloc o) := (Below.refl _ w).alloc (Nat.le_refl _) _
theorem litD (w : World) (d : UInt8) : IsBytes (w.alloc (.cells #[.int .u8 (d.toNat : Int)] 5)) (.slice (some ⟨w.heap.size, 0, none⟩) 1 1) ⟨[d].toArray⟩ := litC w ⟨#[d]⟩ _ rfl (show (1 : Nat) ≤ maxLen by unfold maxLen; decide)
/-- What becomes of a row that was appended to. -/
def RowTo (base : Nat) (w w' : World) (v v' : Value) (l : List UInt8) : Prop := OwnL base w' v' l ∧ KeptX v.ownBlock.toList w w' ∧ ∀ g, v'.ownBlock = some g → v.ownBlock = some g ∨ w.heap.size ≤ g
theorem RowTo.trans {base : Nat} {a b c : World} {u v x : Value} {l m : List UInt8} (h : RowTo base a b u v l) (k : RowTo base b c v x m) : RowTo base a c u x m := by
  refine ⟨k.1, ⟨k.2.1.os.trans h.2.1.os, k.2.1.tape.trans h.2.1.tape, k.2.1.output.trans h.2.1.output, Nat.le_trans h.2.1.size k.2.1.size, fun i hi hn => ?_⟩, fun g hg => ?_⟩
  · refine (k.2.1.block i (Nat.lt_of_lt_of_le hi h.2.1.size) (fun hm => ?_)).trans (h.2.1.block i hi hn)
    have h1 : v.ownBlock = some i := by simpa using hm
    rcases h.2.2 i h1 with h2 | h2
    · exact hn (by simp [h2])
    · omega
  · rcases k.2.2 g hg with h1 | h1
    · exact h.2.2 g h1
    · exact .inr (Nat.le_trans h.2.1.size h1)
theorem RowTo.pre {base : Nat} {a b c : World} {u v : Value} {l : List UInt8} (hb : Below a.heap.size a b) (h : RowTo base b c u v l) : RowTo base a c u v l :=
  ⟨h.1, (KeptX.of hb).trans h.2.1, fun g hg => by
    rcases h.2.2 g hg with h1 | h1
    · exact .inl h1
    · exact .inr (Nat.le_trans hb.size h1)⟩
theorem RowTo.below {base : Nat} {w w' : World} {v v' : Value} {l l0 : List UInt8} (h : RowTo base w w' v v' l) (ho : OwnL base w v l0) (hb : base ≤ w.heap.size) : Below base w w' :=
  h.2.1.below hb (fun p hp => by
    have h1 : v.ownBlock = some p := by simpa using hp
    exact (World.ownsRow.lt ho p h1).1)
set_option maxHeartbeats 4000000 in
theorem xAppLen_k (base n : Nat) (v : Value) (l : List UInt8) (w : World) (ho : OwnL base w v l) (hn : n < 1048576) (hl : l.length ≤ 900000) (hbase : base ≤ w.heap.size) :
    Calls Try.prog 21 #[v, .int .i64 (n : Int)] w fun e w' => ∃ v', e = .returned v' ∧ RowTo base w w' v v' (l ++ lenB n) := by
  obtain ⟨y, c, rfl⟩ := own_shape ho
  have hlt := fun g hg => (World.ownsRow.lt ho g hg).2
  by_cases h : n < 128
  · have hI : (n : Int) < 128 := by omega
    have wu : IntKind.u8.wrap (n : Int) = ((UInt8.ofNat n).toNat : Int) := by
      rw [ofNat_small (by omega)]
      exact wraps_u8 _ (by omega) (by omega)
    have HL := show Hid (l ++ lenB n = l ++ [UInt8.ofNat n]) from by unfold Hid lenB; rw [if_pos h]
    obtain ⟨d, hd⟩ : ∃ d : UInt8, UInt8.ofNat n = d := ⟨_, rfl⟩
    rw [hd] at wu HL
    rw [HL.out]
    have HO := show Hid (OwnL base w (.slice y l.length c) l ∧ base ≤ w.heap.size) from ⟨ho, hbase⟩
    clear h hd ho hbase hlt
    go_enter Try.func21, Try.ntmps21
    go_wp2_with (at_builtin; go_must (refine wpList_append_k rfl _ _ rfl base (.slice y l.length c) l rfl (HO.out.1.later (alB _ _)) _ [d] rfl (litD w d) (by simp; omega) (by have := HO.out.2; simp; omega) ?_; intro v2 w2 ho2 hk2 hb2))
    go_ret
    exact ⟨_, rfl, RowTo.pre (alB w _) ⟨ho2, hk2, hb2⟩⟩
  · have hI : ¬ (n : Int) < 128 := by omega
    obtain ⟨ds, hds, h1, h3, hv, h0⟩ := len_forms (n := n) (by omega) hn
    have HL := show Hid (lenB n = UInt8.ofNat (128 + ds.length) :: ds) from by unfold Hid lenB; rw [if_neg h, hds]
    have w2u : IntKind.u8.wrap ((n : Int) / 65536) = ((UInt8.ofNat (n / 65536)).toNat : Int) := by
      rw [ofNat_small (by omega), wraps_u8 _ (by omega) (by omega)]
      omega
    have w1u : IntKind.u8.wrap ((n : Int) / 256) = ((UInt8.ofNat (n / 256)).toNat : Int) := by
      rw [IntKind.wrap_u8]
      simp
    have w0u : IntKind.u8.wrap (n : Int) = ((UInt8.ofNat n).toNat : Int) := by
      rw [IntKind.wrap_u8]
      simp
    obtain ⟨a2, ha2⟩ : ∃ d : UInt8, UInt8.ofNat (n / 65536) = d := ⟨_, rfl⟩
    obtain ⟨a1, ha1⟩ : ∃ d : UInt8, UInt8.ofNat (n / 256) = d := ⟨_, rfl⟩
    obtain ⟨a0, ha0⟩ : ∃ d : UInt8, UInt8.ofNat n = d := ⟨_, rfl⟩
    rw [ha2] at w2u hds
    rw [ha1] at w1u hds
    rw [ha0] at w0u hds
    obtain ⟨W0, hW0⟩ : ∃ W, w.alloc (.cells #[.int .u8 (a2.toNat : Int), .int .u8 (a1.toNat : Int), .int .u8 (a0.toNat : Int)] 5) = W := ⟨_, rfl⟩
    have hb0 : Below w.heap.size w W0 := by rw [← hW0]; exact (Below.refl _ w).alloc (Nat.le_refl _) _
    have hlit : IsBytes W0 (.slice (some ⟨w.heap.size, 0, none⟩) 3 3) ⟨#[a2, a1, a0]⟩ := by rw [← hW0]; exact litC w ⟨#[a2, a1, a0]⟩ _ rfl (show (3 : Nat) ≤ maxLen by unfold maxLen; decide)
    have hT := show Calls Try.prog 44 #[.slice (some ⟨w.heap.size, 0, none⟩) 3 3] W0 _ from nTrim_any _ 3 ⟨#[a2, a1, a0]⟩ W0 hlit (show (3 : Nat) ≤ 1000000 by decide)
    rw [show bareL (⟨#[a2, a1, a0]⟩ : ByteArray).data.toList = ds from hds] at hT
    have HO := show Hid (OwnL base w (.slice y l.length c) l ∧ base ≤ w.heap.size ∧ Below w.heap.size w W0 ∧ ∀ g, Value.ownBlock (.slice y l.length c) = some g → g < w.heap.size) from ⟨ho, hbase, hb0, hlt⟩
    clear hds hv h0 h ha2 ha1 ha0 hlit hb0 ho hbase hn hlt
    go_enter Try.func21, Try.ntmps21
    go_wp2_with fail
    refine hT.mono ?_
    rintro e w1 ⟨v1, rfl, ho1, hb1⟩
    clear hT
    obtain ⟨y1, c1, rfl⟩ := own_shape ho1
    have hb01 := HO.out.2.2.1.trans (hb1.mono HO.out.2.2.1.size)
    have hz0 : w.heap.size ≤ W0.heap.size := HO.out.2.2.1.size
    have hv1 := HO.out.1.later hb01
    have hd1 : BytesOff ((Value.ownBlock (.slice y l.length c)).toList) w1 (.slice y1 ds.length c1) ds := ⟨y1, c1, rfl, (show OwnL W0.heap.size w1 (.slice y1 ds.length c1) ds from ho1).is, fun b o _ hy hm => by
      have h5 : Value.ownBlock (.slice y l.length c) = some b := by simpa using hm
      have h6 := HO.out.2.2.2 b h5
      rcases ho1.2 with ⟨h9, _⟩ | ⟨g9, _, _, h9, h10, _⟩
      · simp only [Value.slice.injEq] at h9
        rw [h9.1] at hy
        cases hy
      · simp only [Value.slice.injEq] at h9
        rw [h9.1] at hy
        simp only [Option.some.injEq, Addr.mk.injEq] at hy
        omega⟩
    have HV := show Hid (OwnL base w1 (.slice y l.length c) l ∧ base ≤ w1.heap.size ∧ Below w.heap.size w w1 ∧ BytesOff ((Value.ownBlock (.slice y l.length c)).toList) w1 (.slice y1 ds.length c1) ds) from ⟨hv1, Nat.le_trans HO.out.2.1 hb01.size, hb01, hd1⟩
    obtain ⟨k, hk⟩ : ∃ k, ds.length = k := ⟨_, rfl⟩
    have hk3 : k ≤ 3 := by omega
    obtain ⟨kk, hkk⟩ : ∃ a, 128 + k = a := ⟨_, rfl⟩
    have hkI : (128 : Int) + (k : Int) = (kk : Int) := by omega
    have wk : IntKind.i64.wrap (kk : Int) = (kk : Int) := by rw [IntKind.wrap_i64]; omega
    have wku : IntKind.u8.wrap (kk : Int) = ((UInt8.ofNat kk).toNat : Int) := by
      rw [ofNat_small (by omega)]
      exact wraps_u8 _ (by omega) (by omega)
    obtain ⟨d, hd⟩ : ∃ d : UInt8, UInt8.ofNat kk = d := ⟨_, rfl⟩
    rw [hd] at wku
    have HD := show Hid (l ++ lenB n = (l ++ [d]) ++ ds) from by unfold Hid; rw [HL.out, hk, hkk, hd]; simp
    have HKD := show Hid (ds.length = k ∧ (l ++ [d]).length = l.length + 1) from ⟨hk, by simp⟩
    rw [hk] at HV ⊢
    clear ho1 hb1 hb01 hk hkk hd HL hW0 h1 h3 w0u w1u w2u hv1 hd1 hz0
    go_wp2_with (at_builtin; go_must (first | (refine wpList_append_k rfl _ _ rfl base (.slice y l.length c) l rfl (HV.out.1.later (alB _ _)) _ [d] rfl (litD w1 d) (by simp; omega) (by have := HV.out.2.1; simp; omega) ?_; intro v2 w2 ho2 hk2 hb2; have hd2 := (HV.out.2.2.2.kept (KeptX.of (alB w1 (.cells #[.int .u8 (d.toNat : Int)] 5))) (fun _ h => (List.not_mem_nil h).elim)).kept hk2 (fun _ h => h)) | (refine wpList_append_k rfl _ _ rfl base v2 (l ++ [d]) rfl ho2 (.slice y1 k c1) ds rfl hd2.is (by have := HKD.out; omega) (by have := HV.out.2.1; have h9 := hk2.size; simp at h9; omega) ?_; intro v3 w3 ho3 hk3' hb3)))
    go_ret
    rw [HD.out]
    have t1 : RowTo base w1 w2 (.slice y l.length c) v2 (l ++ [d]) := RowTo.pre (alB w1 _) ⟨ho2, hk2, hb2⟩
    exact ⟨_, rfl, RowTo.pre HV.out.2.2.1 (t1.trans ⟨ho3, hk3', hb3⟩)⟩
end Go.Proofs.Ythdoginhbhdmbaa
