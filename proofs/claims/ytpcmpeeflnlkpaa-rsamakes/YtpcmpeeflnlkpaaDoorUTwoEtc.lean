/-
  Appends onto one row while another is kept: where the row lies afterwards. Of no layer alone.
  Package nat: words without the noughts at their end.
  Package nat: the piece behind the leading noughts.
-/
import Derived.Test.YtpcmpeeflnlkpaaDoorKPlainEtc
import Derived.Test.YtpcmpeeflnlkpaaDoorGen2Etc
namespace Go.Proofs.YtpcmpeeflnlkpaaDoor
open Go.RowKit Ch
set_option maxRecDepth 100000

theorem run_append_where {P : Program} (w : World) (base : Nat) (t ty e : TypeId) (i : TypeInfo) (z : Value) (bytes : Nat) (ht : P.underlying t = some (.slice e)) (hi : P.info? e = some i) (hz : i.zero = some z)
    (hsize : i.size = 1) (hby : i.bytes = bytes) (hzs : z.cells.size = 1)
    (v : Value) (n : Nat) (xs : List Value) (hown : w.ownsRow base e 1 v n xs)
    (a : Addr) (m c : Nat) (news : List Value) (hl : news.length = m * 1) (hnews : ∀ j u, news[j]? = some u → w.cell? (a.add j) = some u) (h1 : ∀ u ∈ news, u.oneCell' = true)
    (h63 : n + m ≤ maxLen) (hbytes : (n + m) * bytes ≤ 140737488355328) (hbase : base ≤ w.heap.size) (hm : 0 < m) :
    ∃ v' w', (Builtin.append_ #[t, t] ty #[v, .slice (some a) m c]).run P w = .ok v' w' ∧ w'.ownsRow base e 1 v' (n + m) (xs ++ news) ∧ w.grownBy w' v.ownBlock ∧ (v'.ownBlock = v.ownBlock ∨ v'.ownBlock = some w.heap.size) := by
  obtain ⟨v', w', hr, h2, h3, _⟩ := run_append_own (P := P) w base t ty e i z 1 bytes ht hi hz hsize hby hzs (by decide) v n xs hown a m c news hl hnews h1 h63 hbytes hbase
  refine ⟨v', w', hr, h2, h3, ?_⟩
  have hsmall : n + m ≤ 9223372036854775807 := by simp only [maxLen] at h63; omega
  have hl' : news.length = m * i.size := by rw [hsize]; exact hl
  have hbytes' : (n + m) * i.bytes ≤ 140737488355328 := by rw [hby]; exact hbytes
  rcases hown.2 with ⟨hv, hn⟩ | ⟨g, cap, cur, hv, hbg, hg, hnc, hcm, hcs, htake⟩
  · subst hv hn
    have hr2 := run_append_nil (P := P) w t ty e i z ht hi hz a m c news hl' hnews hm (by omega) (by have hb := hbytes'; simp only [Nat.zero_add] at hb; omega)
    rw [hr] at hr2
    simp only [Result.ok.injEq] at hr2
    rw [hr2.1]
    exact .inr rfl
  · subst hv
    by_cases hroom : n + m ≤ cap
    · have hr2 := run_append_room (P := P) w t ty e i ht hi g n cap cur hg a m c news hl' hnews h1 hroom (by rw [hl, hcs, hsize]; omega)
      rw [hr] at hr2
      simp only [Result.ok.injEq] at hr2
      rw [hr2.1]
      exact .inl rfl
    · have hr2 := run_append_grow (P := P) w t ty e i z ht hi hz ⟨g, 0, none⟩ n cap xs (by rw [hsize]; exact hown.1) (hown.cells (g := g) rfl) a m c news hl' hnews (by omega) (by omega) (growslice_fits (by omega) hbytes')
      rw [hr] at hr2
      simp only [Result.ok.injEq] at hr2
      rw [hr2.1]
      exact .inr rfl
theorem wpList_append_where {P : Program} (w : World) {ops : Array Oper} {rest : List Oper} {o : Oper} {ac : Act} {Q : Exit → Act → World → Prop} (hgd : o.guard = none) (s x : Operand) (t : TypeId)
    (ho : o.op = .call { callee := .builtin .append, args := #[s, x], argTypes := #[t, t] })
    (base : Nat) (e : TypeId) (i : TypeInfo) (z : Value) (bytes : Nat) (ht : P.underlying t = some (.slice e)) (hi : P.info? e = some i) (hz : i.zero = some z)
    (hsize : i.size = 1) (hby : i.bytes = bytes) (hzs : z.cells.size = 1)
    (v : Value) (n : Nat) (xs : List Value) (hs : ac.eval s = v) (hown : w.ownsRow base e 1 v n xs)
    (ad : Addr) (m c : Nat) (news : List Value) (hx : ac.eval x = .slice (some ad) m c) (hl : news.length = m * 1) (hnews : ∀ j u, news[j]? = some u → w.cell? (ad.add j) = some u) (h1 : ∀ u ∈ news, u.oneCell' = true)
    (h63 : n + m ≤ maxLen) (hbytes : (n + m) * bytes ≤ 140737488355328) (hbase : base ≤ w.heap.size) (hm : 0 < m)
    (h : ∀ v' w', w'.ownsRow base e 1 v' (n + m) (xs ++ news) → w.grownBy w' v.ownBlock → (v'.ownBlock = v.ownBlock ∨ v'.ownBlock = some w.heap.size) → wpList P ops Q rest (ac.put o.dst v') w') : wpList P ops Q (o :: rest) ac w := by
  refine wpList_plain hgd fun K hK => ?_
  obtain ⟨v', w', hr, h2, h3, h4⟩ := run_append_where (P := P) w base t o.type e i z bytes ht hi hz hsize hby hzs v n xs hown ad m c news hl hnews h1 h63 hbytes hbase hm
  unfold Oper.wp execOp
  simp only [ho, resolve, invoke, builtin, Sem.run_bind, Sem.run_pure, Result.andThen_ok, List.map_toArray, List.map_cons, List.map_nil, hs, hx, hr]
  exact hK _ _ (h v' w' h2 h3 h4)
theorem IsN.cellIn {k : IntKind} {w : World} {b o m cap : Nat} {L : List Nat} (h : IsN k w (.slice (some ⟨b, o, none⟩) m cap) L) {i n : Nat} (hn : L[i]? = some n) : w.cell? ⟨b, o + i, none⟩ = some (.int k (n : Int)) := by
  obtain ⟨_, b', o', hx, _, g⟩ := IsN.cellAt h hn
  simp only [Option.some.injEq, Addr.mk.injEq, and_true] at hx
  rw [hx.1, hx.2]; exact g
/-- Two rows that lie apart. -/
def Apart (v u : Value) : Prop := ∀ k, v.ownBlock = some k → u.ownBlock ≠ some k
theorem Apart.symm {v u : Value} (h : Apart v u) : Apart u v := fun k h1 h2 => h k h2 h1
theorem apart_nil (u : Value) : Apart (.slice none 0 0) u := fun k h => by cases h
/-- append of one number, with another row kept. -/
theorem wpList_append_two (R : KR) {w0 wr : World} {ops : Array Oper} {rest : List Oper} {o : Oper} {ac : Act} {Q : Exit → Act → World → Prop} (hgd : o.guard = none) (so x : Operand)
    (ho : o.op = .call { callee := .builtin .append, args := #[so, x], argTypes := #[R.ts, R.ts] })
    (base : Nat) (v : Value) (acc : List Nat) (hs : ac.eval so = v) (hown : wr.ownsRow base R.e 1 v acc.length (kc R.k acc))
    (z : Int) (hx : ac.eval x = .slice (some ⟨wr.heap.size, 0, none⟩) 1 1) (c : Nat) (hc : Hid (z = (c : Int))) (acc' : List Nat) (he : Hid (acc ++ [c] = acc')) (hlen : acc.length ≤ 1000000) (hbase : base ≤ wr.heap.size) (hb : Below base w0 wr)
    (e2 : TypeId) (size2 n2 : Nat) (u : Value) (xs : List Value) (hother : wr.ownsRow base e2 size2 u n2 xs) (hap : Apart v u)
    (h : ∀ v' w', w'.ownsRow base R.e 1 v' acc'.length (kc R.k acc') → Below base w0 w' → w'.ownsRow base e2 size2 u n2 xs → Apart v' u → wpList Tryd.prog ops Q rest (ac.put o.dst v') w') :
    wpList Tryd.prog ops Q (o :: rest) ac (wr.alloc (.cells #[.int R.k z] R.e)) := by
  obtain ⟨i0, hi, hz0, hz1, hz2⟩ := info_parts R.hi
  have h8 := R.hb8
  refine wpList_append_where _ hgd _ _ R.ts ho base R.e i0 (.int R.k 0) R.size R.hu hi hz0 hz1 hz2 rfl v _ _ hs (hown.alloc _) ⟨wr.heap.size, 0, none⟩ 1 1 [_] hx rfl (cell_one_new _ _ _) (by intro u hu; simp at hu; subst hu; rfl) (by unfold maxLen; omega) (Nat.le_trans (Nat.mul_le_mul_left _ h8) (by omega)) (by simp; omega) (by decide) ?_
  intro v' w2 hown2 hgrow hwhere
  have hb2 := below_grown hb hbase hown hgrow
  rw [hc.out] at hown2
  have e : kc R.k acc ++ [Value.int R.k (c : Int)] = kc R.k acc' := by rw [← he.out, kc_append]; rfl
  have e2' : acc.length + 1 = acc'.length := by rw [← he.out]; simp
  rw [e, e2'] at hown2
  have hlt := World.ownsRow.lt hother
  refine h v' w2 hown2 hb2 ((hother.alloc _).kept hgrow ?_) ?_
  · rcases hu : u.ownBlock with _ | k
    · exact .inl rfl
    · exact .inr (fun hh => hap k hh.symm hu)
  · intro k hk hu
    rcases hwhere with h1 | h1
    · exact hap k (by rw [← h1]; exact hk) hu
    · rw [h1] at hk
      have := (hlt k hu).2
      simp at hk
      omega
end Go.Proofs.YtpcmpeeflnlkpaaDoor

namespace Go.Proofs.YtpcmpeeflnlkpaaDoor
open Go.RowKit Ch
set_option maxRecDepth 100000

/-- Words, the least first, as a number. -/
def numW : List Nat → Nat
  | [] => 0
  | x :: xs => x + 18446744073709551616 * numW xs
theorem numW_append (a b : List Nat) : numW (a ++ b) = numW a + 18446744073709551616 ^ a.length * numW b := by
  induction a with
  | nil => simp [numW]
  | cons x a ih =>
    rw [List.cons_append, numW, numW, ih, List.length_cons, Nat.pow_succ, Nat.mul_add, Nat.add_assoc, Nat.mul_comm (18446744073709551616 ^ a.length) 18446744073709551616, Nat.mul_assoc]
/-- Without noughts at the end. -/
def trimL (l : List Nat) : List Nat := (l.reverse.dropWhile (· == 0)).reverse
theorem trimL_zero (l : List Nat) : trimL (l ++ [0]) = trimL l := by simp [trimL]
theorem trimL_stop {d : Nat} (h : d ≠ 0) (l : List Nat) : trimL (l ++ [d]) = l ++ [d] := by
  unfold trimL
  rw [List.reverse_append]
  simp [h]
theorem trimL_nil : trimL [] = [] := rfl
theorem numW_trim : ∀ (n : Nat) (l : List Nat), l.length = n → numW (trimL l) = numW l
  | 0, l, h => by rw [List.eq_nil_of_length_eq_zero h]; rfl
  | n + 1, l, h => by
    rcases List.eq_nil_or_concat l with rfl | ⟨l', d, rfl⟩
    · rfl
    · rw [List.concat_eq_append] at h ⊢
      by_cases hd : d = 0
      · subst hd
        rw [trimL_zero, numW_append, numW_trim n l' (by simp at h; exact h)]
        simp [numW]
      · rw [trimL_stop hd]
theorem IsN.take {k : IntKind} {w : World} {y : Option Addr} {n c m : Nat} {L : List Nat} (h : IsN k w (.slice y n c) L) (hm : m ≤ L.length) : IsN k w (.slice y m c) (L.take m) := by
  have hl : (L.take m).length = m := by rw [List.length_take]; omega
  obtain ⟨a, cap, hv, hc, hmx, ⟨ha, h0, hc0⟩ | ⟨x, ha, h0 | ⟨b, o, hx, hb, hf⟩⟩⟩ := h
  all_goals
    simp only [Value.slice.injEq] at hv
    obtain ⟨rfl, _, rfl⟩ := hv
  · exact ⟨y, c, by rw [hl], by rw [hl]; omega, hmx, .inl ⟨ha, by rw [hl]; omega, hc0⟩⟩
  · exact ⟨y, c, by rw [hl], by rw [hl]; omega, hmx, .inr ⟨x, ha, .inl (by rw [hl]; omega)⟩⟩
  · refine ⟨y, c, by rw [hl], by rw [hl]; omega, hmx, .inr ⟨x, ha, .inr ⟨b, o, hx, hb, fun i n hn => hf i n ?_⟩⟩⟩
    rw [List.getElem?_take] at hn
    split at hn
    · exact hn
    · cases hn
set_option maxHeartbeats 2000000 in
theorem nTrimmed_any (y : Option Addr) (c : Nat) (L : List Nat) (w : World) (hS : IsN .u64 w (.slice y L.length c) L) (hs : L.length ≤ 1000000) :
    Calls Tryd.prog 62 #[.slice y L.length c] w fun e w' => e = .returned (.slice y (trimL L).length c) ∧ IsN .u64 w (.slice y (trimL L).length c) (trimL L) ∧ w' = w := by
  have HS := show Hid (IsN .u64 w (.slice y L.length c) L) from hS
  have hcL : L.length ≤ c := by
    obtain ⟨_, _, e1, e2, _⟩ := hS
    simp only [Value.slice.injEq] at e1
    omega
  obtain ⟨n, hn⟩ : ∃ n, L.length = n := ⟨_, rfl⟩
  have HN := show Hid (L.length = n) from hn
  rw [hn] at hs hcL ⊢
  clear hS hn
  go_enter Tryd.func62, Tryd.ntmps62
  go_wp2_with fail
  go_loopw [0] (fun u wr => ∃ m : Nat, u = .slice y m c ∧ m ≤ n ∧ Hid (trimL (L.take m) = trimL L) ∧ wr = w) (fun u _ => lenOf u)
  case atStart => exact ⟨n, rfl, Nat.le_refl _, by unfold Hid; rw [List.take_of_length_le (by rw [HN.out]; exact Nat.le_refl _)], rfl⟩
  case round =>
    obtain ⟨m, rfl, hmn, hT, rfl⟩ := hrel
    by_cases h0 : 0 < m
    · have h02 : (0 : Int) < (m : Int) := by omega
      obtain ⟨m1, hm1⟩ : ∃ m1, m - 1 = m1 := ⟨_, rfl⟩
      have e1 : (m : Int) - 1 = (m1 : Int) := by omega
      have wi : IntKind.i64.wrap (m1 : Int) = (m1 : Int) := by rw [IntKind.wrap_i64]; omega
      have hlt : (m1 : Int) < (m : Int) := by omega
      have hm1c : (m1 : Int) ≤ (c : Int) := by omega
      have hm1c2 : m1 ≤ c := by omega
      have hdg : L[m1]? = some (atN L m1) := atN_some (by have := HN.out; omega)
      obtain ⟨d, hd⟩ : ∃ d, atN L m1 = d := ⟨_, rfl⟩
      rw [hd] at hdg
      have htk : L.take m = L.take m1 ++ [d] := by
        rw [show m = m1 + 1 by omega, List.take_add_one, hdg]
        rfl
      obtain ⟨x1, b, o, rfl, hbl, gc⟩ := IsN.cellAt HS.out hdg
      clear x1
      have HT2 := show Hid (trimL (L.take m1 ++ [d]) = trimL L) from by unfold Hid; rw [← htk]; exact hT.out
      have HTK := show Hid (L.take m = L.take m1 ++ [d]) from htk
      clear hT htk hdg hd
      by_cases hd0 : d = 0
      · subst hd0
        have HT3 := show Hid (trimL (L.take m1) = trimL L) from by unfold Hid; rw [← HT2.out, trimL_zero]
        clear HT2 HTK
        go_wp2_with fail
        go_roundw
        case rel => exact ⟨m1, rfl, by omega, HT3.out, trivial⟩
        case measure => simp [lenOf]; omega
      · have hdz : ((d : Int) == 0) = false := by simp; omega
        have hbd : trimL L = L.take m := by rw [← HT2.out, trimL_stop hd0, HTK.out]
        have hlm : (L.take m).length = m := by rw [List.length_take, HN.out]; omega
        have HR := show Hid ((trimL L).length = m ∧ IsN .u64 wr (.slice (some ⟨b, o, none⟩) m c) (trimL L)) from ⟨by rw [hbd, hlm], by rw [hbd]; exact HS.out.take (by rw [HN.out]; exact hmn)⟩
        clear hbd hlm HT2 HTK
        go_wp2_with fail
        go_ret
        exact ⟨by rw [HR.out.1]; rfl, by rw [HR.out.1]; exact HR.out.2, rfl⟩
    · have h02 : ¬ (0 : Int) < (m : Int) := by omega
      obtain rfl : m = 0 := by omega
      have hbd : trimL L = L.take 0 := by rw [← hT.out, List.take_zero]; rfl
      have HR := show Hid ((trimL L).length = 0 ∧ IsN .u64 wr (.slice y 0 c) (trimL L)) from ⟨by rw [hbd]; rfl, by rw [hbd]; exact HS.out.take (Nat.zero_le _)⟩
      clear hbd hT
      go_wp2_with fail
      go_ret
      exact ⟨by rw [HR.out.1]; rfl, by rw [HR.out.1]; exact HR.out.2, rfl⟩
end Go.Proofs.YtpcmpeeflnlkpaaDoor

namespace Go.Proofs.YtpcmpeeflnlkpaaDoor
open Go.RowKit Ch
set_option maxRecDepth 100000

/-- Without leading noughts. -/
def bareL (l : List UInt8) : List UInt8 := l.dropWhile (· == 0)
theorem bareL_zero (l : List UInt8) : bareL (0 :: l) = bareL l := by simp [bareL]
theorem bareL_stop {c : UInt8} (h : c ≠ 0) (l : List UInt8) : bareL (c :: l) = c :: l := by simp [bareL, h]
set_option maxHeartbeats 2000000 in
theorem nBare_any (x : Option Addr) (cx : Nat) (s : ByteArray) (w : World) (hS : IsBytes w (.slice x s.size cx) s) (hs : s.size ≤ 1000000) :
    Calls Tryd.prog 40 #[.slice x s.size cx] w fun e w' => (∃ y m c, e = .returned (.slice y m c) ∧ m = (bareL s.data.toList).length ∧ IsBytes w (.slice y m c) ⟨(bareL s.data.toList).toArray⟩) ∧ w' = w := by
  have HS0 := show Hid (IsBytes w (.slice x s.size cx) ⟨(s.data.toList.drop 0).toArray⟩) from by unfold Hid; rw [List.drop_zero]; exact hS
  clear hS
  go_enter Tryd.func40, Tryd.ntmps40
  go_wp2_with fail
  go_loopw [0] (fun u wr => ∃ (p m c : Nat) (y : Option Addr), u = .slice y m c ∧ Hid (p + m = s.size) ∧ m ≤ 1000000 ∧ Hid (IsBytes w (.slice y m c) ⟨(s.data.toList.drop p).toArray⟩) ∧ Hid (bareL (s.data.toList.drop p) = bareL s.data.toList) ∧ wr = w) (fun u _ => lenOf u)
  case atStart => exact ⟨0, s.size, cx, x, rfl, by unfold Hid; omega, hs, HS0.out, by unfold Hid; rw [List.drop_zero], rfl⟩
  case round =>
    obtain ⟨p, m, c, y, rfl, hpm, hm, hB, hb, rfl⟩ := hrel
    have hl : (s.data.toList.drop p).length = m := by rw [List.length_drop, len_eq]; have := hpm.out; omega
    have hz : (⟨(s.data.toList.drop p).toArray⟩ : ByteArray).size = m := by rw [size_of_list]; exact hl
    by_cases h0 : 0 < m
    · have h02 : (0 : Int) < (m : Int) := by omega
      obtain ⟨d, rest, hd⟩ : ∃ d rest, s.data.toList.drop p = d :: rest := by
        rcases h : s.data.toList.drop p with _ | ⟨d, rest⟩
        · rw [h] at hl; simp at hl; omega
        · exact ⟨d, rest, rfl⟩
      obtain ⟨bb, oo, rfl, hbl, gc⟩ := IsBytes.cellAt (s := ⟨(s.data.toList.drop p).toArray⟩) (by rw [hz]; exact hB.out) (i := 0) (by rw [hz]; exact h0)
      have hby : byte ⟨(s.data.toList.drop p).toArray⟩ 0 = d.toNat := by rw [byte_list, List.toList_toArray, hd]; rfl
      rw [hby, Nat.add_zero] at gc
      have hcm : m ≤ c := by
        obtain ⟨_, _, e1, e2, _⟩ := hB.out
        simp only [Value.slice.injEq] at e1
        omega
      by_cases hd0 : d = 0
      · have hdz : ((d.toNat : Int) == 0) = true := by rw [hd0]; rfl
        have hrest := IsBytes.rest (s := ⟨(s.data.toList.drop p).toArray⟩) (by rw [hz]; exact hB.out) (k := 1) (by rw [hz]; omega)
        have hseg : seg ⟨(s.data.toList.drop p).toArray⟩ 1 (⟨(s.data.toList.drop p).toArray⟩ : ByteArray).size = s.data.toList.drop (p + 1) := by
          unfold seg
          rw [hz, List.toList_toArray, List.drop_drop, ← hl]
          exact List.take_of_length_le (by rw [List.length_drop, List.length_drop]; omega)
        rw [hseg, hz] at hrest
        have HRS := show Hid (IsBytes wr (.slice (if c = 1 then some ⟨bb, oo, none⟩ else (some ⟨bb, oo, none⟩ : Option Addr).map fun x => x.add 1) (m - 1) (c - 1)) ⟨(s.data.toList.drop (p + 1)).toArray⟩) from hrest
        have HB2 := show Hid (bareL (s.data.toList.drop (p + 1)) = bareL s.data.toList) from by
          unfold Hid
          rw [← hb.out, hd, hd0, bareL_zero]
          congr 1
          rw [← List.drop_drop, hd]
          rfl
        clear hrest hseg hB hb hl hz hby hd
        have h1m : (1 : Int) ≤ (m : Int) := by omega
        have h1c : (1 : Int) ≤ (c : Int) := by omega
        go_wp2_with fail
        go_roundw
        case rel => exact ⟨p + 1, m - 1, c - 1, _, by first | rfl | (congr 1; omega), by unfold Hid; have := hpm.out; omega, by omega, HRS.out, HB2.out, trivial⟩
        case measure => simp [lenOf]; omega
      · have hdz : ((d.toNat : Int) == 0) = false := by
          have : d.toNat ≠ 0 := fun h => hd0 (by rw [← UInt8.toNat_inj]; exact h)
          simp; omega
        have hbd : bareL s.data.toList = s.data.toList.drop p := by rw [← hb.out, hd, bareL_stop hd0]
        have HR := show Hid (m = (bareL s.data.toList).length ∧ IsBytes wr (.slice (some ⟨bb, oo, none⟩) m c) ⟨(bareL s.data.toList).toArray⟩) from ⟨by rw [hbd, hl], by rw [hbd]; exact hB.out⟩
        clear hbd hl hz hby hd hB hb
        go_wp2_with fail
        go_ret
        exact ⟨⟨_, _, _, rfl, HR.out.1, HR.out.2⟩, rfl⟩
    · have h02 : ¬ (0 : Int) < (m : Int) := by omega
      have hd : s.data.toList.drop p = [] := List.eq_nil_of_length_eq_zero (by omega)
      have hbd : bareL s.data.toList = [] := by rw [← hb.out, hd]; rfl
      have HR := show Hid (m = (bareL s.data.toList).length ∧ IsBytes wr (.slice y m c) ⟨(bareL s.data.toList).toArray⟩) from ⟨by rw [hbd]; simp; omega, by rw [hbd, ← hd]; exact hB.out⟩
      clear hbd hl hz hd hB hb
      go_wp2_with fail
      go_ret
      exact ⟨⟨_, _, _, rfl, HR.out.1, HR.out.2⟩, rfl⟩
end Go.Proofs.YtpcmpeeflnlkpaaDoor
