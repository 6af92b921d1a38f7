/-
  Literals, rows of the call's own, slices.Grow and Concat: out of layer 8's texts, without package der. (mk/mkQOwn.py)
-/
import Derived.Test.YtpcmpeeflnlkpaaDoorNTrEtc
import Derived.Lib.AppendZerosOnto
import Derived.Lib.SlBytesConst
import Derived.Lib.ConvBytes
namespace Go.Proofs.YtpcmpeeflnlkpaaDoor
open Go.RowKit Ch
set_option maxRecDepth 100000

theorem litC (w : World) (s : ByteArray) (C : Array Value) (hC : C.toList = byteVals s) (hn : s.size ≤ maxLen) : IsBytes (w.alloc (.cells C 5)) (.slice (some ⟨w.heap.size, 0, none⟩) s.size s.size) s := by
  refine ⟨some ⟨w.heap.size, 0, none⟩, s.size, rfl, Nat.le_refl _, hn, .inr ⟨_, rfl, .inr ⟨w.heap.size, 0, rfl, by simp, ?_⟩⟩⟩
  intro i hi
  rw [Nat.zero_add] at hi
  have e1 : (byteVals s)[i]? = some (.int .u8 (byte s i : Int)) := by
    unfold byteVals
    rw [List.getElem?_map, list_at s i hi, byte_eq s i hi]
    rfl
  rw [← hC, Array.getElem?_toList] at e1
  rw [Nat.zero_add]
  exact block_cell _ (heap_push_at w _) e1
/-- A row of the call's own: these bytes. -/
def OwnL (base : Nat) (w : World) (v : Value) (l : List UInt8) : Prop := w.ownsRow base 5 1 v l.length (Lib.byteCells l)
theorem OwnL.is {base : Nat} {w : World} {v : Value} {l : List UInt8} (h : OwnL base w v l) : IsBytes w v ⟨l.toArray⟩ := by
  refine own_bytes (base := base) ?_
  have e : (⟨l.toArray⟩ : ByteArray).size = l.length := size_of_list l
  rw [e]
  exact h
/-- append of bytes onto a row of the call's own. -/
theorem wpList_append_l {w : World} {ops : Array Oper} {rest : List Oper} {o : Oper} {ac : Act} {Q : Exit → Act → World → Prop} (hgd : o.guard = none) (so x : Operand)
    (ho : o.op = .call { callee := .builtin .append, args := #[so, x], argTypes := #[22, 22] })
    (base : Nat) (v : Value) (l : List UInt8) (hs : ac.eval so = v) (hown : OwnL base w v l)
    (u : Value) (t : List UInt8) (hx : ac.eval x = u) (hu : IsBytes w u ⟨t.toArray⟩) (hsz : l.length + t.length ≤ 1000000) (hbase : base ≤ w.heap.size)
    (h : ∀ v' w', OwnL base w' v' (l ++ t) → Below base w w' → wpList Tryd.prog ops Q rest (ac.put o.dst v') w') : wpList Tryd.prog ops Q (o :: rest) ac w := by
  have e1 : (⟨l.toArray⟩ : ByteArray).size = l.length := size_of_list l
  have e2 : (⟨t.toArray⟩ : ByteArray).size = t.length := size_of_list t
  refine wpList_append_bytes hgd so x ho base v ⟨l.toArray⟩ hs (by rw [e1]; exact hown) u ⟨t.toArray⟩ hx hu (by rw [e1, e2]; exact hsz) hbase ?_
  intro v' w' ho' hb'
  refine h v' w' ?_ hb'
  have e3 : (cat ⟨l.toArray⟩ ⟨t.toArray⟩).size = (l ++ t).length := by
    rw [← len_eq]
    simp [cat]
  have e4 : byteVals (cat ⟨l.toArray⟩ ⟨t.toArray⟩) = Lib.byteCells (l ++ t) := by
    simp [byteVals, cat, Lib.byteCells]
  rw [e3, e4] at ho'
  exact ho'
theorem OwnL.later {base : Nat} {w w' : World} {v : Value} {l : List UInt8} (h : OwnL base w v l) (hb : Below w.heap.size w w') : OwnL base w' v l := by
  refine ⟨h.1, ?_⟩
  rcases h.2 with h2 | ⟨g, cap, cur, hv, hg2, hh, r⟩
  · exact .inl h2
  · exact .inr ⟨g, cap, cur, hv, hg2, (hb.block g (block_lt hh)).trans hh, r⟩
theorem litD (w : World) (d : UInt8) : IsBytes (w.alloc (.cells #[.int .u8 (d.toNat : Int)] 5)) (.slice (some ⟨w.heap.size, 0, none⟩) 1 1) ⟨[d].toArray⟩ := litC w ⟨#[d]⟩ _ rfl (show (1 : Nat) ≤ maxLen by unfold maxLen; decide)
theorem ownL_one (w : World) (t : UInt8) : OwnL w.heap.size (w.alloc (.cells #[.int .u8 (t.toNat : Int)] 5)) (.slice (some ⟨w.heap.size, 0, none⟩) 1 1) [t] :=
  ⟨rfl, .inr ⟨w.heap.size, 1, #[.int .u8 (t.toNat : Int)], rfl, Nat.le_refl _, heap_push_at w _, Nat.le_refl _, by unfold maxLen; omega, rfl, rfl⟩⟩
theorem ownL_lit (w : World) (l : List UInt8) (C : Array Value) (hC : C.toList = Lib.byteCells l) (n : Nat) (hn : l.length = n) (h : n ≤ maxLen) : OwnL w.heap.size (w.alloc (.cells C 5)) (.slice (some ⟨w.heap.size, 0, none⟩) n n) l := by
  subst hn
  have hs : C.size = l.length := by rw [← Array.length_toList, hC]; simp [Lib.byteCells]
  refine ⟨by simp [Lib.byteCells], .inr ⟨w.heap.size, l.length, C, rfl, Nat.le_refl _, heap_push_at w _, Nat.le_refl _, h, by omega, ?_⟩⟩
  rw [Nat.mul_one, hC]
  exact List.take_of_length_le (by simp [Lib.byteCells])
theorem zero_cells (n : Nat) : (Builtin.zeroCells (Value.int .u8 0).cells n).size = n := by
  simp [Builtin.zeroCells, Value.cells]
theorem grow_made (n : Nat) (w : World) (h0 : 0 < n) (hn : n ≤ 1000000) : ∃ G u, n ≤ G ∧ (∀ ty, (Builtin.append_ #[22, 3] ty #[.slice none 0 0, .int .i64 (n : Int)]).run Tryd.prog w = .ok (.slice (some ⟨w.heap.size, 0, none⟩) n G) u) ∧ OwnL w.heap.size u (.slice (some ⟨w.heap.size, 0, none⟩) 0 G) [] ∧ Below w.heap.size w u := by
  obtain ⟨i0, hi, hz0, hz1, hz2⟩ := info5
  have hbig : n * i0.bytes ≤ 140737488355328 := by rw [hz2]; omega
  have h := fun ty => Lib.run_append_grow_zeros (P := Tryd.prog) w 22 3 ty 5 i0 (.int .u8 0) .i64 .i64 Tryd.underlying22 Tryd.underlying3 hi hz0 none 0 0 [] (run_firstCells_none w.drew i0.size 0 0 0) n h0 (by omega) (by omega) (by omega) (by omega) (growslice_fits (by omega) (by simpa using hbig))
  simp only [Nat.zero_add] at h
  have hG := grownCap_ge w n 0 5
  have hG2 := grownCap_le_maxLen w n 0 5 (by unfold maxLen; omega)
  refine ⟨_, _, hG, h, ⟨rfl, .inr ⟨w.heap.size, _, _, rfl, Nat.le_refl _, heap_push_at w.drew _, Nat.zero_le _, hG2, ?_, ?_⟩⟩, ((Below.refl _ w).drew).alloc (Nat.le_refl _) _⟩
  · simp [zero_cells]
    omega
  · simp [Lib.byteCells]
set_option maxHeartbeats 4000000 in
theorem sGrow_any (n : Nat) (w : World) (hn : n ≤ 1000000) :
    Calls Tryd.prog 79 #[.slice none 0 0, .int .i64 (n : Int)] w fun e w' => (∃ v, e = .returned v ∧ OwnL w.heap.size w' v []) ∧ Below w.heap.size w w' := by
  by_cases h0 : 0 < n
  · obtain ⟨G, u, hG, hr, ho, hb⟩ := grow_made n w h0 hn
    have hF := show Hid (OwnL w.heap.size u (.slice (some ⟨w.heap.size, 0, none⟩) 0 G) [] ∧ Below w.heap.size w u) from ⟨ho, hb⟩
    have h1 : ¬ ((n : Int) < 0) := by omega
    have h2 : IntKind.i64.wrap (n : Int) = (n : Int) := by rw [IntKind.wrap_i64]; omega
    have h3 : (0 : Int) < (n : Int) := by omega
    clear ho hb
    go_enter Tryd.func79, Tryd.ntmps79
    go_wp2_with (at_builtin; refine Lib.wpList_append_run _ rfl _ _ _ _ rfl _ _ rfl rfl _ _ (hr _) ?_)
    go_ret
    exact ⟨⟨_, rfl, hF.out.1⟩, hF.out.2⟩
  · obtain rfl : n = 0 := by omega
    go_enter Tryd.func79, Tryd.ntmps79
    go_wp2_with fail
    go_ret
    exact ⟨⟨_, rfl, World.ownsRow_nil _ _ _ _⟩, Below.refl _ _⟩
/-- Slices of bytes, one behind the other. -/
def flatL (ls : List ByteArray) : List UInt8 := (ls.map fun s => s.data.toList).flatten
theorem flatL_take {ls : List ByteArray} {i : Nat} {s : ByteArray} (h : ls[i]? = some s) : flatL (ls.take (i + 1)) = flatL (ls.take i) ++ s.data.toList := by
  unfold flatL
  rw [List.take_add_one, h]
  simp
theorem flatL_take_le (ls : List ByteArray) (i : Nat) : (flatL (ls.take i)).length ≤ (flatL ls).length := by
  have h : flatL ls = flatL (ls.take i) ++ flatL (ls.drop i) := by
    unfold flatL
    rw [← List.flatten_append, ← List.map_append, List.take_append_drop]
  rw [h, List.length_append]
  omega
set_option maxHeartbeats 8000000 in
theorem sConcat_any (x : Option Addr) (cx n : Nat) (ls : List ByteArray) (w : World) (hP : IsSl w (.slice x n cx) ls) (hn : ls.length = n) (hsz : (flatL ls).length ≤ 900000) (hl : n ≤ 100000) :
    Calls Tryd.prog 58 #[.slice x n cx] w fun e w' => (∃ v, e = .returned v ∧ OwnL w.heap.size w' v (flatL ls)) ∧ Below w.heap.size w w' := by
  have HP := show Hid (IsSl w (.slice x n cx) ls ∧ ls.length = n ∧ (flatL ls).length ≤ 900000) from ⟨hP, hn, hsz⟩
  have HC := show Hid (∀ i s, ls[i]? = some s → ∃ b o y c, x = some ⟨b, o, none⟩ ∧ ∀ u, Below w.heap.size w u → u.cell? ⟨b, o + i, none⟩ = some (.slice y s.size c) ∧ IsBytes u (.slice y s.size c) s) from fun i s hi => by
    obtain ⟨a, cap, h0, h1 | ⟨b, o, h1, h2, h3⟩⟩ := hP
    · have := (List.getElem?_eq_some_iff.1 hi).1
      omega
    · simp only [Value.slice.injEq] at h0
      obtain ⟨u, hu, hI⟩ := h3 i s hi
      obtain ⟨y, c, hv, _⟩ := id hI
      subst hv
      exact ⟨b, o, y, c, h0.1.trans h1, fun w' hb => ⟨(hb.cell (p := ⟨b, o + i, none⟩) h2).trans hu, hI.later hb⟩⟩
  clear hP hn hsz
  go_enter Tryd.func58, Tryd.ntmps58
  go_wp2_with fail
  go_loopw [3, 11] (fun a t wr => ∃ i m : Nat, i ≤ n ∧ a = .int .i64 (m : Int) ∧ t = .int .i64 (i : Int) ∧ Hid (m = (flatL (ls.take i)).length ∧ wr = w)) (fun _ t _ => n - (intOf t).toNat)
  case atStart => exact ⟨0, 0, by omega, rfl, rfl, rfl, rfl⟩
  case round =>
    obtain ⟨i, m, hi, rfl, rfl, hmw⟩ := hrel
    obtain ⟨hm, hww⟩ := hmw.out
    clear hmw
    subst hww
    by_cases hin : i < n
    · have hinI : (i : Int) < (n : Int) := by omega
      obtain ⟨s, hs⟩ : ∃ s, ls[i]? = some s := ⟨_, List.getElem?_eq_getElem (by rw [HP.out.2.1]; exact hin)⟩
      obtain ⟨b, o, y, c, rfl, hu⟩ := HC.out i s hs
      obtain ⟨g0, _⟩ := hu wr (Below.refl _ _)
      have hm2 : m + s.size = (flatL (ls.take (i + 1))).length := by rw [flatL_take hs, List.length_append, len_eq, hm]
      have hle := flatL_take_le ls (i + 1)
      have h9 := HP.out.2.2
      obtain ⟨k, hk⟩ : ∃ k, s.size = k := ⟨_, rfl⟩
      rw [hk] at g0 hm2
      have hsum : (m : Int) + (k : Int) = ((m + k : Nat) : Int) := by omega
      have wi : IntKind.i64.wrap ((i : Int) + 1) = (i : Int) + 1 := by rw [IntKind.wrap_i64]; omega
      have ws : IntKind.i64.wrap ((m : Int) + (k : Int)) = (m : Int) + (k : Int) := by rw [IntKind.wrap_i64]; omega
      have hneg : ¬ ((m : Int) + (k : Int) < 0) := by omega
      have HM := show Hid (m + k = (flatL (ls.take (i + 1))).length) from hm2
      clear hs hu hm hm2 hle h9 hk hsum
      go_wp2_with fail
      go_roundw
      case rel => exact ⟨i + 1, m + k, by omega, by go_num, by go_num, HM.out, trivial⟩
      case measure => simp [intOf]; omega
    · have hinI : ¬ (i : Int) < (n : Int) := by omega
      have htk : ls.take i = ls := List.take_of_length_le (by have := HP.out.2.1; omega)
      rw [htk] at hm
      have hG := sGrow_any m wr (by have := HP.out.2.2; omega)
      obtain ⟨w0, hw0⟩ : ∃ a, a = wr := ⟨_, rfl⟩
      subst hw0
      clear hm htk hi hin
      go_wp2_with fail
      refine hG.mono ?_
      rintro e w1 ⟨⟨v1, rfl, ho1⟩, hb1⟩
      have HO := show Hid (OwnL w0.heap.size w1 v1 [] ∧ Below w0.heap.size w0 w1) from ⟨ho1, hb1⟩
      clear ho1 hb1 hG
      go_wp2_with fail
      go_loopw [6, 27] (fun v t wr => ∃ i : Nat, i ≤ n ∧ t = .int .i64 (i : Int) ∧ Hid (OwnL w0.heap.size wr v (flatL (ls.take i)) ∧ Below w0.heap.size w0 wr)) (fun _ t _ => n - (intOf t).toNat)
      case atStart => exact ⟨0, by omega, rfl, HO.out⟩
      case round =>
        obtain ⟨i, hi, rfl, hv⟩ := hrel
        obtain ⟨v, hv6⟩ : ∃ a, a = u6 := ⟨_, rfl⟩
        subst hv6
        by_cases hin : i < n
        · have hinI : (i : Int) < (n : Int) := by omega
          obtain ⟨s, hs⟩ : ∃ s, ls[i]? = some s := ⟨_, List.getElem?_eq_getElem (by rw [HP.out.2.1]; exact hin)⟩
          obtain ⟨b, o, y, c, rfl, hu⟩ := HC.out i s hs
          obtain ⟨g0, hI⟩ := hu wr hv.out.2
          have hle := flatL_take_le ls (i + 1)
          have HL := show Hid ((flatL (ls.take i)).length + s.data.toList.length ≤ 1000000 ∧ flatL (ls.take (i + 1)) = flatL (ls.take i) ++ s.data.toList) from ⟨by
            have h9 := HP.out.2.2
            rw [flatL_take hs, List.length_append] at hle
            omega, flatL_take hs⟩
          have HI := show Hid (IsBytes wr (.slice y s.size c) ⟨s.data.toList.toArray⟩) from by
            have e : (⟨s.data.toList.toArray⟩ : ByteArray) = s := by cases s; simp
            unfold Hid
            rw [e]
            exact hI
          obtain ⟨k, hk⟩ : ∃ k, s.size = k := ⟨_, rfl⟩
          rw [hk] at g0 HI
          have wi : IntKind.i64.wrap ((i : Int) + 1) = (i : Int) + 1 := by rw [IntKind.wrap_i64]; omega
          clear hs hu hI hle hk
          go_wp2_with (at_builtin; go_must (refine wpList_append_l rfl _ _ rfl w0.heap.size v (flatL (ls.take i)) rfl hv.out.1 (.slice y k c) s.data.toList rfl HI.out HL.out.1 hv.out.2.size ?_; intro v4 w4 ho4 hb4))
          go_roundw
          case rel => exact ⟨i + 1, by omega, by go_num, by rw [HL.out.2]; exact ho4, hv.out.2.trans hb4⟩
          case measure => simp [intOf]; omega
        · have hinI : ¬ (i : Int) < (n : Int) := by omega
          have htk : ls.take i = ls := List.take_of_length_le (by have := HP.out.2.1; omega)
          rw [htk] at hv
          go_wp2_with fail
          go_ret
          exact ⟨⟨_, rfl, hv.out.1⟩, hv.out.2⟩
theorem allc {α : Type} {P : α → Prop} {q : α} {qs : List α} (h : P q) (t : ∀ x ∈ qs, P x) : ∀ x ∈ q :: qs, P x := List.forall_mem_cons.2 ⟨h, t⟩
theorem alln {α : Type} {P : α → Prop} : ∀ x ∈ ([] : List α), P x := fun _ h => by cases h
theorem litM (w : World) (s : ByteArray) (C : Array Value) (m : Nat × Nat) (hC : C.toList = byteVals s) (hn : s.size ≤ maxLen) : IsBytes (w.alloc (.cells C 5 m)) (.slice (some ⟨w.heap.size, 0, none⟩) s.size s.size) s := by
  refine ⟨some ⟨w.heap.size, 0, none⟩, s.size, rfl, Nat.le_refl _, hn, .inr ⟨_, rfl, .inr ⟨w.heap.size, 0, rfl, by simp, ?_⟩⟩⟩
  intro i hi
  rw [Nat.zero_add] at hi
  have e1 : (byteVals s)[i]? = some (.int .u8 (byte s i : Int)) := by
    unfold byteVals
    rw [List.getElem?_map, list_at s i hi, byte_eq s i hi]
    rfl
  rw [← hC, Array.getElem?_toList] at e1
  rw [Nat.zero_add]
  have hb := heap_push_at w (.cells C 5 m)
  unfold World.cell?
  rw [hb]
  exact e1
theorem isSl_lit (W : World) (qs : List (Value × ByteArray)) (h : ∀ q ∈ qs, IsBytes W q.1 q.2) (C : Array Value) (hC : C.toList = qs.map Prod.fst) (n : Nat) (hn : qs.length = n) : IsSl (W.alloc (.cells C 22)) (.slice (some ⟨W.heap.size, 0, none⟩) n n) (qs.map Prod.snd) := by
  have hN := heap_push_at W (.cells C 22)
  refine ⟨_, n, by rw [List.length_map, hn], .inr ⟨W.heap.size, 0, rfl, block_lt hN, fun i t ht => ?_⟩⟩
  rw [List.getElem?_map] at ht
  cases hq : qs[i]? with
  | none => rw [hq] at ht; cases ht
  | some q =>
    rw [hq] at ht
    obtain rfl := Option.some.inj ht
    refine ⟨q.1, ?_, (h q (List.mem_of_getElem? hq)).alloc _⟩
    rw [Nat.zero_add]
    refine block_cell i hN ?_
    rw [← Array.getElem?_toList, hC, List.getElem?_map, hq]
    rfl
theorem below_bytesW (w : World) (s : ByteArray) : Below w.heap.size w (Lib.bytesWorld w 5 s) :=
  ⟨rfl, rfl, rfl, by rw [Lib.bytesWorld_size]; omega, fun k hk => Lib.bytesWorld_at_old w 5 s k hk⟩
/-- []byte of a string. -/
theorem conv_any (s : ByteArray) (w : World) (hs : s.size ≤ 1000000) : ∃ v u, (convert 9 22 (.string s)).run Tryd.prog w = .ok v u ∧ IsBytes u v ⟨s.data.toList.toArray⟩ ∧ Below w.heap.size w u := by
  have e : (⟨s.data.toList.toArray⟩ : ByteArray) = s := by cases s; simp
  rw [e]
  refine ⟨_, _, Lib.run_convert_string_bytes (P := Tryd.prog) w 9 22 5 s Tryd.underlying9 Tryd.underlying22 Tryd.underlying5, ⟨_, _, rfl, grownCap_ge w s.size 0 5, grownCap_le_maxLen w s.size 0 5 (by unfold maxLen; omega), .inr ⟨_, rfl, .inr ⟨w.heap.size, 0, rfl, by rw [Lib.bytesWorld_size]; omega, fun i hi => ?_⟩⟩⟩, below_bytesW w s⟩
  rw [Nat.zero_add] at hi
  have := Lib.bytesWorld_cell w 5 s i hi
  rw [Nat.zero_add, this, byte_eq s i hi]
  have e := list_at s i hi
  simp [List.getD, e]
theorem own_gives {w : World} {R : List UInt8} {e : Ending} {w' : World} (h : (∃ v, e = .returned v ∧ OwnL w.heap.size w' v R) ∧ Below w.heap.size w w') : Gives w R e w' := by
  obtain ⟨⟨v, h1, h2⟩, h3⟩ := h
  exact ⟨⟨v, h1, h2.is⟩, h3⟩
theorem keptX_at {ps : List Nat} {p i : Nat} {v : Value} (w : World) (h : p ∈ ps) : KeptX ps w (w.setCell ⟨p, i, none⟩ v) :=
  ⟨rfl, rfl, rfl, by simp, fun k _ hn => Below.heap_setCell _ _ _ _ (fun e => hn (e ▸ h))⟩
theorem isl_open {w : World} {v : Value} {ls : List ByteArray} (h : IsSl w v ls) : ∃ y k c, v = .slice y k c := by
  obtain ⟨a, c, hv, _⟩ := h
  exact ⟨a, _, c, hv⟩
/-- A key in a box. -/
structure KeyBox (w W : World) (q : Nat) (a b c : Value) : Prop where
  below : Below w.heap.size w W
  size : w.heap.size = q
  at0 : W.heap[q]? = some (.cells #[a, b, c] 25 (0, 0))
theorem keyBox (w : World) (a b c : Value) : KeyBox w (w.alloc (.cells #[a, b, c] 25)) w.heap.size a b c := ⟨alB _ _, rfl, heap_push_at _ _⟩
theorem KeyBox.cells {w W : World} {q : Nat} {a b c : Value} (h : KeyBox w W q a b c) {u : World} (hu : Below W.heap.size W u) : u.cell? ⟨q, 0, none⟩ = some a ∧ u.cell? ⟨q, 1, none⟩ = some b ∧ u.cell? ⟨q, 2, none⟩ = some c := by
  have h1 := (hu.block q (block_lt h.at0)).trans h.at0
  exact ⟨block_cell 0 h1 rfl, block_cell 1 h1 rfl, block_cell 2 h1 rfl⟩
theorem isb_size {w : World} {x : Option Addr} {n c : Nat} {s : ByteArray} (h : IsBytes w (.slice x n c) s) : s.size = n := by
  obtain ⟨a, cap, hv, _⟩ := h
  simp only [Value.slice.injEq] at hv
  exact hv.2.1.symm
/-- A block in which no cell is a byte. -/
def BoxN (w : World) (p : Nat) : Prop := ∃ C t m, w.heap[p]? = some (.cells C t m) ∧ ∀ (i : Nat) (z : Int), C[i]? ≠ some (.int .u8 z)
theorem IsBytes.keptN {w w' : World} {v : Value} {s : ByteArray} {ps : List Nat} (h : IsBytes w v s) (hk : KeptX ps w w') (hb : ∀ p ∈ ps, BoxN w p) : IsBytes w' v s := by
  obtain ⟨a, cap, hv, hc, hm, hr⟩ := h
  refine ⟨a, cap, hv, hc, hm, ?_⟩
  rcases hr with h1 | ⟨x, h1, h2⟩
  · exact .inl h1
  · refine .inr ⟨x, h1, ?_⟩
    by_cases h0 : s.size = 0
    · exact .inl h0
    rcases h2 with h2 | ⟨b, o, h2, h7, h8⟩
    · exact .inl h2
    · refine .inr ⟨b, o, h2, Nat.lt_of_lt_of_le h7 hk.size, fun i hi => ?_⟩
      have hcell := h8 i hi
      have hnp : b ∉ ps := by
        intro hmem
        obtain ⟨C, t, m, hz, hne⟩ := hb b hmem
        have e : w.cell? ⟨b, o + i, none⟩ = C[o + i]? := by simp [World.cell?, hz]
        rw [e] at hcell
        exact hne _ _ hcell
      have e : w'.cell? ⟨b, o + i, none⟩ = w.cell? ⟨b, o + i, none⟩ := by
        unfold World.cell?
        rw [hk.block b h7 hnp]
      rw [e]
      exact hcell
theorem key_stored {u : World} {q : Nat} {a0 b0 c0 : Value} {t : TypeId} (a b c : Value) (h : u.heap[q]? = some (.cells #[a0, b0, c0] t (0, 0))) :
    (((u.setCell ⟨q, 0, none⟩ a).setCell ⟨q, 1, none⟩ b).setCell ⟨q, 2, none⟩ c).heap[q]? = some (.cells #[a, b, c] t (0, 0)) ∧ KeptX [q] u (((u.setCell ⟨q, 0, none⟩ a).setCell ⟨q, 1, none⟩ b).setCell ⟨q, 2, none⟩ c) :=
  ⟨setCell_block (i := 2) (u := c) (setCell_block (i := 1) (u := b) (setCell_block (i := 0) (u := a) h)), ((keptX_at u (by simp)).trans (keptX_at _ (by simp))).trans (keptX_at _ (by simp))⟩
theorem boxN_nil {u : World} {q : Nat} {t : TypeId} (h : u.heap[q]? = some (.cells #[.slice none 0 0, .slice none 0 0, .slice none 0 0] t (0, 0))) : BoxN u q := ⟨_, _, _, h, fun i z => by
  rcases i with _ | _ | _ | i <;> simp⟩
theorem trimV (v : Value) (l : List UInt8) (w : World) (h : IsBytes w v ⟨l.toArray⟩) (hl : l.length ≤ 1000000) : Calls Tryd.prog 19 #[v] w (Gives w (bareL l)) := by
  obtain ⟨x, cx, rfl⟩ := isb_shape h
  have hz : (⟨l.toArray⟩ : ByteArray).size = l.length := size_of_list l
  have := nTrim_any x cx ⟨l.toArray⟩ w (by rw [hz]; exact h) (by rw [hz]; exact hl)
  rw [hz] at this
  refine this.mono ?_
  rintro e w' ⟨v, h1, h2, h3⟩
  exact ⟨⟨v, h1, (show OwnL w.heap.size w' v (bareL l) from h2).is⟩, h3⟩
end Go.Proofs.YtpcmpeeflnlkpaaDoor
