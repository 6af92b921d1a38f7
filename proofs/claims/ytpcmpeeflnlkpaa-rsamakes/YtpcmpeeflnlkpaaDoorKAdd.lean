/-
  Package hash: bytes added to a digest under way.
-/
import Derived.Test.YtpcmpeeflnlkpaaDoorKDig
import Derived.Test.YtpcmpeeflnlkpaaDoorKLeafEtc
namespace Go.Proofs.YtpcmpeeflnlkpaaDoor
open Go.RowKit Ch
set_option maxRecDepth 100000

def flatB (ls : List ByteArray) : List UInt8 := (ls.map fun s => s.data.toList).flatten
theorem flatB_split (ls : List ByteArray) (k : Nat) : flatB ls = flatB (ls.take k) ++ flatB (ls.drop k) := by
  unfold flatB
  rw [← List.flatten_append, ← List.map_append, List.take_append_drop]
/-- A slice of slices of bytes, none of which lies in block db. -/
def IsSlices (db : Nat) (W : World) (v : Value) (ls : List ByteArray) : Prop := ∃ a cap, v = .slice a ls.length cap ∧ (ls.length = 0 ∨ ∃ b o, a = some ⟨b, o, none⟩ ∧ b ≠ db ∧ b < W.heap.size ∧ ∀ i t, ls[i]? = some t → ∃ u, W.cell? ⟨b, o + i, none⟩ = some u ∧ IsBytes W u t ∧ Off db u)
theorem Off.rest {db : Nat} {y : Option Addr} {n c k : Nat} (h : Off db (.slice y n c)) (hk : n - k ≠ 0 → n ≠ 0) : Off db (.slice (if c = k then y else y.map fun x => x.add k) (n - k) (c - k)) := by
  intro x n' c' hv hn
  simp only [Value.slice.injEq] at hv
  obtain ⟨h1, rfl, rfl⟩ := hv
  cases y with
  | none => split at h1 <;> cases h1
  | some z =>
    have hz := h z n c rfl (hk hn)
    split at h1
    · simp only [Option.some.injEq] at h1
      rw [← h1]
      exact hz
    · simp only [Option.map_some, Option.some.injEq] at h1
      rw [← h1]
      unfold Addr.add
      split <;> exact hz
theorem IsBytes.recap {W : World} {y : Option Addr} {n c c' : Nat} {s : ByteArray} (h : IsBytes W (.slice y n c) s) (hn : n ≠ 0) (h1 : n ≤ c') (h2 : c' ≤ maxLen) : IsBytes W (.slice y n c') s := by
  obtain ⟨a, cap, hv, hc, hm, h | ⟨x, ha, h⟩⟩ := h
  · simp only [Value.slice.injEq] at hv
    omega
  · simp only [Value.slice.injEq] at hv
    obtain ⟨rfl, rfl, rfl⟩ := hv
    exact ⟨y, c', rfl, h1, h2, .inr ⟨x, ha, h⟩⟩
theorem rest_some {db : Nat} {W : World} {yb yo n c k : Nat} {s : ByteArray} {l : List UInt8} (h : IsBytes W (.slice (some ⟨yb, yo, none⟩) n c) s) (ho : Off db (.slice (some ⟨yb, yo, none⟩) n c)) (hn : s.size = n) (hl : s.data.toList = l) (hk : k ≤ n) :
    IsBytes W (.slice (if c = k then some ⟨yb, yo, none⟩ else some ⟨yb, yo + k, none⟩) (n - k) (c - k)) ⟨(l.drop k).toArray⟩ ∧ Off db (.slice (if c = k then some ⟨yb, yo, none⟩ else some ⟨yb, yo + k, none⟩) (n - k) (c - k)) := by
  subst hn
  have e2 : (⟨yb, yo, none⟩ : Addr).add k = ⟨yb, yo + k, none⟩ := by unfold Addr.add; split <;> simp_all
  have e : seg s k s.size = l.drop k := by
    unfold seg
    rw [hl, List.take_of_length_le (by rw [List.length_drop, ← hl, len_eq]; exact Nat.le_refl _)]
  have h1 := h.rest (k := k) hk
  have h2 := ho.rest (k := k) (by omega)
  rw [Option.map_some, e2] at h1 h2
  rw [e] at h1
  exact ⟨h1, h2⟩
theorem Dg.block {db : Nat} {m : List UInt8} {sz : Nat} {W : World} (h : Dg db m sz W) : db < W.heap.size := by
  obtain ⟨r, _, _, h⟩ := h
  exact block_lt h
theorem Dg.later {db : Nat} {m : List UInt8} {sz : Nat} {W W' : World} (h : Dg db m sz W) (hb : Below W.heap.size W W') : Dg db m sz W' := by
  obtain ⟨r, h1, h2, h3⟩ := h
  exact ⟨r, h1, h2, (hb.block db (block_lt h3)).trans h3⟩
theorem digC_state (st : S8) (rest : List UInt8) (held size : Nat) : (digC st rest held size)[0]? = some (.int .u32 (st.a : Int)) ∧ (digC st rest held size)[1]? = some (.int .u32 (st.b : Int)) ∧ (digC st rest held size)[2]? = some (.int .u32 (st.c : Int)) ∧ (digC st rest held size)[3]? = some (.int .u32 (st.d : Int)) ∧ (digC st rest held size)[4]? = some (.int .u32 (st.e : Int)) ∧ (digC st rest held size)[5]? = some (.int .u32 (st.f : Int)) ∧ (digC st rest held size)[6]? = some (.int .u32 (st.g : Int)) ∧ (digC st rest held size)[7]? = some (.int .u32 (st.h : Int)) := ⟨rfl, rfl, rfl, rfl, rfl, rfl, rfl, rfl⟩
theorem set8_list {W : World} {db : Nat} {t : TypeId} {y0 y1 y2 y3 y4 y5 y6 y7 : Value} {T : List Value} (u : S8) (h0 : W.heap[db]? = some (.cells (y0 :: y1 :: y2 :: y3 :: y4 :: y5 :: y6 :: y7 :: T).toArray t (0, 0))) : (((((((((W).setCell ⟨db, 0, none⟩ (.int .u32 (u.a : Int))).setCell ⟨db, 1, none⟩ (.int .u32 (u.b : Int))).setCell ⟨db, 2, none⟩ (.int .u32 (u.c : Int))).setCell ⟨db, 3, none⟩ (.int .u32 (u.d : Int))).setCell ⟨db, 4, none⟩ (.int .u32 (u.e : Int))).setCell ⟨db, 5, none⟩ (.int .u32 (u.f : Int))).setCell ⟨db, 6, none⟩ (.int .u32 (u.g : Int))).setCell ⟨db, 7, none⟩ (.int .u32 (u.h : Int))).heap[db]? = some (.cells (.int .u32 (u.a : Int) :: .int .u32 (u.b : Int) :: .int .u32 (u.c : Int) :: .int .u32 (u.d : Int) :: .int .u32 (u.e : Int) :: .int .u32 (u.f : Int) :: .int .u32 (u.g : Int) :: .int .u32 (u.h : Int) :: T).toArray t (0, 0)) := by
  have h1 : ((W).setCell ⟨db, 0, none⟩ (.int .u32 (u.a : Int))).heap[db]? = some (.cells (.int .u32 (u.a : Int) :: y1 :: y2 :: y3 :: y4 :: y5 :: y6 :: y7 :: T).toArray t (0, 0)) := by
    have := setCell_block (i := 0) (u := .int .u32 (u.a : Int)) h0
    rwa [List.setIfInBounds_toArray, List.set_cons_zero] at this
  have h2 : (((W).setCell ⟨db, 0, none⟩ (.int .u32 (u.a : Int))).setCell ⟨db, 1, none⟩ (.int .u32 (u.b : Int))).heap[db]? = some (.cells (.int .u32 (u.a : Int) :: .int .u32 (u.b : Int) :: y2 :: y3 :: y4 :: y5 :: y6 :: y7 :: T).toArray t (0, 0)) := by
    have := setCell_block (i := 1) (u := .int .u32 (u.b : Int)) h1
    rwa [List.setIfInBounds_toArray, List.set_cons_succ, List.set_cons_zero] at this
  have h3 : ((((W).setCell ⟨db, 0, none⟩ (.int .u32 (u.a : Int))).setCell ⟨db, 1, none⟩ (.int .u32 (u.b : Int))).setCell ⟨db, 2, none⟩ (.int .u32 (u.c : Int))).heap[db]? = some (.cells (.int .u32 (u.a : Int) :: .int .u32 (u.b : Int) :: .int .u32 (u.c : Int) :: y3 :: y4 :: y5 :: y6 :: y7 :: T).toArray t (0, 0)) := by
    have := setCell_block (i := 2) (u := .int .u32 (u.c : Int)) h2
    rwa [List.setIfInBounds_toArray, List.set_cons_succ, List.set_cons_succ, List.set_cons_zero] at this
  have h4 : (((((W).setCell ⟨db, 0, none⟩ (.int .u32 (u.a : Int))).setCell ⟨db, 1, none⟩ (.int .u32 (u.b : Int))).setCell ⟨db, 2, none⟩ (.int .u32 (u.c : Int))).setCell ⟨db, 3, none⟩ (.int .u32 (u.d : Int))).heap[db]? = some (.cells (.int .u32 (u.a : Int) :: .int .u32 (u.b : Int) :: .int .u32 (u.c : Int) :: .int .u32 (u.d : Int) :: y4 :: y5 :: y6 :: y7 :: T).toArray t (0, 0)) := by
    have := setCell_block (i := 3) (u := .int .u32 (u.d : Int)) h3
    rwa [List.setIfInBounds_toArray, List.set_cons_succ, List.set_cons_succ, List.set_cons_succ, List.set_cons_zero] at this
  have h5 : ((((((W).setCell ⟨db, 0, none⟩ (.int .u32 (u.a : Int))).setCell ⟨db, 1, none⟩ (.int .u32 (u.b : Int))).setCell ⟨db, 2, none⟩ (.int .u32 (u.c : Int))).setCell ⟨db, 3, none⟩ (.int .u32 (u.d : Int))).setCell ⟨db, 4, none⟩ (.int .u32 (u.e : Int))).heap[db]? = some (.cells (.int .u32 (u.a : Int) :: .int .u32 (u.b : Int) :: .int .u32 (u.c : Int) :: .int .u32 (u.d : Int) :: .int .u32 (u.e : Int) :: y5 :: y6 :: y7 :: T).toArray t (0, 0)) := by
    have := setCell_block (i := 4) (u := .int .u32 (u.e : Int)) h4
    rwa [List.setIfInBounds_toArray, List.set_cons_succ, List.set_cons_succ, List.set_cons_succ, List.set_cons_succ, List.set_cons_zero] at this
  have h6 : (((((((W).setCell ⟨db, 0, none⟩ (.int .u32 (u.a : Int))).setCell ⟨db, 1, none⟩ (.int .u32 (u.b : Int))).setCell ⟨db, 2, none⟩ (.int .u32 (u.c : Int))).setCell ⟨db, 3, none⟩ (.int .u32 (u.d : Int))).setCell ⟨db, 4, none⟩ (.int .u32 (u.e : Int))).setCell ⟨db, 5, none⟩ (.int .u32 (u.f : Int))).heap[db]? = some (.cells (.int .u32 (u.a : Int) :: .int .u32 (u.b : Int) :: .int .u32 (u.c : Int) :: .int .u32 (u.d : Int) :: .int .u32 (u.e : Int) :: .int .u32 (u.f : Int) :: y6 :: y7 :: T).toArray t (0, 0)) := by
    have := setCell_block (i := 5) (u := .int .u32 (u.f : Int)) h5
    rwa [List.setIfInBounds_toArray, List.set_cons_succ, List.set_cons_succ, List.set_cons_succ, List.set_cons_succ, List.set_cons_succ, List.set_cons_zero] at this
  have h7 : ((((((((W).setCell ⟨db, 0, none⟩ (.int .u32 (u.a : Int))).setCell ⟨db, 1, none⟩ (.int .u32 (u.b : Int))).setCell ⟨db, 2, none⟩ (.int .u32 (u.c : Int))).setCell ⟨db, 3, none⟩ (.int .u32 (u.d : Int))).setCell ⟨db, 4, none⟩ (.int .u32 (u.e : Int))).setCell ⟨db, 5, none⟩ (.int .u32 (u.f : Int))).setCell ⟨db, 6, none⟩ (.int .u32 (u.g : Int))).heap[db]? = some (.cells (.int .u32 (u.a : Int) :: .int .u32 (u.b : Int) :: .int .u32 (u.c : Int) :: .int .u32 (u.d : Int) :: .int .u32 (u.e : Int) :: .int .u32 (u.f : Int) :: .int .u32 (u.g : Int) :: y7 :: T).toArray t (0, 0)) := by
    have := setCell_block (i := 6) (u := .int .u32 (u.g : Int)) h6
    rwa [List.setIfInBounds_toArray, List.set_cons_succ, List.set_cons_succ, List.set_cons_succ, List.set_cons_succ, List.set_cons_succ, List.set_cons_succ, List.set_cons_zero] at this
  have h8 : (((((((((W).setCell ⟨db, 0, none⟩ (.int .u32 (u.a : Int))).setCell ⟨db, 1, none⟩ (.int .u32 (u.b : Int))).setCell ⟨db, 2, none⟩ (.int .u32 (u.c : Int))).setCell ⟨db, 3, none⟩ (.int .u32 (u.d : Int))).setCell ⟨db, 4, none⟩ (.int .u32 (u.e : Int))).setCell ⟨db, 5, none⟩ (.int .u32 (u.f : Int))).setCell ⟨db, 6, none⟩ (.int .u32 (u.g : Int))).setCell ⟨db, 7, none⟩ (.int .u32 (u.h : Int))).heap[db]? = some (.cells (.int .u32 (u.a : Int) :: .int .u32 (u.b : Int) :: .int .u32 (u.c : Int) :: .int .u32 (u.d : Int) :: .int .u32 (u.e : Int) :: .int .u32 (u.f : Int) :: .int .u32 (u.g : Int) :: .int .u32 (u.h : Int) :: T).toArray t (0, 0)) := by
    have := setCell_block (i := 7) (u := .int .u32 (u.h : Int)) h7
    rwa [List.setIfInBounds_toArray, List.set_cons_succ, List.set_cons_succ, List.set_cons_succ, List.set_cons_succ, List.set_cons_succ, List.set_cons_succ, List.set_cons_succ, List.set_cons_zero] at this
  exact h8
theorem digC_set8 {W : World} {db : Nat} {st : S8} {rest : List UInt8} {held size : Nat} {t : TypeId} (h0 : W.heap[db]? = some (.cells (digC st rest held size) t (0, 0))) (u : S8) :
    (((((((((W).setCell ⟨db, 0, none⟩ (.int .u32 (u.a : Int))).setCell ⟨db, 1, none⟩ (.int .u32 (u.b : Int))).setCell ⟨db, 2, none⟩ (.int .u32 (u.c : Int))).setCell ⟨db, 3, none⟩ (.int .u32 (u.d : Int))).setCell ⟨db, 4, none⟩ (.int .u32 (u.e : Int))).setCell ⟨db, 5, none⟩ (.int .u32 (u.f : Int))).setCell ⟨db, 6, none⟩ (.int .u32 (u.g : Int))).setCell ⟨db, 7, none⟩ (.int .u32 (u.h : Int))).heap[db]? = some (.cells (digC u rest held size) t (0, 0)) := by
  unfold digC digL at h0 ⊢
  exact set8_list u h0
set_option maxHeartbeats 8000000 in
theorem kAdd_any (db : Nat) (v : Value) (ls : List ByteArray) (m : List UInt8) (w : World) (hD : Dg db m m.length w) (hI : IsSlices db w v ls) (hK : KTab w) (hdb : db ≠ 3) (hl : m.length + (flatB ls).length ≤ 1000000) (hn0 : ls.length ≤ 1000000) :
    Calls Tryd.prog 75 #[.pointer (some ⟨db, 0, none⟩), v] w fun e w' => e = .returned (.tuple #[]) ∧ Dg db (m ++ flatB ls) (m ++ flatB ls).length w' ∧ KeptD db w w' := by
  obtain ⟨a, cap, rfl, hI⟩ := hI
  have HI := show Hid (ls.length = 0 ∨ ∃ b o, a = some ⟨b, o, none⟩ ∧ b ≠ db ∧ b < w.heap.size ∧ ∀ i t, ls[i]? = some t → ∃ u, w.cell? ⟨b, o + i, none⟩ = some u ∧ IsBytes w u t ∧ Off db u) from hI
  have HK := show Hid (KTab w) from hK
  have HDB := show Hid (db ≠ 3) from hdb
  have HL := show Hid (m.length + (flatB ls).length ≤ 1000000) from hl
  obtain ⟨n, hn⟩ : ∃ n, ls.length = n := ⟨_, rfl⟩
  have HN := show Hid (ls.length = n) from hn
  have hn2 : n ≤ 1000000 := by omega
  rw [hn]
  clear hI hK hdb hl hn hn0
  go_enter Tryd.func75, Tryd.ntmps75
  go_wp2_with fail
  go_loopw [9] (fun t wr => ∃ i : Nat, i ≤ n ∧ t = .int .i64 (i : Int) ∧ Dg db (m ++ flatB (ls.take i)) (m ++ flatB (ls.take i)).length wr ∧ KeptD db w wr) (fun t _ => n - (intOf t).toNat)
  case atStart => exact ⟨0, Nat.zero_le _, rfl, by simpa [flatB] using hD, .refl _ _⟩
  case round =>
    obtain ⟨i, hi, rfl, hDi, hk⟩ := hrel
    by_cases hlt : i < n
    · have hlt2 : (i : Int) < (n : Int) := by omega
      obtain ⟨s, hs⟩ : ∃ s, ls[i]? = some s := ⟨ls[i]'(by rw [HN.out]; exact hlt), List.getElem?_eq_getElem _⟩
      obtain ⟨b, o, rfl, hbd, hbl, u, hu, hIu, hOu⟩ : ∃ b o, a = some ⟨b, o, none⟩ ∧ b ≠ db ∧ b < w.heap.size ∧ ∃ u, w.cell? ⟨b, o + i, none⟩ = some u ∧ IsBytes w u s ∧ Off db u := by
        rcases HI.out with h0 | ⟨b, o, h1, h2, h3, h4⟩
        · rw [HN.out] at h0; omega
        · exact ⟨b, o, h1, h2, h3, h4 i s hs⟩
      have gu : wr.cell? ⟨b, o + i, none⟩ = some u := (World.cell?_of_block (w := w) (a := ⟨b, o + i, none⟩) (hk.block b hbl hbd)).trans hu
      obtain ⟨M, hM⟩ : ∃ M, m ++ flatB (ls.take i) = M := ⟨_, rfl⟩
      rw [hM] at hDi
      have hfl : Hid (m ++ flatB (ls.take (i + 1)) = M ++ s.data.toList) := by
        unfold Hid
        rw [List.take_add_one, hs, ← hM]
        simp [flatB]
      have hML : Hid (M.length + s.size ≤ 1000000) := by
        have h1 := HL.out
        have h2 : m ++ flatB ls = (m ++ flatB (ls.take (i + 1))) ++ flatB (ls.drop (i + 1)) := by
          rw [List.append_assoc, ← flatB_split]
        have h3 := congrArg List.length h2
        rw [hfl.out, List.length_append, List.length_append, List.length_append, len_eq] at h3
        unfold Hid
        omega
      obtain ⟨y, cp, rfl⟩ : ∃ y cp, u = .slice y s.size cp := by obtain ⟨y, cp, h, _⟩ := hIu; exact ⟨y, cp, h⟩
      have hIr := hIu.keepD hOu hk
      obtain ⟨rest, hr1, hr2, hr3⟩ := hDi
      have gs := block_cell 73 hr3 (digC_count _ hr1 _ _)
      have gf := block_free 73 hr3
      have hml := hML.out
      obtain ⟨tot, htot⟩ : ∃ tot, M.length + s.size = tot := ⟨_, rfl⟩
      have HTOT := show Hid (M.length + s.size = tot) from htot
      have hr4 := setCell_block (i := 73) (u := .int .u64 ((tot : Nat) : Int)) hr3
      rw [digC_setCount _ hr1] at hr4
      have hk4 := hk.setCell 73 (.int .u64 ((tot : Nat) : Int))
      have hD4 : Dg db M tot (wr.setCell ⟨db, 73, none⟩ (.int .u64 ((tot : Nat) : Int))) := ⟨rest, hr1, hr2, hr4⟩
      have es : (M.length : Int) + (s.size : Int) = (tot : Int) := by omega
      have htl : tot ≤ 1000000 := by omega
      have HD4 := show Hid (Dg db M tot (wr.setCell ⟨db, 73, none⟩ (.int .u64 ((tot : Nat) : Int)))) from hD4
      have HIr := show Hid (IsBytes (wr.setCell ⟨db, 73, none⟩ (.int .u64 ((tot : Nat) : Int))) (.slice y s.size cp) s) from hIu.keepD hOu hk4
      have HOu := show Hid (Off db (.slice y s.size cp)) from hOu
      clear hr1 hr2 hr3 hr4 hD4 hIu hOu hIr hu hD htot hml
      go_wp2_with fail
      obtain ⟨W5, hW5⟩ : ∃ W5, W5 = wr.setCell ⟨db, 73, none⟩ (.int .u64 (tot : Int)) := ⟨_, rfl⟩
      rw [← hW5] at HD4 HIr hk4 ⊢
      clear hW5
      have HK4 := show Hid (KeptD db w W5) from hk4
      clear hk4 gs gf gu
      go_loopw [5] (fun u wr => ∃ (p L cp : Nat) (y : Option Addr), u = .slice y L cp ∧ Hid (p + L = s.size) ∧ L ≤ 1000000 ∧ Hid (IsBytes wr (.slice y L cp) ⟨(s.data.toList.drop p).toArray⟩) ∧ Hid (Off db (.slice y L cp)) ∧ Hid (Dg db (M ++ s.data.toList.take p) tot wr) ∧ Hid (KeptD db w wr)) (fun u _ => lenOf u)
      case atStart => exact ⟨0, s.size, cp, y, rfl, by unfold Hid; omega, by have := HTOT.out; omega, by unfold Hid; simpa using HIr.out, HOu, by unfold Hid; simpa using HD4.out, HK4⟩
      case round =>
        obtain ⟨p, L, cp, y, rfl, hpL, hLl, hIB, hOf, hDg, hKp⟩ := hrel
        by_cases hL : 0 < L
        · have hL2 : (0 : Int) < (L : Int) := by omega
          obtain ⟨rest, r1, r2, r3⟩ := hDg.out
          have hok := blocksS_ok (M ++ s.data.toList.take p) ((M ++ s.data.toList.take p).length / 64)
          obtain ⟨st, hst⟩ : ∃ st, blocksS (M ++ s.data.toList.take p) ((M ++ s.data.toList.take p).length / 64) = st := ⟨_, rfl⟩
          obtain ⟨hd, hhd⟩ : ∃ hd, (M ++ s.data.toList.take p).length % 64 = hd := ⟨_, rfl⟩
          rw [hst, hhd] at r3
          rw [hst] at hok
          rw [hhd] at r2
          have HST := show Hid (blocksS (M ++ s.data.toList.take p) ((M ++ s.data.toList.take p).length / 64) = st) from hst
          have HHD := show Hid ((M ++ s.data.toList.take p).length % 64 = hd) from hhd
          have hd64 : hd < 64 := by omega
          have ch := block_cell 72 r3 (digC_held _ r1 _ _)
          have chf := block_free 72 r3
          obtain ⟨Lb, hLb⟩ : ∃ Lb, (⟨(s.data.toList.drop p).toArray⟩ : ByteArray) = Lb := ⟨_, rfl⟩
          have hLbs : Lb.size = L := by
            rw [← hLb, size_of_list, List.length_drop, len_eq]
            have := hpL.out
            omega
          have hLbd : Lb.data.toList = s.data.toList.drop p := by rw [← hLb, List.toList_toArray]
          have hIB2 := hIB.out
          rw [hLb] at hIB2
          have hcp : L ≤ cp ∧ cp ≤ maxLen := by
            obtain ⟨_, _, e1, e2, e3, _⟩ := hIB2
            simp only [Value.slice.injEq] at e1
            omega
          have hcp1 := hcp.1
          obtain ⟨yb, yo, rfl, hyb⟩ : ∃ yb yo, y = some ⟨yb, yo, none⟩ ∧ yb < wr.heap.size := by
            rw [← hLbs] at hIB2
            obtain ⟨yb, yo, h1, h2, _⟩ := hIB2.cellAt (i := 0) (by omega)
            exact ⟨yb, yo, h1, h2⟩
          have hcp2 : (L : Int) ≤ (cp : Int) := by omega
          have R1 := show Hid (rest.length = 64) from r1
          have R2 := show Hid (rest.take hd = (M ++ s.data.toList.take p).drop (64 * ((M ++ s.data.toList.take p).length / 64))) from r2
          have R3 := show Hid (wr.heap[db]? = some (.cells (digC st rest hd tot) 91 (0, 0))) from r3
          have HIB2 := show Hid (IsBytes wr (.slice (some ⟨yb, yo, none⟩) L cp) Lb) from hIB2
          have HLB := show Hid (Lb.size = L ∧ Lb.data.toList = s.data.toList.drop p) from ⟨hLbs, hLbd⟩
          have HOK := show Hid st.ok from hok
          clear hst hhd hLb hIB hIB2 hLbs hLbd r1 r2 hok hcp
          by_cases hA : hd = 0 ∧ 64 ≤ L
          · obtain ⟨hA1, hA2⟩ := hA
            have k1 : ((hd : Int) == 0) = true := by simp; omega
            have k2 : (64 : Int) ≤ (L : Int) := by omega
            have k3 : (64 : Int) ≤ (cp : Int) := by omega
            obtain ⟨a, b', c, d, e, f, g, h⟩ := st
            obtain ⟨c0, c1, c2, c3, c4, c5, c6, c7⟩ := digC_state ⟨a, b', c, d, e, f, g, h⟩ rest hd tot
            have d0 := block_cell 0 r3 c0
            have d1 := block_cell 1 r3 c1
            have d2 := block_cell 2 r3 c2
            have d3 := block_cell 3 r3 c3
            have d4 := block_cell 4 r3 c4
            have d5 := block_cell 5 r3 c5
            have d6 := block_cell 6 r3 c6
            have d7 := block_cell 7 r3 c7
            have f0 := block_free 0 r3
            have f1 := block_free 1 r3
            have f2 := block_free 2 r3
            have f3 := block_free 3 r3
            have f4 := block_free 4 r3
            have f5 := block_free 5 r3
            have f6 := block_free 6 r3
            have f7 := block_free 7 r3
            simp only at d0 d1 d2 d3 d4 d5 d6 d7
            clear c0 c1 c2 c3 c4 c5 c6 c7 r3
            obtain ⟨T64, hT64⟩ : ∃ T64 : ByteArray, ⟨((s.data.toList.drop p).take 64).toArray⟩ = T64 := ⟨_, rfl⟩
            have hT1 : T64.size = 64 := by
              rw [← hT64, size_of_list, List.length_take, List.length_drop, len_eq]
              have := hpL.out
              omega
            have hT2 : T64.data.toList = (s.data.toList.drop p).take 64 := by rw [← hT64, List.toList_toArray]
            have hTB : IsBytes wr.drew (.slice (some ⟨yb, yo, none⟩) 64 64) T64 := by
              have h1 := HIB2.out
              rw [← HLB.out.1] at h1
              have h2 := IsBytes.head h1 (k := 64) (by rw [HLB.out.1]; exact hA2)
              have e : (⟨(seg Lb 0 64).toArray⟩ : ByteArray) = T64 := by rw [← hT64]; unfold seg; rw [HLB.out.2]; simp
              rw [e] at h2
              exact (h2.recap (by omega) (Nat.le_refl _) (by unfold maxLen; omega)).later ((Below.refl _ wr).drew)
            have hMx := kMixed_any ⟨a, b', c, d, e, f, g, h⟩ (some ⟨yb, yo, none⟩) 64 T64 wr.drew HOK.out hT1 hTB ((HK.out.keepD HDB.out hKp.out).later ((Below.refl _ wr).drew))
            unfold cells8 at hMx
            simp only at hMx
            have HT2 := show Hid (T64.data.toList = (s.data.toList.drop p).take 64 ∧ T64.size = 64) from ⟨hT2, hT1⟩
            clear hT64 hT1 hT2 hTB
            obtain ⟨mx, hmx⟩ : ∃ mx, mixS ⟨a, b', c, d, e, f, g, h⟩ T64.data.toList = mx := ⟨_, rfl⟩
            rw [hmx] at hMx
            have HMX := show Hid (mixS ⟨a, b', c, d, e, f, g, h⟩ T64.data.toList = mx) from hmx
            clear hmx
            obtain ⟨ma, mb, mc, md, me, mf, mg, mh⟩ := mx
            simp only at hMx
            have hdl : db < wr.heap.size := block_lt R3.out
            go_wp2_with fail
            refine until_region (S := fun w' => w'.cell? ⟨db, 0, none⟩ = some (.int .u32 (a : Int)) ∧ w'.cell? ⟨db, 1, none⟩ = some (.int .u32 (b' : Int)) ∧ w'.cell? ⟨db, 2, none⟩ = some (.int .u32 (c : Int)) ∧ w'.cell? ⟨db, 3, none⟩ = some (.int .u32 (d : Int)) ∧ w'.cell? ⟨db, 4, none⟩ = some (.int .u32 (e : Int)) ∧ w'.cell? ⟨db, 5, none⟩ = some (.int .u32 (f : Int)) ∧ w'.cell? ⟨db, 6, none⟩ = some (.int .u32 (g : Int)) ∧ w'.cell? ⟨db, 7, none⟩ = some (.int .u32 (h : Int)) ∧ w'.frozen? ⟨db, 0, none⟩ = false ∧ w'.frozen? ⟨db, 1, none⟩ = false ∧ w'.frozen? ⟨db, 2, none⟩ = false ∧ w'.frozen? ⟨db, 3, none⟩ = false ∧ w'.frozen? ⟨db, 4, none⟩ = false ∧ w'.frozen? ⟨db, 5, none⟩ = false ∧ w'.frozen? ⟨db, 6, none⟩ = false ∧ w'.frozen? ⟨db, 7, none⟩ = false) (z := 10) (by kernel_rfl) (⟨d0, d1, d2, d3, d4, d5, d6, d7, f0, f1, f2, f3, f4, f5, f6, f7⟩) (fun hS => ?_)
            replace hS : wr.drew.cell? ⟨db, 0, none⟩ = some (.int .u32 (a : Int)) ∧ wr.drew.cell? ⟨db, 1, none⟩ = some (.int .u32 (b' : Int)) ∧ wr.drew.cell? ⟨db, 2, none⟩ = some (.int .u32 (c : Int)) ∧ wr.drew.cell? ⟨db, 3, none⟩ = some (.int .u32 (d : Int)) ∧ wr.drew.cell? ⟨db, 4, none⟩ = some (.int .u32 (e : Int)) ∧ wr.drew.cell? ⟨db, 5, none⟩ = some (.int .u32 (f : Int)) ∧ wr.drew.cell? ⟨db, 6, none⟩ = some (.int .u32 (g : Int)) ∧ wr.drew.cell? ⟨db, 7, none⟩ = some (.int .u32 (h : Int)) ∧ wr.drew.frozen? ⟨db, 0, none⟩ = false ∧ wr.drew.frozen? ⟨db, 1, none⟩ = false ∧ wr.drew.frozen? ⟨db, 2, none⟩ = false ∧ wr.drew.frozen? ⟨db, 3, none⟩ = false ∧ wr.drew.frozen? ⟨db, 4, none⟩ = false ∧ wr.drew.frozen? ⟨db, 5, none⟩ = false ∧ wr.drew.frozen? ⟨db, 6, none⟩ = false ∧ wr.drew.frozen? ⟨db, 7, none⟩ = false := hS
            refine until_take (i := 0) (oi := { dst := some 36, op := Go.Op.move (Go.Operand.tmp 0), type := 100, pos := "digest.go:54", after := #[], guard := none }) (v := ?v1) rfl (by kernel_rfl) (by kernel_rfl) (by kernel_rfl) (by kernel_rfl) (fun _ _ _ h => h) (Or.inl ⟨by rfl, ?h1⟩) hS ?r1
            case h1 =>
              intro wS hSw
              obtain ⟨q0, q1, q2, q3, q4, q5, q6, q7, x0, x1, x2, x3, x4, x5, x6, x7⟩ := hSw
              go_simp
              try with_reducible rfl
            simp only [Act.put, List.setIfInBounds_toArray, List.set_cons_zero, List.set_cons_succ]
            refine until_take (i := 1) (oi := { dst := some 37, op := Go.Op.move (Go.Operand.tmp 0), type := 100, pos := "digest.go:54", after := #[], guard := none }) (v := ?v2) rfl (by kernel_rfl) (by kernel_rfl) (by kernel_rfl) (by kernel_rfl) (fun _ _ _ h => h) (Or.inl ⟨by rfl, ?h2⟩) hS ?r2
            case h2 =>
              intro wS hSw
              obtain ⟨q0, q1, q2, q3, q4, q5, q6, q7, x0, x1, x2, x3, x4, x5, x6, x7⟩ := hSw
              go_simp
              try with_reducible rfl
            simp only [Act.put, List.setIfInBounds_toArray, List.set_cons_zero, List.set_cons_succ]
            refine until_take (i := 2) (oi := { dst := some 38, op := Go.Op.nilCheck (Go.Operand.tmp 37), type := 0, pos := "digest.go:54", after := #[{ on := 1, ground := Go.Ground.data }], guard := none }) (v := ?v3) rfl (by kernel_rfl) (by kernel_rfl) (by kernel_rfl) (by kernel_rfl) (fun _ _ _ h => h) (Or.inl ⟨by rfl, ?h3⟩) hS ?r3
            case h3 =>
              intro wS hSw
              obtain ⟨q0, q1, q2, q3, q4, q5, q6, q7, x0, x1, x2, x3, x4, x5, x6, x7⟩ := hSw
              go_simp
              try with_reducible rfl
            simp only [Act.put, List.setIfInBounds_toArray, List.set_cons_zero, List.set_cons_succ]
            refine until_take (i := 3) (oi := { dst := some 39, op := Go.Op.fieldAddr 91 (Go.Operand.tmp 38) 0, type := 0, pos := "digest.go:54", after := #[{ on := 2, ground := Go.Ground.data }], guard := none }) (v := ?v4) rfl (by kernel_rfl) (by kernel_rfl) (by kernel_rfl) (by kernel_rfl) (fun _ _ _ h => h) (Or.inl ⟨by rfl, ?h4⟩) hS ?r4
            case h4 =>
              intro wS hSw
              obtain ⟨q0, q1, q2, q3, q4, q5, q6, q7, x0, x1, x2, x3, x4, x5, x6, x7⟩ := hSw
              go_simp
              try with_reducible rfl
            simp only [Act.put, List.setIfInBounds_toArray, List.set_cons_zero, List.set_cons_succ]
            refine until_take (i := 4) (oi := { dst := some 40, op := Go.Op.load 88 (Go.Operand.tmp 39), type := 88, pos := "digest.go:54", after := #[{ on := 3, ground := Go.Ground.data }], guard := none }) (v := ?v5) rfl (by kernel_rfl) (by kernel_rfl) (by kernel_rfl) (by kernel_rfl) (fun _ _ _ h => h) (Or.inl ⟨by rfl, ?h5⟩) hS ?r5
            case h5 =>
              intro wS hSw
              obtain ⟨q0, q1, q2, q3, q4, q5, q6, q7, x0, x1, x2, x3, x4, x5, x6, x7⟩ := hSw
              go_simp
              try with_reducible rfl
            simp only [Act.put, List.setIfInBounds_toArray, List.set_cons_zero, List.set_cons_succ]
            refine until_take (i := 5) (oi := { dst := some 41, op := Go.Op.move (Go.Operand.tmp 5), type := 22, pos := "digest.go:54", after := #[], guard := none }) (v := ?v6) rfl (by kernel_rfl) (by kernel_rfl) (by kernel_rfl) (by kernel_rfl) (fun _ _ _ h => h) (Or.inl ⟨by rfl, ?h6⟩) hS ?r6
            case h6 =>
              intro wS hSw
              obtain ⟨q0, q1, q2, q3, q4, q5, q6, q7, x0, x1, x2, x3, x4, x5, x6, x7⟩ := hSw
              go_simp
              try with_reducible rfl
            simp only [Act.put, List.setIfInBounds_toArray, List.set_cons_zero, List.set_cons_succ]
            refine until_take (i := 6) (oi := { dst := some 42, op := Go.Op.slice 22 (Go.Operand.tmp 41) none (some (Go.Operand.const (Go.Value.int Go.IntKind.i64 64))) (some (Go.Operand.const (Go.Value.int Go.IntKind.i64 64))), type := 22, pos := "digest.go:54", after := #[{ on := 5, ground := Go.Ground.data }], guard := none }) (v := ?v7) rfl (by kernel_rfl) (by kernel_rfl) (by kernel_rfl) (by kernel_rfl) (fun _ _ _ h => h) (Or.inl ⟨by rfl, ?h7⟩) hS ?r7
            case h7 =>
              intro wS hSw
              obtain ⟨q0, q1, q2, q3, q4, q5, q6, q7, x0, x1, x2, x3, x4, x5, x6, x7⟩ := hSw
              go_simp
              try with_reducible rfl
            simp only [Act.put, List.setIfInBounds_toArray, List.set_cons_zero, List.set_cons_succ]
            refine until_one (i := 7) (oi := { dst := some 43, op := Go.Op.call { callee := Go.Callee.value (Go.Operand.func 83), args := #[Go.Operand.tmp 40, Go.Operand.tmp 42], argTypes := #[88, 22] }, type := 88, pos := "digest.go:54", after := #[{ on := 4, ground := Go.Ground.data }, { on := 6, ground := Go.Ground.data }], guard := none }) rfl (by kernel_rfl) (fun K hK => ?_)
            go_simp
            go_wp2_with (go_at_call 83; refine hMx.mono ?_)
            rintro e w9 ⟨rfl, hb9⟩
            have hS9 : w9.cell? ⟨db, 0, none⟩ = some (.int .u32 (a : Int)) ∧ w9.cell? ⟨db, 1, none⟩ = some (.int .u32 (b' : Int)) ∧ w9.cell? ⟨db, 2, none⟩ = some (.int .u32 (c : Int)) ∧ w9.cell? ⟨db, 3, none⟩ = some (.int .u32 (d : Int)) ∧ w9.cell? ⟨db, 4, none⟩ = some (.int .u32 (e : Int)) ∧ w9.cell? ⟨db, 5, none⟩ = some (.int .u32 (f : Int)) ∧ w9.cell? ⟨db, 6, none⟩ = some (.int .u32 (g : Int)) ∧ w9.cell? ⟨db, 7, none⟩ = some (.int .u32 (h : Int)) ∧ w9.frozen? ⟨db, 0, none⟩ = false ∧ w9.frozen? ⟨db, 1, none⟩ = false ∧ w9.frozen? ⟨db, 2, none⟩ = false ∧ w9.frozen? ⟨db, 3, none⟩ = false ∧ w9.frozen? ⟨db, 4, none⟩ = false ∧ w9.frozen? ⟨db, 5, none⟩ = false ∧ w9.frozen? ⟨db, 6, none⟩ = false ∧ w9.frozen? ⟨db, 7, none⟩ = false := by
              obtain ⟨q0, q1, q2, q3, q4, q5, q6, q7, x0, x1, x2, x3, x4, x5, x6, x7⟩ := hS
              exact ⟨(hb9.cell (p := ⟨db, 0, none⟩) hdl).trans q0, (hb9.cell (p := ⟨db, 1, none⟩) hdl).trans q1, (hb9.cell (p := ⟨db, 2, none⟩) hdl).trans q2, (hb9.cell (p := ⟨db, 3, none⟩) hdl).trans q3, (hb9.cell (p := ⟨db, 4, none⟩) hdl).trans q4, (hb9.cell (p := ⟨db, 5, none⟩) hdl).trans q5, (hb9.cell (p := ⟨db, 6, none⟩) hdl).trans q6, (hb9.cell (p := ⟨db, 7, none⟩) hdl).trans q7, (hb9.frozen (p := ⟨db, 0, none⟩) hdl).trans x0, (hb9.frozen (p := ⟨db, 1, none⟩) hdl).trans x1, (hb9.frozen (p := ⟨db, 2, none⟩) hdl).trans x2, (hb9.frozen (p := ⟨db, 3, none⟩) hdl).trans x3, (hb9.frozen (p := ⟨db, 4, none⟩) hdl).trans x4, (hb9.frozen (p := ⟨db, 5, none⟩) hdl).trans x5, (hb9.frozen (p := ⟨db, 6, none⟩) hdl).trans x6, (hb9.frozen (p := ⟨db, 7, none⟩) hdl).trans x7⟩
            refine hK.out _ _ (fun _ => hS9) (fun hS' => ?_)
            replace hS := hS' (by decide)
            clear hS'
            try dsimp only at hS
            clear hK K
            refine until_one (i := 8) (oi := { dst := some 44, op := Go.Op.nilCheck (Go.Operand.tmp 36), type := 0, pos := "digest.go:54", after := #[{ on := 0, ground := Go.Ground.data }, { on := 0, ground := Go.Ground.phase }, { on := 1, ground := Go.Ground.phase }, { on := 2, ground := Go.Ground.phase }, { on := 3, ground := Go.Ground.phase }, { on := 4, ground := Go.Ground.phase }, { on := 5, ground := Go.Ground.phase }, { on := 6, ground := Go.Ground.phase }, { on := 7, ground := Go.Ground.phase }], guard := none }) rfl (by kernel_rfl) (fun K hK => ?_)
            go_simp
            refine hK.out _ _ (fun _ => hS) (fun hS' => ?_)
            replace hS := hS' (by decide)
            clear hS'
            try dsimp only at hS
            clear hK K
            refine until_take (i := 9) (oi := { dst := some 45, op := Go.Op.fieldAddr 91 (Go.Operand.tmp 44) 0, type := 0, pos := "digest.go:54", after := #[{ on := 8, ground := Go.Ground.data }, { on := 0, ground := Go.Ground.phase }, { on := 1, ground := Go.Ground.phase }, { on := 2, ground := Go.Ground.phase }, { on := 3, ground := Go.Ground.phase }, { on := 4, ground := Go.Ground.phase }, { on := 5, ground := Go.Ground.phase }, { on := 6, ground := Go.Ground.phase }, { on := 7, ground := Go.Ground.phase }], guard := none }) (v := ?v8) rfl (by kernel_rfl) (by kernel_rfl) (by kernel_rfl) (by kernel_rfl) (fun _ _ _ h => h) (Or.inl ⟨by rfl, ?h8⟩) hS ?r8
            case h8 =>
              intro wS hSw
              obtain ⟨q0, q1, q2, q3, q4, q5, q6, q7, x0, x1, x2, x3, x4, x5, x6, x7⟩ := hSw
              go_simp
              try with_reducible rfl
            simp only [Act.put, List.setIfInBounds_toArray, List.set_cons_zero, List.set_cons_succ]
            refine until_one (i := 10) (oi := { dst := none, op := Go.Op.store 88 (Go.Operand.tmp 45) (Go.Operand.tmp 43), type := 0, pos := "digest.go:54", after := #[{ on := 9, ground := Go.Ground.data }, { on := 7, ground := Go.Ground.data }, { on := 7, ground := Go.Ground.chain }, { on := 0, ground := Go.Ground.phase }, { on := 1, ground := Go.Ground.phase }, { on := 2, ground := Go.Ground.phase }, { on := 3, ground := Go.Ground.phase }, { on := 4, ground := Go.Ground.phase }, { on := 5, ground := Go.Ground.phase }, { on := 6, ground := Go.Ground.phase }, { on := 7, ground := Go.Ground.phase }], guard := none }) rfl (by kernel_rfl) (fun K hK => ?_)
            obtain ⟨q0, q1, q2, q3, q4, q5, q6, q7, x0, x1, x2, x3, x4, x5, x6, x7⟩ := hS
            go_simp
            refine hK.out _ _ (fun h => absurd rfl h) (fun _ => ?_)
            clear hK K
            refine until_done (by kernel_rfl) ?_ _
            have r9 := digC_set8 ((hb9.block db hdl).trans R3.out) ⟨ma, mb, mc, md, me, mf, mg, mh⟩
            simp only at r9
            rw [hA1] at r9
            have k8 : KeptD db wr (((((((((w9).setCell ⟨db, 0, none⟩ (.int .u32 (ma : Int))).setCell ⟨db, 1, none⟩ (.int .u32 (mb : Int))).setCell ⟨db, 2, none⟩ (.int .u32 (mc : Int))).setCell ⟨db, 3, none⟩ (.int .u32 (md : Int))).setCell ⟨db, 4, none⟩ (.int .u32 (me : Int))).setCell ⟨db, 5, none⟩ (.int .u32 (mf : Int))).setCell ⟨db, 6, none⟩ (.int .u32 (mg : Int))).setCell ⟨db, 7, none⟩ (.int .u32 (mh : Int))) := (((((((((KeptD.refl db wr).drew.trans (.of hb9)).setCell 0 _).setCell 1 _).setCell 2 _).setCell 3 _).setCell 4 _).setCell 5 _).setCell 6 _).setCell 7 _
            generalize ((((((((w9).setCell ⟨db, 0, none⟩ (.int .u32 (ma : Int))).setCell ⟨db, 1, none⟩ (.int .u32 (mb : Int))).setCell ⟨db, 2, none⟩ (.int .u32 (mc : Int))).setCell ⟨db, 3, none⟩ (.int .u32 (md : Int))).setCell ⟨db, 4, none⟩ (.int .u32 (me : Int))).setCell ⟨db, 5, none⟩ (.int .u32 (mf : Int))).setCell ⟨db, 6, none⟩ (.int .u32 (mg : Int))).setCell ⟨db, 7, none⟩ (.int .u32 (mh : Int)) = W9 at *
            have k9 := show Hid (KeptD db w W9) from hKp.out.trans k8
            have hD9 : Hid (Dg db (M ++ s.data.toList.take (p + 64)) tot W9) := by
              unfold Hid
              rw [List.take_add, ← List.append_assoc, ← HT2.out.1]
              refine Dg_more (by rw [HHD.out]; exact hA1) (by rw [len_eq]; exact HT2.out.2) R1.out ?_
              rw [HST.out, HMX.out]
              exact r9
            obtain ⟨hI9, hO9⟩ := rest_some (HIB2.out.keepD hOf.out k8) hOf.out HLB.out.1 HLB.out.2 hA2
            rw [List.drop_drop] at hI9
            obtain ⟨y9, hy9⟩ : ∃ y9, (if cp = 64 then some (⟨yb, yo, none⟩ : Addr) else some ⟨yb, yo + 64, none⟩) = y9 := ⟨_, rfl⟩
            rw [hy9] at hI9 hO9
            have hIB9 := show Hid (IsBytes W9 (.slice y9 (L - 64) (cp - 64)) ⟨(s.data.toList.drop (p + 64)).toArray⟩) from hI9
            have hOf9 := show Hid (Off db (.slice y9 (L - 64) (cp - 64))) from hO9
            have hpL9 : Hid (p + 64 + (L - 64) = s.size) := by unfold Hid; have := hpL.out; omega
            clear hI9 hO9 k8 r9
            go_wp2_with fail
            go_roundw
            case rel => exact ⟨p + 64, L - 64, cp - 64, y9, rfl, hpL9, by omega, hIB9, hOf9, hD9, k9⟩
            case measure => simp [lenOf]; omega
          · have hB : (hd ≤ 0 ∧ L < 64) ∨ hd ≠ 0 := by omega
            obtain ⟨k, hk0⟩ : ∃ k, Nat.min L (64 - hd) = k := ⟨_, rfl⟩
            have hkm : k ≤ L ∧ k ≤ 64 - hd ∧ 0 < k ∧ (k = L ∨ hd + k = 64) := by
              have e : Nat.min L (64 - hd) = min L (64 - hd) := rfl
              rw [← hk0, e]
              omega
            obtain ⟨hk1, hk2, hk3, hk4⟩ := hkm
            obtain ⟨t, ht⟩ : ∃ t, (s.data.toList.drop p).take k = t := ⟨_, rfl⟩
            have htl : t.length = k := by
              rw [← ht, List.length_take, ← HLB.out.2, len_eq, HLB.out.1]
              omega
            have hcs : (Lib.byteCells t).length = k := by simp only [Lib.byteCells, List.length_map]; exact htl
            have hcopy := run_copy_row (P := Tryd.prog) wr.drew 22 22 3 5 db (8 + hd) (64 - hd) (64 - hd) ⟨yb, yo, none⟩ L cp (digC st rest hd tot) 91 (Lib.byteCells t) Tryd.underlying22 (by kernel_rfl) R3.out (by rw [hcs, hk0]) (fun j u hj => by
                have h1 := HIB2.out
                have h3 : (byteVals Lb)[j]? = some u := by
                  unfold byteVals
                  rw [HLB.out.2]
                  unfold Lib.byteCells at hj
                  rw [← ht, List.map_take, List.getElem?_take] at hj
                  split at hj
                  · exact hj
                  · cases hj
                have := IsBytes.news h1 j u h3
                exact this) (by rw [digC_size _ R1.out, hcs]; omega) (fun u hu => by
                obtain ⟨z, _, rfl⟩ := List.mem_map.1 hu
                rfl)
            rw [digC_splice _ R1.out hd tot hd t (by rw [htl]; omega), hcs] at hcopy
            obtain ⟨rest2, hrest2⟩ : ∃ rest2, rest.take hd ++ t ++ rest.drop (hd + t.length) = rest2 := ⟨_, rfl⟩
            rw [hrest2] at hcopy
            have HR2 := show Hid (rest.take hd ++ t ++ rest.drop (hd + t.length) = rest2) from hrest2
            have r21 : rest2.length = 64 := by
              rw [← hrest2]
              simp only [List.length_append, List.length_take, List.length_drop, R1.out]
              omega
            have r23 : (wr.drew.setRow db (digC st rest2 hd tot)).heap[db]? = some (.cells (digC st rest2 hd tot) 91 (0, 0)) := setRow_block R3.out
            have k6 : KeptD db wr (wr.drew.setRow db (digC st rest2 hd tot)) := (KeptD.refl db wr).drew.setRow _
            have hgo : goInt k = .int .i64 (k : Int) := rfl
            rw [hgo] at hcopy
            have eh : (64 : Int) - (hd : Int) = ((64 - hd : Nat) : Int) := by omega
            have w1 : IntKind.i64.wrap (hd : Int) = (hd : Int) := by rw [IntKind.wrap_i64]; omega
            have w2 : (hd : Int) ≤ 64 := by omega
            have hne : ¬ 64 = hd := by omega
            have HT := show Hid ((s.data.toList.drop p).take k = t ∧ t.length = k) from ⟨ht, htl⟩
            clear hk0 ht htl hcs hrest2
            rcases hB with ⟨hB1, hB2⟩ | hB1
            · have q1 : ((hd : Int) == 0) = true := by simp; omega
              have q2 : ¬ (64 : Int) ≤ (L : Int) := by omega
              have q3 : decide ((64 : Int) ≤ (L : Int)) = false := decide_eq_false q2
              go_wp2_with fail
              go_region_law (refine Go.Proofs.step_copy_runI rfl (.tmp 55) (.tmp 56) 22 22 rfl _ _ (by simp [Act.eval, Act.put]) (by simp [Act.eval, Act.put]) hcopy ?_)
              generalize wr.drew.setRow db (digC st rest2 hd tot) = W6 at *
              have g72 := block_cell 72 r23 (digC_held _ r21 _ _)
              have f72 := block_free 72 r23
              obtain ⟨hk', hhk⟩ : ∃ hk', hd + k = hk' := ⟨_, rfl⟩
              have ehk : (hd : Int) + (k : Int) = (hk' : Int) := by omega
              have r63 := setCell_block (i := 72) (u := .int .i64 (hk' : Int)) r23
              rw [digC_setHeld _ r21] at r63
              have k7 := k6.setCell 72 (.int .i64 (hk' : Int))
              have g73 : (W6.setCell ⟨db, 72, none⟩ (.int .i64 (hk' : Int))).cell? ⟨db, 72, none⟩ = some (.int .i64 (hk' : Int)) := block_cell 72 r63 (digC_held _ r21 _ _)
              obtain ⟨hI9, hO9⟩ := rest_some (HIB2.out.keepD hOf.out k7) hOf.out HLB.out.1 HLB.out.2 hk1
              rw [List.drop_drop] at hI9
              obtain ⟨y9, hy9⟩ : ∃ y9, (if cp = k then some (⟨yb, yo, none⟩ : Addr) else some ⟨yb, yo + k, none⟩) = y9 := ⟨_, rfl⟩
              rw [hy9] at hI9 hO9
              have hpL9 : Hid (p + k + (L - k) = s.size) := by unfold Hid; have := hpL.out; omega
              have hkc : (k : Int) ≤ (cp : Int) := by omega
              have hkL : (k : Int) ≤ (L : Int) := by omega
              by_cases hfull : 64 ≤ hk'
              · exfalso; omega
              · have hpart : ((hk' : Int) == 64) = false := by simp; omega
                have hIB9 := show Hid (IsBytes (W6.setCell ⟨db, 72, none⟩ (.int .i64 (hk' : Int))) (.slice y9 (L - k) (cp - k)) ⟨(s.data.toList.drop (p + k)).toArray⟩) from hI9
                have hOf9 := show Hid (Off db (.slice y9 (L - k) (cp - k))) from hO9
                have k9 := show Hid (KeptD db w (W6.setCell ⟨db, 72, none⟩ (.int .i64 (hk' : Int)))) from hKp.out.trans k7
                have hD9 : Hid (Dg db (M ++ s.data.toList.take (p + k)) tot (W6.setCell ⟨db, 72, none⟩ (.int .i64 (hk' : Int)))) := by
                  unfold Hid
                  rw [List.take_add, ← List.append_assoc, HT.out.1]
                  refine Dg_part (rest := rest) (by rw [HHD.out, HT.out.2]; omega) R1.out (by rw [HHD.out]; exact R2.out) ?_
                  rw [HHD.out, HR2.out, HST.out, HT.out.2, hhk]
                  exact r63
                clear hI9 hO9 k7 r63 hcopy
                go_wp2_with fail
                go_roundw
                case rel => exact ⟨p + k, L - k, cp - k, y9, rfl, hpL9, by omega, hIB9, hOf9, hD9, k9⟩
                case measure => simp [lenOf]; omega
            · have q1 : ((hd : Int) == 0) = false := by simp; omega
              go_wp2_with fail
              go_region_law (refine Go.Proofs.step_copy_runI rfl (.tmp 55) (.tmp 56) 22 22 rfl _ _ (by simp [Act.eval, Act.put]) (by simp [Act.eval, Act.put]) hcopy ?_)
              generalize wr.drew.setRow db (digC st rest2 hd tot) = W6 at *
              have g72 := block_cell 72 r23 (digC_held _ r21 _ _)
              have f72 := block_free 72 r23
              obtain ⟨hk', hhk⟩ : ∃ hk', hd + k = hk' := ⟨_, rfl⟩
              have ehk : (hd : Int) + (k : Int) = (hk' : Int) := by omega
              have r63 := setCell_block (i := 72) (u := .int .i64 (hk' : Int)) r23
              rw [digC_setHeld _ r21] at r63
              have k7 := k6.setCell 72 (.int .i64 (hk' : Int))
              have g73 : (W6.setCell ⟨db, 72, none⟩ (.int .i64 (hk' : Int))).cell? ⟨db, 72, none⟩ = some (.int .i64 (hk' : Int)) := block_cell 72 r63 (digC_held _ r21 _ _)
              obtain ⟨hI9, hO9⟩ := rest_some (HIB2.out.keepD hOf.out k7) hOf.out HLB.out.1 HLB.out.2 hk1
              rw [List.drop_drop] at hI9
              obtain ⟨y9, hy9⟩ : ∃ y9, (if cp = k then some (⟨yb, yo, none⟩ : Addr) else some ⟨yb, yo + k, none⟩) = y9 := ⟨_, rfl⟩
              rw [hy9] at hI9 hO9
              have hpL9 : Hid (p + k + (L - k) = s.size) := by unfold Hid; have := hpL.out; omega
              have hkc : (k : Int) ≤ (cp : Int) := by omega
              have hkL : (k : Int) ≤ (L : Int) := by omega
              by_cases hfull : 64 ≤ hk'
              · have hfulb : ((hk' : Int) == 64) = true := by simp; omega
                obtain ⟨a, b', c, d, e, f, g, h⟩ := st
                go_wp2_with fail
                have k7' := show Hid (KeptD db wr (W6.setCell ⟨db, 72, none⟩ (.int .i64 (hk' : Int)))) from k7
                generalize hW7 : W6.setCell ⟨db, 72, none⟩ (.int .i64 (hk' : Int)) = W7 at *
                clear hW7
                obtain ⟨c0, c1, c2, c3, c4, c5, c6, c7⟩ := digC_state ⟨a, b', c, d, e, f, g, h⟩ rest2 hk' tot
                have d0 := block_cell 0 r63 c0
                have f0 := block_free 0 r63
                have d1 := block_cell 1 r63 c1
                have f1 := block_free 1 r63
                have d2 := block_cell 2 r63 c2
                have f2 := block_free 2 r63
                have d3 := block_cell 3 r63 c3
                have f3 := block_free 3 r63
                have d4 := block_cell 4 r63 c4
                have f4 := block_free 4 r63
                have d5 := block_cell 5 r63 c5
                have f5 := block_free 5 r63
                have d6 := block_cell 6 r63 c6
                have f6 := block_free 6 r63
                have d7 := block_cell 7 r63 c7
                have f7 := block_free 7 r63
                simp only at d0 d1 d2 d3 d4 d5 d6 d7
                clear c0 c1 c2 c3 c4 c5 c6 c7
                have hdl : db < W7.heap.size := block_lt r63
                have hz2 : (⟨rest2.toArray⟩ : ByteArray).size = 64 := by rw [size_of_list]; exact r21
                have hTB : IsBytes W7.drew (.slice (some ⟨db, 8, none⟩) 64 64) ⟨rest2.toArray⟩ := by
                  refine ⟨some ⟨db, 8, none⟩, 64, by rw [hz2], by omega, by unfold maxLen; omega, .inr ⟨_, rfl, .inr ⟨db, 8, rfl, hdl, fun j hj => ?_⟩⟩⟩
                  rw [Nat.zero_add, hz2] at hj
                  have hget : rest2[j]? = some (rest2[j]'(by omega)) := List.getElem?_eq_getElem _
                  have h1 := block_cell (8 + j) r63 (digC_rest _ hk' tot hget)
                  have e : (byte ⟨rest2.toArray⟩ (0 + j) : Int) = ((rest2[j]'(by omega)).toNat : Int) := by
                    rw [Nat.zero_add, byte_list, List.toList_toArray, hget]
                    rfl
                  rw [e]
                  exact h1
                have hMx := kMixed_any ⟨a, b', c, d, e, f, g, h⟩ (some ⟨db, 8, none⟩) 64 ⟨rest2.toArray⟩ W7.drew HOK.out hz2 hTB (((HK.out.keepD HDB.out hKp.out).keepD HDB.out k7).later ((Below.refl _ W7).drew))
                unfold cells8 at hMx
                simp only at hMx
                obtain ⟨mx, hmx⟩ : ∃ mx, mixS ⟨a, b', c, d, e, f, g, h⟩ (⟨rest2.toArray⟩ : ByteArray).data.toList = mx := ⟨_, rfl⟩
                rw [hmx] at hMx
                have HMX := show Hid (mixS ⟨a, b', c, d, e, f, g, h⟩ rest2 = mx) from hmx
                clear hmx hTB
                obtain ⟨ma, mb, mc, md, me, mf, mg, mh⟩ := mx
                simp only at hMx
                have R63 := show Hid (W7.heap[db]? = some (.cells (digC ⟨a, b', c, d, e, f, g, h⟩ rest2 hk' tot) 91 (0, 0))) from r63
                have HR21 := show Hid (rest2.length = 64) from r21
                have HI9 := show Hid (IsBytes W7 (.slice y9 (L - k) (cp - k)) ⟨(s.data.toList.drop (p + k)).toArray⟩) from hI9
                have hOf9 := show Hid (Off db (.slice y9 (L - k) (cp - k))) from hO9
                have HHK := show Hid (hd + k = hk' ∧ hk' = 64) from ⟨hhk, by omega⟩
                clear r63 r21 hI9 hO9 k7 hcopy g72 f72 g73 r23 k6
                refine until_region (S := fun w' => w'.cell? ⟨db, 0, none⟩ = some (.int .u32 (a : Int)) ∧ w'.cell? ⟨db, 1, none⟩ = some (.int .u32 (b' : Int)) ∧ w'.cell? ⟨db, 2, none⟩ = some (.int .u32 (c : Int)) ∧ w'.cell? ⟨db, 3, none⟩ = some (.int .u32 (d : Int)) ∧ w'.cell? ⟨db, 4, none⟩ = some (.int .u32 (e : Int)) ∧ w'.cell? ⟨db, 5, none⟩ = some (.int .u32 (f : Int)) ∧ w'.cell? ⟨db, 6, none⟩ = some (.int .u32 (g : Int)) ∧ w'.cell? ⟨db, 7, none⟩ = some (.int .u32 (h : Int)) ∧ w'.frozen? ⟨db, 0, none⟩ = false ∧ w'.frozen? ⟨db, 1, none⟩ = false ∧ w'.frozen? ⟨db, 2, none⟩ = false ∧ w'.frozen? ⟨db, 3, none⟩ = false ∧ w'.frozen? ⟨db, 4, none⟩ = false ∧ w'.frozen? ⟨db, 5, none⟩ = false ∧ w'.frozen? ⟨db, 6, none⟩ = false ∧ w'.frozen? ⟨db, 7, none⟩ = false) (z := 12) (by kernel_rfl) (⟨d0, d1, d2, d3, d4, d5, d6, d7, f0, f1, f2, f3, f4, f5, f6, f7⟩) (fun hS => ?_)
                replace hS : W7.drew.cell? ⟨db, 0, none⟩ = some (.int .u32 (a : Int)) ∧ W7.drew.cell? ⟨db, 1, none⟩ = some (.int .u32 (b' : Int)) ∧ W7.drew.cell? ⟨db, 2, none⟩ = some (.int .u32 (c : Int)) ∧ W7.drew.cell? ⟨db, 3, none⟩ = some (.int .u32 (d : Int)) ∧ W7.drew.cell? ⟨db, 4, none⟩ = some (.int .u32 (e : Int)) ∧ W7.drew.cell? ⟨db, 5, none⟩ = some (.int .u32 (f : Int)) ∧ W7.drew.cell? ⟨db, 6, none⟩ = some (.int .u32 (g : Int)) ∧ W7.drew.cell? ⟨db, 7, none⟩ = some (.int .u32 (h : Int)) ∧ W7.drew.frozen? ⟨db, 0, none⟩ = false ∧ W7.drew.frozen? ⟨db, 1, none⟩ = false ∧ W7.drew.frozen? ⟨db, 2, none⟩ = false ∧ W7.drew.frozen? ⟨db, 3, none⟩ = false ∧ W7.drew.frozen? ⟨db, 4, none⟩ = false ∧ W7.drew.frozen? ⟨db, 5, none⟩ = false ∧ W7.drew.frozen? ⟨db, 6, none⟩ = false ∧ W7.drew.frozen? ⟨db, 7, none⟩ = false := hS
                refine until_take (i := 0) (oi := { dst := some 74, op := Go.Op.move (Go.Operand.tmp 0), type := 100, pos := "digest.go:62", after := #[], guard := none }) (v := ?vB1) rfl (by kernel_rfl) (by kernel_rfl) (by kernel_rfl) (by kernel_rfl) (fun _ _ _ h => h) (Or.inl ⟨by rfl, ?hB1⟩) hS ?rB1
                case hB1 =>
                  intro wS hSw
                  obtain ⟨q0, q1, q2, q3, q4, q5, q6, q7, x0, x1, x2, x3, x4, x5, x6, x7⟩ := hSw
                  go_simp
                  try with_reducible rfl
                simp only [Act.put, List.setIfInBounds_toArray, List.set_cons_zero, List.set_cons_succ]
                refine until_take (i := 1) (oi := { dst := some 75, op := Go.Op.move (Go.Operand.tmp 0), type := 100, pos := "digest.go:62", after := #[], guard := none }) (v := ?vB2) rfl (by kernel_rfl) (by kernel_rfl) (by kernel_rfl) (by kernel_rfl) (fun _ _ _ h => h) (Or.inl ⟨by rfl, ?hB2⟩) hS ?rB2
                case hB2 =>
                  intro wS hSw
                  obtain ⟨q0, q1, q2, q3, q4, q5, q6, q7, x0, x1, x2, x3, x4, x5, x6, x7⟩ := hSw
                  go_simp
                  try with_reducible rfl
                simp only [Act.put, List.setIfInBounds_toArray, List.set_cons_zero, List.set_cons_succ]
                refine until_take (i := 2) (oi := { dst := some 76, op := Go.Op.nilCheck (Go.Operand.tmp 75), type := 0, pos := "digest.go:62", after := #[{ on := 1, ground := Go.Ground.data }], guard := none }) (v := ?vB3) rfl (by kernel_rfl) (by kernel_rfl) (by kernel_rfl) (by kernel_rfl) (fun _ _ _ h => h) (Or.inl ⟨by rfl, ?hB3⟩) hS ?rB3
                case hB3 =>
                  intro wS hSw
                  obtain ⟨q0, q1, q2, q3, q4, q5, q6, q7, x0, x1, x2, x3, x4, x5, x6, x7⟩ := hSw
                  go_simp
                  try with_reducible rfl
                simp only [Act.put, List.setIfInBounds_toArray, List.set_cons_zero, List.set_cons_succ]
                refine until_take (i := 3) (oi := { dst := some 77, op := Go.Op.fieldAddr 91 (Go.Operand.tmp 76) 0, type := 0, pos := "digest.go:62", after := #[{ on := 2, ground := Go.Ground.data }], guard := none }) (v := ?vB4) rfl (by kernel_rfl) (by kernel_rfl) (by kernel_rfl) (by kernel_rfl) (fun _ _ _ h => h) (Or.inl ⟨by rfl, ?hB4⟩) hS ?rB4
                case hB4 =>
                  intro wS hSw
                  obtain ⟨q0, q1, q2, q3, q4, q5, q6, q7, x0, x1, x2, x3, x4, x5, x6, x7⟩ := hSw
                  go_simp
                  try with_reducible rfl
                simp only [Act.put, List.setIfInBounds_toArray, List.set_cons_zero, List.set_cons_succ]
                refine until_take (i := 4) (oi := { dst := some 78, op := Go.Op.load 88 (Go.Operand.tmp 77), type := 88, pos := "digest.go:62", after := #[{ on := 3, ground := Go.Ground.data }], guard := none }) (v := ?vB5) rfl (by kernel_rfl) (by kernel_rfl) (by kernel_rfl) (by kernel_rfl) (fun _ _ _ h => h) (Or.inl ⟨by rfl, ?hB5⟩) hS ?rB5
                case hB5 =>
                  intro wS hSw
                  obtain ⟨q0, q1, q2, q3, q4, q5, q6, q7, x0, x1, x2, x3, x4, x5, x6, x7⟩ := hSw
                  go_simp
                  try with_reducible rfl
                simp only [Act.put, List.setIfInBounds_toArray, List.set_cons_zero, List.set_cons_succ]
                refine until_take (i := 5) (oi := { dst := some 79, op := Go.Op.move (Go.Operand.tmp 0), type := 100, pos := "digest.go:62", after := #[], guard := none }) (v := ?vB6) rfl (by kernel_rfl) (by kernel_rfl) (by kernel_rfl) (by kernel_rfl) (fun _ _ _ h => h) (Or.inl ⟨by rfl, ?hB6⟩) hS ?rB6
                case hB6 =>
                  intro wS hSw
                  obtain ⟨q0, q1, q2, q3, q4, q5, q6, q7, x0, x1, x2, x3, x4, x5, x6, x7⟩ := hSw
                  go_simp
                  try with_reducible rfl
                simp only [Act.put, List.setIfInBounds_toArray, List.set_cons_zero, List.set_cons_succ]
                refine until_take (i := 6) (oi := { dst := some 80, op := Go.Op.nilCheck (Go.Operand.tmp 79), type := 0, pos := "digest.go:62", after := #[{ on := 5, ground := Go.Ground.data }], guard := none }) (v := ?vB7) rfl (by kernel_rfl) (by kernel_rfl) (by kernel_rfl) (by kernel_rfl) (fun _ _ _ h => h) (Or.inl ⟨by rfl, ?hB7⟩) hS ?rB7
                case hB7 =>
                  intro wS hSw
                  obtain ⟨q0, q1, q2, q3, q4, q5, q6, q7, x0, x1, x2, x3, x4, x5, x6, x7⟩ := hSw
                  go_simp
                  try with_reducible rfl
                simp only [Act.put, List.setIfInBounds_toArray, List.set_cons_zero, List.set_cons_succ]
                refine until_take (i := 7) (oi := { dst := some 81, op := Go.Op.fieldAddr 91 (Go.Operand.tmp 80) 1, type := 0, pos := "digest.go:62", after := #[{ on := 6, ground := Go.Ground.data }], guard := none }) (v := ?vB8) rfl (by kernel_rfl) (by kernel_rfl) (by kernel_rfl) (by kernel_rfl) (fun _ _ _ h => h) (Or.inl ⟨by rfl, ?hB8⟩) hS ?rB8
                case hB8 =>
                  intro wS hSw
                  obtain ⟨q0, q1, q2, q3, q4, q5, q6, q7, x0, x1, x2, x3, x4, x5, x6, x7⟩ := hSw
                  go_simp
                  try with_reducible rfl
                simp only [Act.put, List.setIfInBounds_toArray, List.set_cons_zero, List.set_cons_succ]
                refine until_take (i := 8) (oi := { dst := some 82, op := Go.Op.slice 89 (Go.Operand.tmp 81) none none none, type := 22, pos := "digest.go:62", after := #[{ on := 7, ground := Go.Ground.data }], guard := none }) (v := ?vB9) rfl (by kernel_rfl) (by kernel_rfl) (by kernel_rfl) (by kernel_rfl) (fun _ _ _ h => h) (Or.inl ⟨by rfl, ?hB9⟩) hS ?rB9
                case hB9 =>
                  intro wS hSw
                  obtain ⟨q0, q1, q2, q3, q4, q5, q6, q7, x0, x1, x2, x3, x4, x5, x6, x7⟩ := hSw
                  go_simp
                  try with_reducible rfl
                simp only [Act.put, List.setIfInBounds_toArray, List.set_cons_zero, List.set_cons_succ]
                refine until_one (i := 9) (oi := { dst := some 83, op := Go.Op.call { callee := Go.Callee.value (Go.Operand.func 83), args := #[Go.Operand.tmp 78, Go.Operand.tmp 82], argTypes := #[88, 22] }, type := 88, pos := "digest.go:62", after := #[{ on := 4, ground := Go.Ground.data }, { on := 8, ground := Go.Ground.data }], guard := none }) rfl (by kernel_rfl) (fun K hK => ?_)
                go_simp
                go_wp2_with (go_at_call 83; refine hMx.mono ?_)
                rintro e w9 ⟨rfl, hb9⟩
                have hS9 : w9.cell? ⟨db, 0, none⟩ = some (.int .u32 (a : Int)) ∧ w9.cell? ⟨db, 1, none⟩ = some (.int .u32 (b' : Int)) ∧ w9.cell? ⟨db, 2, none⟩ = some (.int .u32 (c : Int)) ∧ w9.cell? ⟨db, 3, none⟩ = some (.int .u32 (d : Int)) ∧ w9.cell? ⟨db, 4, none⟩ = some (.int .u32 (e : Int)) ∧ w9.cell? ⟨db, 5, none⟩ = some (.int .u32 (f : Int)) ∧ w9.cell? ⟨db, 6, none⟩ = some (.int .u32 (g : Int)) ∧ w9.cell? ⟨db, 7, none⟩ = some (.int .u32 (h : Int)) ∧ w9.frozen? ⟨db, 0, none⟩ = false ∧ w9.frozen? ⟨db, 1, none⟩ = false ∧ w9.frozen? ⟨db, 2, none⟩ = false ∧ w9.frozen? ⟨db, 3, none⟩ = false ∧ w9.frozen? ⟨db, 4, none⟩ = false ∧ w9.frozen? ⟨db, 5, none⟩ = false ∧ w9.frozen? ⟨db, 6, none⟩ = false ∧ w9.frozen? ⟨db, 7, none⟩ = false := by
                  obtain ⟨q0, q1, q2, q3, q4, q5, q6, q7, x0, x1, x2, x3, x4, x5, x6, x7⟩ := hS
                  exact ⟨(hb9.cell (p := ⟨db, 0, none⟩) hdl).trans q0, (hb9.cell (p := ⟨db, 1, none⟩) hdl).trans q1, (hb9.cell (p := ⟨db, 2, none⟩) hdl).trans q2, (hb9.cell (p := ⟨db, 3, none⟩) hdl).trans q3, (hb9.cell (p := ⟨db, 4, none⟩) hdl).trans q4, (hb9.cell (p := ⟨db, 5, none⟩) hdl).trans q5, (hb9.cell (p := ⟨db, 6, none⟩) hdl).trans q6, (hb9.cell (p := ⟨db, 7, none⟩) hdl).trans q7, (hb9.frozen (p := ⟨db, 0, none⟩) hdl).trans x0, (hb9.frozen (p := ⟨db, 1, none⟩) hdl).trans x1, (hb9.frozen (p := ⟨db, 2, none⟩) hdl).trans x2, (hb9.frozen (p := ⟨db, 3, none⟩) hdl).trans x3, (hb9.frozen (p := ⟨db, 4, none⟩) hdl).trans x4, (hb9.frozen (p := ⟨db, 5, none⟩) hdl).trans x5, (hb9.frozen (p := ⟨db, 6, none⟩) hdl).trans x6, (hb9.frozen (p := ⟨db, 7, none⟩) hdl).trans x7⟩
                refine hK.out _ _ (fun _ => hS9) (fun hS' => ?_)
                replace hS := hS' (by decide)
                clear hS'
                try dsimp only at hS
                clear hK K
                refine until_one (i := 10) (oi := { dst := some 84, op := Go.Op.nilCheck (Go.Operand.tmp 74), type := 0, pos := "digest.go:62", after := #[{ on := 0, ground := Go.Ground.data }, { on := 0, ground := Go.Ground.phase }, { on := 1, ground := Go.Ground.phase }, { on := 2, ground := Go.Ground.phase }, { on := 3, ground := Go.Ground.phase }, { on := 4, ground := Go.Ground.phase }, { on := 5, ground := Go.Ground.phase }, { on := 6, ground := Go.Ground.phase }, { on := 7, ground := Go.Ground.phase }, { on := 8, ground := Go.Ground.phase }, { on := 9, ground := Go.Ground.phase }], guard := none }) rfl (by kernel_rfl) (fun K hK => ?_)
                go_simp
                refine hK.out _ _ (fun _ => hS) (fun hS' => ?_)
                replace hS := hS' (by decide)
                clear hS'
                try dsimp only at hS
                clear hK K
                refine until_take (i := 11) (oi := { dst := some 85, op := Go.Op.fieldAddr 91 (Go.Operand.tmp 84) 0, type := 0, pos := "digest.go:62", after := #[{ on := 10, ground := Go.Ground.data }, { on := 0, ground := Go.Ground.phase }, { on := 1, ground := Go.Ground.phase }, { on := 2, ground := Go.Ground.phase }, { on := 3, ground := Go.Ground.phase }, { on := 4, ground := Go.Ground.phase }, { on := 5, ground := Go.Ground.phase }, { on := 6, ground := Go.Ground.phase }, { on := 7, ground := Go.Ground.phase }, { on := 8, ground := Go.Ground.phase }, { on := 9, ground := Go.Ground.phase }], guard := none }) (v := ?vB10) rfl (by kernel_rfl) (by kernel_rfl) (by kernel_rfl) (by kernel_rfl) (fun _ _ _ h => h) (Or.inl ⟨by rfl, ?hB10⟩) hS ?rB10
                case hB10 =>
                  intro wS hSw
                  obtain ⟨q0, q1, q2, q3, q4, q5, q6, q7, x0, x1, x2, x3, x4, x5, x6, x7⟩ := hSw
                  go_simp
                  try with_reducible rfl
                simp only [Act.put, List.setIfInBounds_toArray, List.set_cons_zero, List.set_cons_succ]
                refine until_one (i := 12) (oi := { dst := none, op := Go.Op.store 88 (Go.Operand.tmp 85) (Go.Operand.tmp 83), type := 0, pos := "digest.go:62", after := #[{ on := 11, ground := Go.Ground.data }, { on := 9, ground := Go.Ground.data }, { on := 9, ground := Go.Ground.chain }, { on := 0, ground := Go.Ground.phase }, { on := 1, ground := Go.Ground.phase }, { on := 2, ground := Go.Ground.phase }, { on := 3, ground := Go.Ground.phase }, { on := 4, ground := Go.Ground.phase }, { on := 5, ground := Go.Ground.phase }, { on := 6, ground := Go.Ground.phase }, { on := 7, ground := Go.Ground.phase }, { on := 8, ground := Go.Ground.phase }, { on := 9, ground := Go.Ground.phase }], guard := none }) rfl (by kernel_rfl) (fun K hK => ?_)
                obtain ⟨q0, q1, q2, q3, q4, q5, q6, q7, x0, x1, x2, x3, x4, x5, x6, x7⟩ := hS
                go_simp
                refine hK.out _ _ (fun h => absurd rfl h) (fun _ => ?_)
                clear hK K
                refine until_done (by kernel_rfl) ?_ _
                have r9 := digC_set8 ((hb9.block db hdl).trans R63.out) ⟨ma, mb, mc, md, me, mf, mg, mh⟩
                simp only at r9
                have k8 : KeptD db W7 (((((((((w9).setCell ⟨db, 0, none⟩ (.int .u32 (ma : Int))).setCell ⟨db, 1, none⟩ (.int .u32 (mb : Int))).setCell ⟨db, 2, none⟩ (.int .u32 (mc : Int))).setCell ⟨db, 3, none⟩ (.int .u32 (md : Int))).setCell ⟨db, 4, none⟩ (.int .u32 (me : Int))).setCell ⟨db, 5, none⟩ (.int .u32 (mf : Int))).setCell ⟨db, 6, none⟩ (.int .u32 (mg : Int))).setCell ⟨db, 7, none⟩ (.int .u32 (mh : Int))) := (((((((((KeptD.refl db W7).drew.trans (.of hb9)).setCell 0 _).setCell 1 _).setCell 2 _).setCell 3 _).setCell 4 _).setCell 5 _).setCell 6 _).setCell 7 _
                generalize ((((((((w9).setCell ⟨db, 0, none⟩ (.int .u32 (ma : Int))).setCell ⟨db, 1, none⟩ (.int .u32 (mb : Int))).setCell ⟨db, 2, none⟩ (.int .u32 (mc : Int))).setCell ⟨db, 3, none⟩ (.int .u32 (md : Int))).setCell ⟨db, 4, none⟩ (.int .u32 (me : Int))).setCell ⟨db, 5, none⟩ (.int .u32 (mf : Int))).setCell ⟨db, 6, none⟩ (.int .u32 (mg : Int))).setCell ⟨db, 7, none⟩ (.int .u32 (mh : Int)) = W9 at *
                have g99 := block_cell 72 r9 (digC_held _ HR21.out _ _)
                have f99 := block_free 72 r9
                have r10 := setCell_block (i := 72) (u := .int .i64 ((0 : Nat) : Int)) r9
                rw [digC_setHeld _ HR21.out] at r10
                have k10 := k8.setCell 72 (.int .i64 ((0 : Nat) : Int))
                have e00 : ((0 : Nat) : Int) = 0 := rfl
                rw [e00] at r10 k10
                have k9 := show Hid (KeptD db w (W9.setCell ⟨db, 72, none⟩ (.int .i64 0))) from (hKp.out.trans k7'.out).trans k10
                have hIB9 := show Hid (IsBytes (W9.setCell ⟨db, 72, none⟩ (.int .i64 0)) (.slice y9 (L - k) (cp - k)) ⟨(s.data.toList.drop (p + k)).toArray⟩) from HI9.out.keepD hOf9.out k10
                have hD9 : Hid (Dg db (M ++ s.data.toList.take (p + k)) tot (W9.setCell ⟨db, 72, none⟩ (.int .i64 0))) := by
                  unfold Hid
                  rw [List.take_add, ← List.append_assoc, HT.out.1]
                  have hr2 : rest2 = rest.take hd ++ t := by
                    rw [← HR2.out, List.drop_of_length_le (by rw [R1.out, HT.out.2, HHK.out.1, HHK.out.2]; exact Nat.le_refl _), List.append_nil]
                  refine Dg_fill (rest := rest) (rest' := rest2) (by rw [HHD.out, HT.out.2, HHK.out.1]; exact HHK.out.2) (by rw [HHD.out]; exact R2.out) HR21.out ?_
                  rw [HHD.out, ← hr2, HST.out, HMX.out]
                  exact r10
                clear k10 r10 k8 r9
                go_wp2_with fail
                go_roundw
                case rel => exact ⟨p + k, L - k, cp - k, y9, rfl, hpL9, by omega, hIB9, hOf9, hD9, k9⟩
                case measure => simp [lenOf]; omega
              · have hpart : ((hk' : Int) == 64) = false := by simp; omega
                have hIB9 := show Hid (IsBytes (W6.setCell ⟨db, 72, none⟩ (.int .i64 (hk' : Int))) (.slice y9 (L - k) (cp - k)) ⟨(s.data.toList.drop (p + k)).toArray⟩) from hI9
                have hOf9 := show Hid (Off db (.slice y9 (L - k) (cp - k))) from hO9
                have k9 := show Hid (KeptD db w (W6.setCell ⟨db, 72, none⟩ (.int .i64 (hk' : Int)))) from hKp.out.trans k7
                have hD9 : Hid (Dg db (M ++ s.data.toList.take (p + k)) tot (W6.setCell ⟨db, 72, none⟩ (.int .i64 (hk' : Int)))) := by
                  unfold Hid
                  rw [List.take_add, ← List.append_assoc, HT.out.1]
                  refine Dg_part (rest := rest) (by rw [HHD.out, HT.out.2]; omega) R1.out (by rw [HHD.out]; exact R2.out) ?_
                  rw [HHD.out, HR2.out, HST.out, HT.out.2, hhk]
                  exact r63
                clear hI9 hO9 k7 r63 hcopy
                go_wp2_with fail
                go_roundw
                case rel => exact ⟨p + k, L - k, cp - k, y9, rfl, hpL9, by omega, hIB9, hOf9, hD9, k9⟩
                case measure => simp [lenOf]; omega
        · have hL2 : ¬ (0 : Int) < (L : Int) := by omega
          have hp : p = s.size := by have := hpL.out; omega
          have hfin : Hid (Dg db (m ++ flatB (ls.take (i + 1))) (m ++ flatB (ls.take (i + 1))).length wr) := by
            have h1 := hDg.out
            rw [hp, List.take_of_length_le (by rw [len_eq]; exact Nat.le_refl _), ← hfl.out] at h1
            have e : (m ++ flatB (ls.take (i + 1))).length = tot := by rw [hfl.out, List.length_append, len_eq]; exact HTOT.out
            unfold Hid
            rw [e]
            exact h1
          go_wp2_with fail
          go_roundw
          case rel => exact ⟨i + 1, by omega, by go_num, hfin.out, hKp.out⟩
          case measure => simp [intOf]; omega
    · have hlt2 : ¬ (i : Int) < (n : Int) := by omega
      obtain rfl : i = n := by omega
      have hfin : Hid (ls.take i = ls) := List.take_of_length_le (by rw [HN.out]; exact Nat.le_refl _)
      rw [hfin.out] at hDi
      go_wp2_with fail
      go_end0
      rw [List.length_append] at hDi
      exact ⟨rfl, hDi, hk⟩
end Go.Proofs.YtpcmpeeflnlkpaaDoor
