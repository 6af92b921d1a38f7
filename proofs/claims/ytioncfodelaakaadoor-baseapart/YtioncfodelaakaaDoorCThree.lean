/-
  The program's toThree: the bytes of up to four signs.
-/
import Derived.Test.YtioncfodelaakaaDoorCSign2
import Derived.Test.YtioncfodelaakaaDoorCFour
import Derived.Test.YtioncfodelaakaaDoorBDec
import Derived.Handy
namespace Go.Proofs.YtioncfodelaakaaDoor
open Go.RowKit Ch

/-- The number that signs stand for. -/
def numS (l : List UInt8) : Nat := l.foldl (fun m c => m * 64 + six8 c) 0
theorem numS_snoc (l : List UInt8) (c : UInt8) : numS (l ++ [c]) = numS l * 64 + six8 c := by simp [numS]
theorem six8_lt (c : UInt8) : six8 c < 64 := by
  unfold six8
  match h : sixO c.toNat with
  | none => decide
  | some n => exact six_lt h
/-- The bytes of up to four signs: those ahead of the first filler count. -/
def threeOf (l : List UInt8) : List UInt8 :=
  let t := numS l * 64 ^ (4 - l.length)
  ([UInt8.ofNat (t / 65536), UInt8.ofNat (t / 256), UInt8.ofNat t]).take (l.length * 6 / 8)
def threeL (x : ByteArray) : List UInt8 := threeOf (bodyL x.data.toList)

theorem body_stop {l : List UInt8} {k : Nat} (h : ∀ c ∈ l.take k, c ≠ 61) (hk : l[k]? = some 61) : bodyL l = l.take k := by
  unfold bodyL
  have e : l = l.take k ++ 61 :: l.drop (k + 1) := by
    have hlt := (List.getElem?_eq_some_iff.1 hk).1
    have h2 : l.drop k = 61 :: l.drop (k + 1) := by
      rw [List.drop_eq_getElem_cons hlt]
      congr 1
      exact (List.getElem?_eq_some_iff.1 hk).2
    rw [← h2]
    exact (List.take_append_drop k l).symm
  conv => lhs; rw [e]
  exact takeWhile_all (fun c hc => by simpa using h c hc) rfl
theorem body_all {l : List UInt8} (h : ∀ c ∈ l, c ≠ 61) : bodyL l = l := by
  unfold bodyL
  have := takeWhile_all (l := l) (r := []) (p := fun c => c != 61) (fun c hc => by simpa using h c hc) rfl
  rwa [List.append_nil] at this
theorem three_ret {a b c d : Value} {a' b' c' d' : Value} (h1 : a = a') (h2 : b = b') (h3 : c = c') (h4 : d = d') : Ending.returned (.tuple #[.agg #[a, b, c], d]) = .returned (.tuple #[.agg #[a', b', c'], d']) := by rw [h1, h2, h3, h4]
/-- What toThree answers. -/
def ThreeSaid (x : ByteArray) (e : Ending) : Prop := ∃ (c0 c1 c2 : UInt8) (n : Nat), n ≤ 3 ∧ e = .returned (.tuple #[.agg #[.int .u8 (c0.toNat : Int), .int .u8 (c1.toNat : Int), .int .u8 (c2.toNat : Int)], .int .i64 (n : Int)]) ∧ [c0, c1, c2].take n = threeL x
theorem three_said {x : ByteArray} {l : List UInt8} (hb : bodyL x.data.toList = l) {k t n : Nat} (hk : l.length = k) (ht : numS l * 64 ^ (4 - k) = t) (hn : k * 6 / 8 = n) (hn3 : n ≤ 3) {a b c d : Value}
    (ha : a = .int .u8 ((UInt8.ofNat (t / 65536)).toNat : Int)) (hb' : b = .int .u8 ((UInt8.ofNat (t / 256)).toNat : Int)) (hc : c = .int .u8 ((UInt8.ofNat t).toNat : Int)) (hd : d = .int .i64 (n : Int)) : ThreeSaid x (.returned (.tuple #[.agg #[a, b, c], d])) := by
  refine ⟨_, _, _, n, hn3, three_ret ha hb' hc hd, ?_⟩
  unfold threeL threeOf
  rw [hb, hk, ht, hn]

theorem cells3 {W : World} {B : Nat} {a b c : Value} {t : TypeId} (h : W.heap[B]? = some (.cells #[a, b, c] t (0, 0))) :
    W.cell? ⟨B, 0, none⟩ = some a ∧ W.cell? ⟨B, 1, none⟩ = some b ∧ W.cell? ⟨B, 2, none⟩ = some c ∧ W.frozen? ⟨B, 0, none⟩ = false ∧ W.frozen? ⟨B, 1, none⟩ = false ∧ W.frozen? ⟨B, 2, none⟩ = false := by
  refine ⟨?_, ?_, ?_, ?_, ?_, ?_⟩ <;> simp [World.cell?, World.frozen?, h]

theorem setCell_block {W : World} {B i : Nat} {cs : Array Value} {t : TypeId} {fr : Nat × Nat} (h : W.heap[B]? = some (.cells cs t fr)) (u : Value) : (W.setCell ⟨B, i, none⟩ u).heap[B]? = some (.cells (cs.setIfInBounds i u) t fr) := by
  simp [World.setCell, Array.getElem?_modify, h]
theorem set3 {W : World} {B : Nat} {a b c : Value} {t : TypeId} (h : W.heap[B]? = some (.cells #[a, b, c] t (0, 0))) (u0 u1 u2 : Value) :
    (((W.setCell ⟨B, 0, none⟩ u0).setCell ⟨B, 1, none⟩ u1).setCell ⟨B, 2, none⟩ u2).heap[B]? = some (.cells #[u0, u1, u2] t (0, 0)) :=
  setCell_block (i := 2) (setCell_block (i := 1) (setCell_block (i := 0) h u0) u1) u2
theorem u8_val {n : Int} {t : Nat} (h : n = (t : Int) % 256) : Value.int .u8 n = .int .u8 ((UInt8.ofNat t).toNat : Int) := by
  rw [UInt8.toNat_ofNat', h]
  simp

set_option maxHeartbeats 4000000 in
set_option maxRecDepth 100000 in
theorem toThree_any (x : ByteArray) (w : World) (h4 : x.size ≤ 4) (hok : x.data.toList.all okSign = true) :
    Calls Tryd.prog 31 #[.string x] w fun e w' => ThreeSaid x e ∧ Below w.heap.size w w' := by
  go_enter Tryd.func31, Tryd.ntmps31
  go_wp2_with fail
  go_loopw [4, 5] (fun p q wr => ∃ (pos m : Nat), p = .int .i64 (m : Int) ∧ q = .int .i64 (pos : Int) ∧ wr.heap[w.heap.size]? = some (.cells #[.int .u8 0, .int .u8 0, .int .u8 0] 56 (0, 0)) ∧ wr.heap[w.heap.size + 1]? = some (.stringIter x pos) ∧ Below w.heap.size w wr ∧ pos ≤ x.size ∧ Hid (numS (x.data.toList.take pos) = m) ∧ Hid (∀ c ∈ x.data.toList.take pos, c ≠ 61) ∧ m < 64 ^ pos) (fun _ _ wr => x.size - wr.iterPos (w.heap.size + 1))
  case atStart =>
    refine ⟨0, 0, rfl, rfl, ?_, ?_, ((Below.refl _ w).alloc (Nat.le_refl _) _).alloc (by simp) _, Nat.zero_le _, rfl, ?_, by decide⟩
    · exact (heap_push_old (w.alloc (.cells #[.int .u8 0, .int .u8 0, .int .u8 0] 56)) _ (by simp)).trans (heap_push_at w _)
    · have := World.iter_heap (w.alloc (.cells #[.int .u8 0, .int .u8 0, .int .u8 0] 56)) x 0
      simpa using this
    · unfold Hid
      intro c hc
      simp at hc
  case round =>
    obtain ⟨pos, m, rfl, rfl, hres, hit, hbw, hps, hnum, hne, hm⟩ := hrel
    have hsz : w.heap.size + 1 < wr.heap.size := (Array.getElem?_eq_some_iff.1 hit).1
    by_cases hp : pos < x.size
    · have hnx : ∀ ty, (Instr.next (.pointer (some ⟨w.heap.size + 1, 0, none⟩)) true ty).run Tryd.prog wr = _ := fun ty => Lib.run_next_any_at wr (w.heap.size + 1) x pos ty hit hp
      obtain ⟨c, n, hd, hn0, hpn, hc, hcase⟩ := rune_cases x pos hp
      simp only [hd] at hnx
      obtain ⟨c8, hdr, hcc⟩ := drop_at x hp
      have hokc : okSign c8 = true := List.all_eq_true.1 hok c8 (by
        have : c8 ∈ x.data.toList.drop pos := by rw [hdr]; simp
        exact List.mem_of_mem_drop this)
      have hlow : c8.toNat < 128 := by
        unfold okSign at hokc
        rw [Bool.or_eq_true] at hokc
        rcases hokc with h | h
        · rw [beq_iff_eq.1 h]; decide
        · unfold sixO at h
          repeat' split at h
          all_goals (first | omega | cases h)
      have hc1 : n = 1 ∧ c = c8.toNat := by
        rcases hcase with ⟨h1, h2, _⟩ | ⟨_, h2⟩
        · exact ⟨h1, by rw [hcc]; exact h2⟩
        · have := h2 0 hn0
          rw [Nat.add_zero, ← hcc] at this
          omega
      obtain ⟨rfl, rfl⟩ := hc1
      have hat : x.data.toList[pos]? = some c8 := by
        have := List.getElem?_drop (xs := x.data.toList) (i := pos) (j := 0)
        rw [hdr] at this
        simpa using this.symm
      have hit2 := Lib.iterAt_heap wr (w.heap.size + 1) x pos (pos + 1) hit
      have hbw2 := Lib.below_iterAt hbw (k := w.heap.size + 1) (by omega) x (pos + 1)
      have hres2 : (wr.iterAt (w.heap.size + 1) x (pos + 1)).heap[w.heap.size]? = some (.cells #[.int .u8 0, .int .u8 0, .int .u8 0] 56 (0, 0)) := (Lib.iterAt_other wr (w.heap.size + 1) w.heap.size x (pos + 1) (by omega)).trans hres
      have hzi : (wr.iterAt (w.heap.size + 1) x (pos + 1)).heap.size = wr.heap.size := Lib.iterAt_size _ _ _ _
      by_cases h61 : c8 = 61
      · have hb := body_stop (k := pos) hne.out (by rw [hat, h61])
        have hl : (x.data.toList.take pos).length = pos := by rw [List.length_take, len_eq]; omega
        subst h61
        have hnm := hnum.out
        obtain ⟨k0, k1, k2, f0, f1, f2⟩ := cells3 hres2
        clear hdr hcc hat hokc hd hcase hne hnum
        rcases (show pos = 0 ∨ pos = 1 ∨ pos = 2 ∨ pos = 3 by omega) with rfl | rfl | rfl | rfl
        · have hm' : m = 0 := by simpa using hm
          subst hm'
          go_wp2_with fail
          have h3 := set3 hres2 (.int .u8 (0)) (.int .u8 (0)) (.int .u8 (0))
          have hb3 := ((hbw2.setCell (p := ⟨w.heap.size, 0, none⟩) (Nat.le_refl _) (.int .u8 (0))).setCell (p := ⟨w.heap.size, 1, none⟩) (Nat.le_refl _) (.int .u8 (0))).setCell (p := ⟨w.heap.size, 2, none⟩) (Nat.le_refl _) (.int .u8 (0))
          generalize (((wr.iterAt (w.heap.size + 1) x 1).setCell ⟨w.heap.size, 0, none⟩ (.int .u8 (0))).setCell ⟨w.heap.size, 1, none⟩ (.int .u8 (0))).setCell ⟨w.heap.size, 2, none⟩ (.int .u8 (0)) = W3 at h3 hb3 ⊢
          obtain ⟨q0, q1, q2, _, _, _⟩ := cells3 h3
          (try simp only [Exit.inBlock, Exit.then])
          refine bodyPost_ret (v := .tuple #[.agg #[.int .u8 (0), .int .u8 (0), .int .u8 (0)], .int .i64 0]) ?_ rfl ⟨three_said hb hl (t := 0) (by rw [hnm, show (64 : Nat) ^ (4 - 0) = 16777216 from rfl]) (n := 0) rfl (by decide) ?_ ?_ ?_ rfl, hb3⟩
          · rw [results_cell_tmp rfl]
            go_simp
          · rfl
          · rfl
          · rfl
        · have hm' : m < 64 := by simpa using hm
          clear hm
          go_wp2_with fail
          have h3 := set3 hres2 (.int .u8 ((m : Int) * 262144 / 65536)) (.int .u8 ((m : Int) * 262144 / 256 % 256)) (.int .u8 ((m : Int) * 262144 % 256))
          have hb3 := ((hbw2.setCell (p := ⟨w.heap.size, 0, none⟩) (Nat.le_refl _) (.int .u8 ((m : Int) * 262144 / 65536))).setCell (p := ⟨w.heap.size, 1, none⟩) (Nat.le_refl _) (.int .u8 ((m : Int) * 262144 / 256 % 256))).setCell (p := ⟨w.heap.size, 2, none⟩) (Nat.le_refl _) (.int .u8 ((m : Int) * 262144 % 256))
          generalize (((wr.iterAt (w.heap.size + 1) x 2).setCell ⟨w.heap.size, 0, none⟩ (.int .u8 ((m : Int) * 262144 / 65536))).setCell ⟨w.heap.size, 1, none⟩ (.int .u8 ((m : Int) * 262144 / 256 % 256))).setCell ⟨w.heap.size, 2, none⟩ (.int .u8 ((m : Int) * 262144 % 256)) = W3 at h3 hb3 ⊢
          obtain ⟨q0, q1, q2, _, _, _⟩ := cells3 h3
          (try simp only [Exit.inBlock, Exit.then])
          refine bodyPost_ret (v := .tuple #[.agg #[.int .u8 ((m : Int) * 262144 / 65536), .int .u8 ((m : Int) * 262144 / 256 % 256), .int .u8 ((m : Int) * 262144 % 256)], .int .i64 0]) ?_ rfl ⟨three_said hb hl (t := m * 262144) (by rw [hnm, show (64 : Nat) ^ (4 - 1) = 262144 from rfl]) (n := 0) rfl (by decide) ?_ ?_ ?_ rfl, hb3⟩
          · rw [results_cell_tmp rfl]
            go_simp
          · exact u8_val (by omega)
          · exact u8_val (by omega)
          · exact u8_val (by omega)
        · have hm' : m < 4096 := by simpa using hm
          clear hm
          go_wp2_with fail
          have h3 := set3 hres2 (.int .u8 ((m : Int) * 4096 / 65536)) (.int .u8 ((m : Int) * 4096 / 256 % 256)) (.int .u8 ((m : Int) * 4096 % 256))
          have hb3 := ((hbw2.setCell (p := ⟨w.heap.size, 0, none⟩) (Nat.le_refl _) (.int .u8 ((m : Int) * 4096 / 65536))).setCell (p := ⟨w.heap.size, 1, none⟩) (Nat.le_refl _) (.int .u8 ((m : Int) * 4096 / 256 % 256))).setCell (p := ⟨w.heap.size, 2, none⟩) (Nat.le_refl _) (.int .u8 ((m : Int) * 4096 % 256))
          generalize (((wr.iterAt (w.heap.size + 1) x 3).setCell ⟨w.heap.size, 0, none⟩ (.int .u8 ((m : Int) * 4096 / 65536))).setCell ⟨w.heap.size, 1, none⟩ (.int .u8 ((m : Int) * 4096 / 256 % 256))).setCell ⟨w.heap.size, 2, none⟩ (.int .u8 ((m : Int) * 4096 % 256)) = W3 at h3 hb3 ⊢
          obtain ⟨q0, q1, q2, _, _, _⟩ := cells3 h3
          (try simp only [Exit.inBlock, Exit.then])
          refine bodyPost_ret (v := .tuple #[.agg #[.int .u8 ((m : Int) * 4096 / 65536), .int .u8 ((m : Int) * 4096 / 256 % 256), .int .u8 ((m : Int) * 4096 % 256)], .int .i64 1]) ?_ rfl ⟨three_said hb hl (t := m * 4096) (by rw [hnm, show (64 : Nat) ^ (4 - 2) = 4096 from rfl]) (n := 1) rfl (by decide) ?_ ?_ ?_ rfl, hb3⟩
          · rw [results_cell_tmp rfl]
            go_simp
          · exact u8_val (by omega)
          · exact u8_val (by omega)
          · exact u8_val (by omega)
        · have hm' : m < 262144 := by simpa using hm
          clear hm
          go_wp2_with fail
          have h3 := set3 hres2 (.int .u8 ((m : Int) * 64 / 65536)) (.int .u8 ((m : Int) * 64 / 256 % 256)) (.int .u8 ((m : Int) * 64 % 256))
          have hb3 := ((hbw2.setCell (p := ⟨w.heap.size, 0, none⟩) (Nat.le_refl _) (.int .u8 ((m : Int) * 64 / 65536))).setCell (p := ⟨w.heap.size, 1, none⟩) (Nat.le_refl _) (.int .u8 ((m : Int) * 64 / 256 % 256))).setCell (p := ⟨w.heap.size, 2, none⟩) (Nat.le_refl _) (.int .u8 ((m : Int) * 64 % 256))
          generalize (((wr.iterAt (w.heap.size + 1) x 4).setCell ⟨w.heap.size, 0, none⟩ (.int .u8 ((m : Int) * 64 / 65536))).setCell ⟨w.heap.size, 1, none⟩ (.int .u8 ((m : Int) * 64 / 256 % 256))).setCell ⟨w.heap.size, 2, none⟩ (.int .u8 ((m : Int) * 64 % 256)) = W3 at h3 hb3 ⊢
          obtain ⟨q0, q1, q2, _, _, _⟩ := cells3 h3
          (try simp only [Exit.inBlock, Exit.then])
          refine bodyPost_ret (v := .tuple #[.agg #[.int .u8 ((m : Int) * 64 / 65536), .int .u8 ((m : Int) * 64 / 256 % 256), .int .u8 ((m : Int) * 64 % 256)], .int .i64 2]) ?_ rfl ⟨three_said hb hl (t := m * 64) (by rw [hnm, show (64 : Nat) ^ (4 - 3) = 64 from rfl]) (n := 2) rfl (by decide) ?_ ?_ ?_ rfl, hb3⟩
          · rw [results_cell_tmp rfl]
            go_simp
          · exact u8_val (by omega)
          · exact u8_val (by omega)
          · exact u8_val (by omega)
      · have hs8 : sixZ c8.toNat = (six8 c8 : Int) := by
          refine sixZ_six8 ?_
          unfold okSign at hokc
          rw [Bool.or_eq_true] at hokc
          rcases hokc with h | h
          · exact absurd (beq_iff_eq.1 h) h61
          · exact h
        have hS := signW_any c8.toNat (wr.iterAt (w.heap.size + 1) x (pos + 1)) hc
        rw [hs8] at hS
        have hlt6 := six8_lt c8
        have e61 : ((c8.toNat : Int) == 61) = false := beq_eq_false_iff_ne.2 (fun h => h61 (UInt8.toNat_inj.1 (by show c8.toNat = 61; omega)))
        have htk : x.data.toList.take (pos + 1) = x.data.toList.take pos ++ [c8] := by rw [List.take_add_one, hat]; rfl
        obtain ⟨m2, hm2⟩ : ∃ m2, m2 = m * 64 + six8 c8 := ⟨_, rfl⟩
        have hnum2 : Hid (numS (x.data.toList.take (pos + 1)) = m2) := by
          unfold Hid
          rw [htk, numS_snoc, hnum.out, hm2]
        have hne2 : Hid (∀ c ∈ x.data.toList.take (pos + 1), c ≠ 61) := by
          unfold Hid
          intro c hc
          rw [htk] at hc
          rcases List.mem_append.1 hc with h | h
          · exact hne.out c h
          · simp at h; rw [h]; exact h61
        have hpw : (64 : Nat) ^ (pos + 1) ≤ 64 ^ 4 := Nat.pow_le_pow_right (by omega) (by omega)
        have hpw1 : (64 : Nat) ^ (pos + 1) = 64 ^ pos * 64 := Nat.pow_succ _ _
        have hm3 : m2 < 64 ^ (pos + 1) := by rw [hpw1]; omega
        have hm4 : m < 262144 := by
          have : (64 : Nat) ^ 4 = 16777216 := rfl
          omega
        have hor : bits .or .i64 ((m : Int) * 64) (six8 c8 : Int) = (m2 : Int) := by
          rw [i64_join6 (by omega) (by omega) (by omega) (by omega) (by omega)]
          omega
        clear hdr hcc hat hokc hd hcase hne hnum htk hm2 hpw hpw1 hs8 hm
        go_wp2_with fail
        refine hS.mono ?_
        rintro e w2 ⟨rfl, hb2⟩
        have hit3 := (hb2.block (w.heap.size + 1) (by omega)).trans hit2
        have hres3 := (hb2.block w.heap.size (by omega)).trans hres2
        go_wp2_with fail
        go_roundw
        case rel => exact ⟨pos + 1, m2, rfl, by go_num, hres3, hit3, hbw2.trans (hb2.mono hbw2.size), by omega, hnum2, hne2, hm3⟩
        case measure =>
          simp only [World.iterPos, hit3, hit]
          omega
    · have hnx : ∀ ty, (Instr.next (.pointer (some ⟨w.heap.size + 1, 0, none⟩)) true ty).run Tryd.prog wr = _ := fun ty => Lib.run_next_end_at wr (w.heap.size + 1) x pos ty hit hp
      have hpx : x.data.toList.take pos = x.data.toList := List.take_of_length_le (by rw [len_eq]; omega)
      have hb : bodyL x.data.toList = x.data.toList.take pos := by rw [hpx]; rw [hpx] at hne; exact body_all hne.out
      have hl : (x.data.toList.take pos).length = pos := by rw [List.length_take, len_eq]; omega
      have hnm := hnum.out
      obtain ⟨k0, k1, k2, f0, f1, f2⟩ := cells3 hres
      clear hne hnum hpx
      rcases (show pos = 0 ∨ pos = 1 ∨ pos = 2 ∨ pos = 3 ∨ pos = 4 by omega) with rfl | rfl | rfl | rfl | rfl
      · have hm' : m = 0 := by simpa using hm
        subst hm'
        go_wp2_with fail
        have h3 := set3 hres (.int .u8 (0)) (.int .u8 (0)) (.int .u8 (0))
        have hb3 := ((hbw.setCell (p := ⟨w.heap.size, 0, none⟩) (Nat.le_refl _) (.int .u8 (0))).setCell (p := ⟨w.heap.size, 1, none⟩) (Nat.le_refl _) (.int .u8 (0))).setCell (p := ⟨w.heap.size, 2, none⟩) (Nat.le_refl _) (.int .u8 (0))
        generalize (((wr).setCell ⟨w.heap.size, 0, none⟩ (.int .u8 (0))).setCell ⟨w.heap.size, 1, none⟩ (.int .u8 (0))).setCell ⟨w.heap.size, 2, none⟩ (.int .u8 (0)) = W3 at h3 hb3 ⊢
        obtain ⟨q0, q1, q2, _, _, _⟩ := cells3 h3
        (try simp only [Exit.inBlock, Exit.then])
        refine bodyPost_ret (v := .tuple #[.agg #[.int .u8 (0), .int .u8 (0), .int .u8 (0)], .int .i64 0]) ?_ rfl ⟨three_said hb hl (t := 0) (by rw [hnm, show (64 : Nat) ^ (4 - 0) = 16777216 from rfl]) (n := 0) rfl (by decide) ?_ ?_ ?_ rfl, hb3⟩
        · rw [results_cell_tmp rfl]
          go_simp
        · rfl
        · rfl
        · rfl
      · have hm' : m < 64 := by simpa using hm
        clear hm
        go_wp2_with fail
        have h3 := set3 hres (.int .u8 ((m : Int) * 262144 / 65536)) (.int .u8 ((m : Int) * 262144 / 256 % 256)) (.int .u8 ((m : Int) * 262144 % 256))
        have hb3 := ((hbw.setCell (p := ⟨w.heap.size, 0, none⟩) (Nat.le_refl _) (.int .u8 ((m : Int) * 262144 / 65536))).setCell (p := ⟨w.heap.size, 1, none⟩) (Nat.le_refl _) (.int .u8 ((m : Int) * 262144 / 256 % 256))).setCell (p := ⟨w.heap.size, 2, none⟩) (Nat.le_refl _) (.int .u8 ((m : Int) * 262144 % 256))
        generalize (((wr).setCell ⟨w.heap.size, 0, none⟩ (.int .u8 ((m : Int) * 262144 / 65536))).setCell ⟨w.heap.size, 1, none⟩ (.int .u8 ((m : Int) * 262144 / 256 % 256))).setCell ⟨w.heap.size, 2, none⟩ (.int .u8 ((m : Int) * 262144 % 256)) = W3 at h3 hb3 ⊢
        obtain ⟨q0, q1, q2, _, _, _⟩ := cells3 h3
        (try simp only [Exit.inBlock, Exit.then])
        refine bodyPost_ret (v := .tuple #[.agg #[.int .u8 ((m : Int) * 262144 / 65536), .int .u8 ((m : Int) * 262144 / 256 % 256), .int .u8 ((m : Int) * 262144 % 256)], .int .i64 0]) ?_ rfl ⟨three_said hb hl (t := m * 262144) (by rw [hnm, show (64 : Nat) ^ (4 - 1) = 262144 from rfl]) (n := 0) rfl (by decide) ?_ ?_ ?_ rfl, hb3⟩
        · rw [results_cell_tmp rfl]
          go_simp
        · exact u8_val (by omega)
        · exact u8_val (by omega)
        · exact u8_val (by omega)
      · have hm' : m < 4096 := by simpa using hm
        clear hm
        go_wp2_with fail
        have h3 := set3 hres (.int .u8 ((m : Int) * 4096 / 65536)) (.int .u8 ((m : Int) * 4096 / 256 % 256)) (.int .u8 ((m : Int) * 4096 % 256))
        have hb3 := ((hbw.setCell (p := ⟨w.heap.size, 0, none⟩) (Nat.le_refl _) (.int .u8 ((m : Int) * 4096 / 65536))).setCell (p := ⟨w.heap.size, 1, none⟩) (Nat.le_refl _) (.int .u8 ((m : Int) * 4096 / 256 % 256))).setCell (p := ⟨w.heap.size, 2, none⟩) (Nat.le_refl _) (.int .u8 ((m : Int) * 4096 % 256))
        generalize (((wr).setCell ⟨w.heap.size, 0, none⟩ (.int .u8 ((m : Int) * 4096 / 65536))).setCell ⟨w.heap.size, 1, none⟩ (.int .u8 ((m : Int) * 4096 / 256 % 256))).setCell ⟨w.heap.size, 2, none⟩ (.int .u8 ((m : Int) * 4096 % 256)) = W3 at h3 hb3 ⊢
        obtain ⟨q0, q1, q2, _, _, _⟩ := cells3 h3
        (try simp only [Exit.inBlock, Exit.then])
        refine bodyPost_ret (v := .tuple #[.agg #[.int .u8 ((m : Int) * 4096 / 65536), .int .u8 ((m : Int) * 4096 / 256 % 256), .int .u8 ((m : Int) * 4096 % 256)], .int .i64 1]) ?_ rfl ⟨three_said hb hl (t := m * 4096) (by rw [hnm, show (64 : Nat) ^ (4 - 2) = 4096 from rfl]) (n := 1) rfl (by decide) ?_ ?_ ?_ rfl, hb3⟩
        · rw [results_cell_tmp rfl]
          go_simp
        · exact u8_val (by omega)
        · exact u8_val (by omega)
        · exact u8_val (by omega)
      · have hm' : m < 262144 := by simpa using hm
        clear hm
        go_wp2_with fail
        have h3 := set3 hres (.int .u8 ((m : Int) * 64 / 65536)) (.int .u8 ((m : Int) * 64 / 256 % 256)) (.int .u8 ((m : Int) * 64 % 256))
        have hb3 := ((hbw.setCell (p := ⟨w.heap.size, 0, none⟩) (Nat.le_refl _) (.int .u8 ((m : Int) * 64 / 65536))).setCell (p := ⟨w.heap.size, 1, none⟩) (Nat.le_refl _) (.int .u8 ((m : Int) * 64 / 256 % 256))).setCell (p := ⟨w.heap.size, 2, none⟩) (Nat.le_refl _) (.int .u8 ((m : Int) * 64 % 256))
        generalize (((wr).setCell ⟨w.heap.size, 0, none⟩ (.int .u8 ((m : Int) * 64 / 65536))).setCell ⟨w.heap.size, 1, none⟩ (.int .u8 ((m : Int) * 64 / 256 % 256))).setCell ⟨w.heap.size, 2, none⟩ (.int .u8 ((m : Int) * 64 % 256)) = W3 at h3 hb3 ⊢
        obtain ⟨q0, q1, q2, _, _, _⟩ := cells3 h3
        (try simp only [Exit.inBlock, Exit.then])
        refine bodyPost_ret (v := .tuple #[.agg #[.int .u8 ((m : Int) * 64 / 65536), .int .u8 ((m : Int) * 64 / 256 % 256), .int .u8 ((m : Int) * 64 % 256)], .int .i64 2]) ?_ rfl ⟨three_said hb hl (t := m * 64) (by rw [hnm, show (64 : Nat) ^ (4 - 3) = 64 from rfl]) (n := 2) rfl (by decide) ?_ ?_ ?_ rfl, hb3⟩
        · rw [results_cell_tmp rfl]
          go_simp
        · exact u8_val (by omega)
        · exact u8_val (by omega)
        · exact u8_val (by omega)
      · have hm' : m < 16777216 := by simpa using hm
        clear hm
        go_wp2_with fail
        have h3 := set3 hres (.int .u8 ((m : Int) / 65536)) (.int .u8 ((m : Int) / 256 % 256)) (.int .u8 ((m : Int) % 256))
        have hb3 := ((hbw.setCell (p := ⟨w.heap.size, 0, none⟩) (Nat.le_refl _) (.int .u8 ((m : Int) / 65536))).setCell (p := ⟨w.heap.size, 1, none⟩) (Nat.le_refl _) (.int .u8 ((m : Int) / 256 % 256))).setCell (p := ⟨w.heap.size, 2, none⟩) (Nat.le_refl _) (.int .u8 ((m : Int) % 256))
        generalize (((wr).setCell ⟨w.heap.size, 0, none⟩ (.int .u8 ((m : Int) / 65536))).setCell ⟨w.heap.size, 1, none⟩ (.int .u8 ((m : Int) / 256 % 256))).setCell ⟨w.heap.size, 2, none⟩ (.int .u8 ((m : Int) % 256)) = W3 at h3 hb3 ⊢
        obtain ⟨q0, q1, q2, _, _, _⟩ := cells3 h3
        (try simp only [Exit.inBlock, Exit.then])
        refine bodyPost_ret (v := .tuple #[.agg #[.int .u8 ((m : Int) / 65536), .int .u8 ((m : Int) / 256 % 256), .int .u8 ((m : Int) % 256)], .int .i64 3]) ?_ rfl ⟨three_said hb hl (t := m * 1) (by rw [hnm, show (64 : Nat) ^ (4 - 4) = 1 from rfl]) (n := 3) rfl (by decide) ?_ ?_ ?_ rfl, hb3⟩
        · rw [results_cell_tmp rfl]
          go_simp
        · exact u8_val (by omega)
        · exact u8_val (by omega)
        · exact u8_val (by omega)
end Go.Proofs.YtioncfodelaakaaDoor
