/-
  The program's pieces: a text gone through by n bytes at a time, for every loop over it.
-/
import Derived.RangeFuncNested
import Derived.RangeFuncBound
import Derived.RangeFuncCalls
import Derived.RangeFuncLeaves
import Derived.Shelf.Abstract
import Derived.Shelf.RegionOpen
import Derived.OwnWalkIn
import Derived.TacticsInMore
import Derived.LoopNIn
import Derived.LoopIn
import Derived.Test.YtnkefpopkaagaaaDoorGen2
namespace Go.Proofs.YtnkefpopkaagaaaDoor
open Go.RowKit Go.Shelf Ch
set_option maxRecDepth 100000
attribute [local go_sem] Oper.semAt_some

/-- The pieces of a text, k at most. -/
def piecesF (n : Nat) : Nat → ByteArray → List ByteArray
  | 0, _ => []
  | k + 1, r => if r.size = 0 then [] else r.extract 0 (min n r.size) :: piecesF n k (r.extract (min n r.size) r.size)
/-- The pieces of a text, n bytes each, the last as many as are left. -/
def piecesB (n : Nat) (r : ByteArray) : List ByteArray := piecesF n r.size r
theorem size_rest (r : ByteArray) (a : Nat) : (r.extract a r.size).size = r.size - a := by simp
theorem piecesF_eq {n : Nat} (hn : 0 < n) : ∀ (k : Nat) (r : ByteArray), r.size ≤ k → piecesF n k r = piecesB n r := by
  intro k
  induction k using Nat.strongRecOn with
  | ind k ih =>
    intro r hr
    match k, ih, hr with
    | 0, _, hr => unfold piecesB; rw [show r.size = 0 by omega]
    | k + 1, ih, hr =>
      unfold piecesB
      by_cases h0 : r.size = 0
      · rw [piecesF, if_pos h0, h0]; rfl
      · obtain ⟨m, hm⟩ : ∃ m, r.size = m + 1 := ⟨r.size - 1, by omega⟩
        have hsz := size_rest r (min n r.size)
        have e1 : piecesF n k (r.extract (min n r.size) r.size) = piecesB n (r.extract (min n r.size) r.size) := ih k (by omega) _ (by omega)
        have e2 : piecesF n m (r.extract (min n r.size) r.size) = piecesB n (r.extract (min n r.size) r.size) := ih m (by omega) _ (by omega)
        rw [piecesF, if_neg h0, e1]
        conv => rhs; rw [hm]
        rw [piecesF, if_neg h0, e2]
theorem piecesB_nil {n : Nat} {r : ByteArray} (h : r.size = 0) : piecesB n r = [] := by unfold piecesB; rw [h]; rfl
theorem piecesB_cons {n : Nat} (hn : 0 < n) {r : ByteArray} (h : r.size ≠ 0) : piecesB n r = r.extract 0 (min n r.size) :: piecesB n (r.extract (min n r.size) r.size) := by
  obtain ⟨m, hm⟩ : ∃ m, r.size = m + 1 := ⟨r.size - 1, by omega⟩
  have hsz := size_rest r (min n r.size)
  have e2 : piecesF n m (r.extract (min n r.size) r.size) = piecesB n (r.extract (min n r.size) r.size) := piecesF_eq hn m _ (by omega)
  unfold piecesB
  conv => lhs; rw [hm]
  rw [piecesF, if_neg h, e2]
  rfl

/-- What a round that goes on keeps: the two variables that the iterator has. -/
def KeepTwo (b : Nat) (W W' : World) : Prop := W'.heap[b]? = W.heap[b]? ∧ W'.heap[b + 1]? = W.heap[b + 1]?
theorem keepTwo_t {b : Nat} {A B C : World} (h : KeepTwo b A B) (k : KeepTwo b B C) : KeepTwo b A C := ⟨k.1.trans h.1, k.2.trans h.2⟩
theorem keepTwo_b {b : Nat} {w : World} (hn : b + 2 ≤ w.heap.size) (W : World) (l : Nat) (o o' : Obj) (hl : w.heap.size ≤ l) (_ : W.heap[l]? = some o) (_ : o.isCells = false) (_ : o.isWalk = false) : KeepTwo b W (W.putObj l o') :=
  ⟨World.putObj_heap_other (by omega), World.putObj_heap_other (by omega)⟩
/-- The iterator's two variables. -/
def HasTwo (b n : Nat) (s : ByteArray) (W : World) : Prop := W.heap[b]? = some (.cells #[.string s] 9 (0, 0)) ∧ W.heap[b + 1]? = some (.cells #[.int .i64 (n : Int)] 3 (0, 0))
theorem HasTwo.kept {b n : Nat} {s : ByteArray} {W W' : World} (h : HasTwo b n s W) (k : KeepTwo b W W') : HasTwo b n s W' := ⟨k.1.trans h.1, k.2.trans h.2⟩

theorem pieces_any (s : ByteArray) (n : Nat) (w : World) :
    Calls Tryd.prog 46 #[.string s, .int .i64 (n : Int)] w fun e w' => e = .returned (.func (.func 58) #[] #[.pointer (some ⟨w.heap.size, 0, none⟩), .pointer (some ⟨w.heap.size + 1, 0, none⟩)]) ∧
      w' = (w.alloc (.cells #[.string s] 9)).alloc (.cells #[.int .i64 (n : Int)] 3) := by
  go_enter Tryd.func46, Tryd.ntmps46
  go_wp2
  go_ret
  exact ⟨by simp, rfl⟩
theorem hasTwo_new (s : ByteArray) (n : Nat) (w : World) : HasTwo w.heap.size n s ((w.alloc (.cells #[.string s] 9)).alloc (.cells #[.int .i64 (n : Int)] 3)) := by
  constructor
  · rw [heap_push_old _ _ (by simp)]; exact heap_push_at w _
  · have := heap_push_at (w.alloc (.cells #[.string s] 9)) (.cells #[.int .i64 (n : Int)] 3)
    simpa using this

/-- The length of a text. -/
def strLen : Value → Nat
  | .string r => r.size
  | _ => 0
set_option maxHeartbeats 2000000 in
set_option maxRecDepth 100000 in
theorem pieces_stops (F : Fence) (k : Nat) (hF : F.fn 58) (hro : F.round = none) (hk : 1 ≤ k) (Q : ByteArray → Prop) (s : ByteArray) (n b : Nat) (w : World) (hn : 0 < n) (hn' : n ≤ 9223372036854775807) (hb : b + 2 ≤ w.heap.size) (hh : HasTwo b n s w) (hQ : ∀ p ∈ piecesB n s, Q p) :
    SeqStopsK F k Tryd.prog 58 #[.pointer (some ⟨b, 0, none⟩), .pointer (some ⟨b + 1, 0, none⟩)] (fun x : { x : ByteArray // Q x } => #[Value.string x.1]) (KeepTwo b) (fun xs => xs.map (·.1) = piecesB n s) (fun _ => True) (piecesB n s).length w := fun l J Jx W hW _ _ hY h0 => by
  have hh0 : HasTwo b n s W := ⟨(hW.block b (by omega)).trans hh.1, (hW.block (b + 1) (by omega)).trans hh.2⟩
  have hc1 := (cell_of_block hh0.1).1
  refine callsIn_of_wp Tryd.func58 rfl hF ?_ hro
  simp only [Tryd.ntmps58, List.size_toArray, List.length_cons, List.length_nil, Nat.reduceAdd, Nat.reduceSub, Array.replicate_succ, Array.replicate_zero, List.push_toArray, List.append_toArray, List.nil_append, List.cons_append]
  gi_wp2
  gi_loopw [4] (fun p wr => ∃ (pre : List { x : ByteArray // Q x }) (r : ByteArray), p = .string r ∧ pre.map (·.1) ++ piecesB n r = piecesB n s ∧ r.size ≤ s.size ∧ HasTwo b n s wr ∧ J pre wr) (fun p _ => strLen p)
  case atStart => exact ⟨[], s, rfl, rfl, Nat.le_refl _, hh0, h0⟩
  case round =>
    obtain ⟨pre, r, rfl, hx, hrs, hh1, hJs⟩ := hrel
    have hc2 := (cell_of_block hh1.2).1
    by_cases hr : r.size = 0
    · have e0 : r.toList.isEmpty = true := by rw [List.isEmpty_iff, Lib.toList_data]; exact List.eq_nil_of_length_eq_zero (by rw [len_eq]; exact hr)
      rw [piecesB_nil hr, List.append_nil] at hx
      gi_wp2
      go_end0
      exact ⟨⟨_, rfl⟩, .inl ⟨pre, hx, hJs⟩⟩
    · have e0 : r.toList.isEmpty = false := by
        rw [List.isEmpty_eq_false_iff]
        intro h
        apply hr
        rw [← len_eq, ← Lib.toList_data, h]
        rfl
      rw [piecesB_cons hn hr] at hx
      obtain ⟨m, hm⟩ : ∃ m : Nat, m = min n r.size := ⟨_, rfl⟩
      rw [← hm] at hx
      have hm1 : min (n : Int) (r.size : Int) = (m : Int) := by omega
      have hm2 : m ≤ r.size := by omega
      have hm3 : 0 < m := by omega
      have hq : Q (r.extract 0 m) := hQ _ (by rw [← hx]; simp)
      have hlen : pre.length < (piecesB n s).length := by rw [← hx]; simp
      clear hm hQ
      obtain ⟨fn, tmps, assign, body, hy, hR⟩ := hY pre ⟨r.extract 0 m, hq⟩ wr hJs hlen
      dsimp only at hy
      gi_wp2
      refine hR.mono ?_
      rintro e W3 (⟨rfl, hJ3, hk3⟩ | ⟨rfl, hJx3⟩)
      · gi_wp2
        go_roundw
        case rel => exact ⟨pre ++ [⟨r.extract 0 m, hq⟩], r.extract m r.size, rfl, by rw [List.map_append, List.append_assoc]; exact hx, by rw [size_rest]; omega, hh1.kept hk3, hJ3⟩
        case measure => simp [strLen]; omega
      · gi_wp2
        refine bodyPost_ret (results_none rfl _ _ _) rfl ?_
        exact ⟨⟨_, rfl⟩, .inr ⟨_, trivial, hJx3⟩⟩

/-- Each piece is a part of the text, of one to n bytes. -/
theorem piece_size {n : Nat} (hn : 0 < n) : ∀ (k : Nat) (s : ByteArray), s.size ≤ k → ∀ p ∈ piecesB n s, 1 ≤ p.size ∧ p.size ≤ n ∧ p.size ≤ s.size ∧ ∀ c ∈ p.data.toList, c ∈ s.data.toList
  | 0, s, hk, p, hp => by rw [piecesB_nil (by omega)] at hp; cases hp
  | k + 1, s, hk, p, hp => by
    by_cases h0 : s.size = 0
    · rw [piecesB_nil h0] at hp; cases hp
    rw [piecesB_cons hn h0] at hp
    rcases List.mem_cons.1 hp with rfl | hp
    · refine ⟨?_, ?_, ?_, ?_⟩
      · rw [ByteArray.size_extract]; omega
      · rw [ByteArray.size_extract]; omega
      · rw [ByteArray.size_extract]; omega
      · intro c hc
        rw [Lib.extract_data] at hc
        exact List.mem_of_mem_drop (List.mem_of_mem_take hc)
    · obtain ⟨h1, h2, h4, h3⟩ := piece_size hn k _ (by rw [size_rest]; omega) p hp
      rw [size_rest] at h4
      refine ⟨h1, h2, by omega, fun c hc => ?_⟩
      have := h3 c hc
      rw [Lib.extract_data] at this
      exact List.mem_of_mem_drop (List.mem_of_mem_take this)
/-- A text is its pieces put together. -/
theorem pieces_flat {n : Nat} (hn : 0 < n) {β : Type} (f : ByteArray → List β) (hf : ∀ a b : ByteArray, a.size = n → f (cat a b) = f a ++ f b) (h0 : f ⟨#[]⟩ = []) : ∀ (k : Nat) (s : ByteArray), s.size ≤ k → (piecesB n s).flatMap f = f s
  | 0, s, hk => by
    rw [piecesB_nil (by omega), empty_of_size (s := s) (by omega)]
    exact h0.symm
  | k + 1, s, hk => by
    by_cases hs0 : s.size = 0
    · rw [piecesB_nil hs0, empty_of_size hs0]; exact h0.symm
    rw [piecesB_cons hn hs0, List.flatMap_cons, pieces_flat hn f hf h0 k _ (by rw [size_rest]; omega)]
    by_cases hle : s.size ≤ n
    · have e1 : min n s.size = s.size := by omega
      have e2 : s.extract 0 s.size = s := ByteArray.extract_zero_size
      have e3 : s.extract s.size s.size = ⟨#[]⟩ := empty_of_size (by rw [size_rest]; omega)
      rw [e1, e2, e3, h0, List.append_nil]
    · have e1 : min n s.size = n := by omega
      rw [e1, ← hf _ _ (by rw [ByteArray.size_extract]; omega)]
      congr 1
      apply ByteArray.ext
      apply Array.toList_inj.1
      show (_ ++ _ : List UInt8) = _
      rw [Lib.extract_data, Lib.extract_data, List.drop_zero, Nat.sub_zero, List.take_of_length_le (l := List.drop n s.data.toList) (by rw [List.length_drop, len_eq]; exact Nat.le_refl _)]
      exact List.take_append_drop _ _
end Go.Proofs.YtnkefpopkaagaaaDoor
