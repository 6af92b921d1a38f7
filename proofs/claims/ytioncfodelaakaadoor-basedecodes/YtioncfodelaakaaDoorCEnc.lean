/-
  The program's Encode: the base64 of bytes.
-/
import Derived.Test.YtioncfodelaakaaDoorCPieces
import Derived.Test.YtioncfodelaakaaDoorCFour
import Derived.Test.YtioncfodelaakaaDoorCWrite
namespace Go.Proofs.YtioncfodelaakaaDoor
open Go.RowKit Go.Shelf Ch
attribute [local go_sem] Oper.semAt_some

/-- A builder stays one while blocks are laid, or one that holds no cells is turned. -/
theorem builder_own {T e : TypeId} {B b : Nat} {bs : List Value} {W W' : World} {row : Option Nat} (h : Lib.IsBuilderF T e B b bs W) (hg : W.grownBy W' row) (hr : ∀ r, row = some r → ∃ o : Obj, W.heap[r]? = some o ∧ o.isCells = false) : Lib.IsBuilderF T e B b bs W' := by
  have key : ∀ p, Lib.BuilderAtF T e B b p bs W → Lib.BuilderAtF T e B b p bs W' := by
    intro p ⟨hB, v, hbk, hown, hne⟩
    have hb : row ≠ some b := fun e' => by
      obtain ⟨o, ho, hc⟩ := hr b e'
      rw [hbk] at ho
      obtain rfl := Option.some.inj ho
      cases hc
    refine ⟨hB, v, ?_, hown.kept hg ?_, hne⟩
    · rw [hg.block b (Array.getElem?_eq_some_iff.1 hbk).1 (fun e' => hb e'.symm)]
      exact hbk
    · match hv : v.ownBlock with
      | none => exact .inl rfl
      | some g =>
        refine .inr fun e' => ?_
        obtain ⟨o, ho, hc⟩ := hr g e'.symm
        obtain ⟨c, fz, hk⟩ := Lib.ownsRowF_kind hown g hv
        rw [hk] at ho
        obtain rfl := Option.some.inj ho
        cases hc
  rcases h with h | h
  · exact .inl (key _ h)
  · exact .inr (key _ h)
theorem others_keeps {e : TypeId} {b : Nat} {W W' : World} (h : Lib.OthersKept e (some b) W W') (hs : W.heap.size ≤ W'.heap.size) {C : Nat} (hb : b < C) : KeepsFrom C W W' :=
  ⟨hs, fun k o hk ho hc => h k o ho (fun e' => by cases e'; omega) (fun c fz e' => by rw [e'] at hc; cases hc)⟩
theorem others_two {b n c : Nat} {s : ByteArray} {W W' : World} (h : Lib.OthersKept 5 (some b) W W') (hh : HasTwo c n s W) (hb : b < c) : KeepTwo c W W' :=
  ⟨(h c _ hh.1 (fun e => by cases e; omega) (fun _ _ e => by cases e)).trans hh.1.symm, (h (c + 1) _ hh.2 (fun e => by cases e; omega) (fun _ _ e => by cases e)).trans hh.2.symm⟩
theorem hasTwo_own {b n : Nat} {s : ByteArray} {W W' : World} {row : Option Nat} (h : HasTwo b n s W) (hg : W.grownBy W' row) (hr : ∀ r, row = some r → ∃ o : Obj, W.heap[r]? = some o ∧ o.isCells = false) : HasTwo b n s W' := by
  have key : ∀ (k : Nat) (c : Array Value) (t : TypeId) (fr : Nat × Nat), W.heap[k]? = some (Obj.cells c t fr) → W'.heap[k]? = some (Obj.cells c t fr) := fun k c t fr hk => by
    refine (hg.block k (Array.getElem?_eq_some_iff.1 hk).1 (fun e' => ?_)).trans hk
    · obtain ⟨o, ho, hc⟩ := hr k e'.symm
      rw [hk] at ho
      obtain rfl := Option.some.inj ho
      cases hc
  exact ⟨key _ _ _ _ h.1, key _ _ _ _ h.2⟩

theorem below_others {e : TypeId} {b : Option Nat} {W W' : World} (h : Below W.heap.size W W') : Lib.OthersKept e b W W' := fun k _ hk _ _ => (h.block k (Array.getElem?_eq_some_iff.1 hk).1).trans hk
theorem alloc_others {e : TypeId} {b : Option Nat} (W : World) (o : Obj) : Lib.OthersKept e b W (W.alloc o) := below_others ((Below.refl _ W).alloc (Nat.le_refl _) o)
theorem builder_later {T e : TypeId} {B b : Nat} {bs : List Value} {W W' : World} (h : Lib.IsBuilderF T e B b bs W) (hb : Below W.heap.size W W') : Lib.IsBuilderF T e B b bs W' := by
  have key : ∀ p, Lib.BuilderAtF T e B b p bs W → Lib.BuilderAtF T e B b p bs W' := by
    intro p ⟨hB, v, hbk, hown, hne⟩
    refine ⟨hB, v, (hb.block b (Array.getElem?_eq_some_iff.1 hbk).1).trans hbk, ⟨hown.1, ?_⟩, hne⟩
    rcases hown.2 with h2 | ⟨g, cap, cur, fz, hv, hg, hh, r⟩
    · exact .inl h2
    · exact .inr ⟨g, cap, cur, fz, hv, hg, (hb.block g (Array.getElem?_eq_some_iff.1 hh).1).trans hh, r⟩
  rcases h with h | h
  · exact .inl (key _ h)
  · exact .inr (key _ h)
theorem hasTwo_kept {b n c : Nat} {s : ByteArray} {W W' : World} (h : HasTwo c n s W) (hk : Lib.OthersKept 5 (some b) W W') (hb : b < c) : HasTwo c n s W' := h.kept (others_two hk h hb)
theorem enc_four {x : ByteArray} (h1 : 1 ≤ x.size) (h3 : x.size ≤ 3) : ∃ c0 c1 c2 c3, encL x = [c0, c1, c2, c3] := by
  rcases (show x.size = 1 ∨ x.size = 2 ∨ x.size = 3 by omega) with h | h | h
  · exact ⟨_, _, _, _, enc_of1 h⟩
  · exact ⟨_, _, _, _, enc_of2 h⟩
  · exact ⟨_, _, _, _, enc_of3 h⟩
theorem enc_pieces (s : ByteArray) : (piecesB 3 s).flatMap encL = encL s :=
  pieces_flat (by omega) encL (fun a b ha => enc_cat a b 1 (by omega)) (by decide +kernel) s.size s (Nat.le_refl _)
theorem pieces_length {n : Nat} (hn : 0 < n) : ∀ (k : Nat) (s : ByteArray), s.size ≤ k → (piecesB n s).length ≤ s.size
  | 0, s, hk => by rw [piecesB_nil (by omega)]; exact Nat.zero_le _
  | k + 1, s, hk => by
    by_cases h0 : s.size = 0
    · rw [piecesB_nil h0]; exact Nat.zero_le _
    have := pieces_length hn k (s.extract (min n s.size) s.size) (by rw [size_rest]; omega)
    rw [size_rest] at this
    rw [piecesB_cons hn h0, List.length_cons]
    omega
/-- The pieces that Encode is handed. -/
abbrev P3 := { x : ByteArray // 1 ≤ x.size ∧ x.size ≤ 3 }
def encP (pre : List P3) : List UInt8 := pre.flatMap fun x => encL x.1
theorem encP_snoc (pre : List P3) (x : P3) : encP (pre ++ [x]) = encP pre ++ encL x.1 := by simp [encP]
theorem encP_length (pre : List P3) : (encP pre).length = 4 * pre.length := by
  induction pre with
  | nil => rfl
  | cons x r ih =>
    obtain ⟨c0, c1, c2, c3, hc⟩ := enc_four x.2.1 x.2.2
    have : encP (x :: r) = encL x.1 ++ encP r := rfl
    rw [this, List.length_append, ih, hc]
    simp
    omega
theorem encP_all {pre : List P3} {s : ByteArray} (h : pre.map (·.1) = piecesB 3 s) : encP pre = encL s := by
  rw [← enc_pieces s, ← h]
  simp [encP]

set_option maxHeartbeats 2000000 in
set_option maxRecDepth 100000 in
theorem cEncode_any (a : Option Addr) (cap : Nat) (s : ByteArray) (w : World) (hs : s.size ≤ 100000) (hB : IsBytes w (.slice a s.size cap) s) :
    Calls Tryd.prog 9 #[.slice a s.size cap] w fun e w' => e = .returned (.string ⟨(encL s).toArray⟩) ∧ Below w.heap.size w w' := by
  have hcv := (hB.alloc (.cells #[.pointer none, .slice none 0 0] 37)).convert
  refine (callsIn_wide (n := 3)).1 ?_
  refine callsIn_of_wp_marks Tryd.func9 rfl trivial ?_ rfl
  simp only [Tryd.ntmps9, List.size_toArray, List.length_cons, List.length_nil, Nat.reduceAdd, Nat.reduceSub, Array.replicate_succ, Array.replicate_zero, List.push_toArray, List.append_toArray, List.nil_append, List.cons_append]
  gi_wp2_with (refine ⟨trivial, ?_⟩; gi_at_call 19; refine (callsIn_wide.2 (pieces_any _ 3 _)).mono ?_; rintro e w' ⟨rfl, rfl⟩)
  have hT : HasTwo (w.heap.size + 1) 3 s (((w.alloc (.cells #[.pointer none, .slice none 0 0] 37)).alloc (.cells #[.string s] 9)).alloc (.cells #[.int .i64 3] 3)) := by
    have := hasTwo_new s 3 (w.alloc (.cells #[.pointer none, .slice none 0 0] 37))
    rw [World.size_alloc] at this
    exact this
  have hB0 : Below w.heap.size w (((w.alloc (.cells #[.pointer none, .slice none 0 0] 37)).alloc (.cells #[.string s] 9)).alloc (.cells #[.int .i64 3] 3)) := (((Below.refl _ w).alloc (Nat.le_refl _) _).alloc (by simp) _).alloc (by simp; omega) _
  have hI0 : Lib.IsBuilderF 37 5 w.heap.size w.heap.size [] (((w.alloc (.cells #[.pointer none, .slice none 0 0] 37)).alloc (.cells #[.string s] 9)).alloc (.cells #[.int .i64 3] 3)) := ((Lib.IsBuilderF.of (Lib.fresh_isBuilder 37 5 w)).alloc _).alloc _
  have hsz0 : (((w.alloc (.cells #[.pointer none, .slice none 0 0] 37)).alloc (.cells #[.string s] 9)).alloc (.cells #[.int .i64 3] 3)).heap.size = w.heap.size + 3 := by simp
  obtain ⟨W0, hW0⟩ : ∃ W0, (((w.alloc (.cells #[.pointer none, .slice none 0 0] 37)).alloc (.cells #[.string s] 9)).alloc (.cells #[.int .i64 3] 3)) = W0 := ⟨_, rfl⟩
  rw [hW0] at hT hB0 hI0 hsz0 ⊢
  clear hW0 hcv hB
  refine wpIn_rangeFunc_ownG rfl (by omega) (gf := 37) (lb := #[.pointer (some ⟨w.heap.size + 1, 0, none⟩), .pointer (some ⟨w.heap.size + 1 + 1, 0, none⟩)]) rfl trivial (enters_of Tryd.func37 (by kernel_rfl) rfl)
    (pieces_stops Fence.wide _ trivial rfl (by omega) (fun x => 1 ≤ x.size ∧ x.size ≤ 3) s 3 (w.heap.size + 1) W0 (by omega) (by omega) (by omega) hT (fun p hp => by
      obtain ⟨h1, h2, _⟩ := piece_size (by omega) s.size s (Nat.le_refl _) p hp
      exact ⟨h1, h2⟩)) keepTwo_t (keepTwo_b (by omega)) (Below.refl _ _) (fun _ => rfl)
    (fun (pre : List P3) W => Lib.IsBuilderF 37 5 w.heap.size w.heap.size (Lib.byteCells (encP pre)) W ∧ HasTwo (w.heap.size + 1) 3 s W ∧ Below w.heap.size w W ∧ w.heap.size + 3 ≤ W.heap.size)
    (fun _ _ _ => False)
    ?own (fun _ _ _ _ _ hs _ _ => hs) ⟨hI0, hT, hB0, by omega⟩
    (fun x => { tmps := #[.slice a s.size cap, undef, .string ⟨#[]⟩, .pointer (some ⟨w.heap.size, 0, none⟩), .string x.1, undef, .slice a s.size cap, .string s, .func (.func 37) #[] #[.pointer (some ⟨w.heap.size + 1, 0, none⟩), .pointer (some ⟨w.heap.size + 1 + 1, 0, none⟩)], .string x.1, undef, undef, undef, undef, undef], defers := [] }) ?assign ?body ?done ?stop
  case own =>
    rintro pre W W' row ⟨h1, h2, h3, h4⟩ hg hr
    refine ⟨builder_own h1 hg (fun r e => (hr r e).2), hasTwo_own h2 hg (fun r e => (hr r e).2), h3.grown hg h3.size (fun r e => by have := (hr r e).1; omega), Nat.le_trans h4 hg.size⟩
  case assign =>
    intro l x W K hK
    gi_wp2
    exact hK
  case body =>
    rintro l pre x W ⟨hI, hT1, hB1, hs1⟩ hlen
    have hlen2 : pre.length < 100000 := by have := pieces_length (n := 3) (by omega) s.size s (Nat.le_refl _); omega
    have hel := encP_length pre
    obtain ⟨c0, c1, c2, c3, hc⟩ := enc_four x.2.1 x.2.2
    have hF := toFour_any x.1 W x.2.1 x.2.2
    rw [hc] at hF
    have hbc : Lib.byteCells [c0, c1, c2, c3] = [.int .u8 (c0.toNat : Int), .int .u8 (c1.toNat : Int), .int .u8 (c2.toNat : Int), .int .u8 (c3.toNat : Int)] := rfl
    rw [hbc] at hF
    have hd : 1 ≤ 3 - 1 - 1 := by omega
    gi_wp2_with (refine ⟨trivial, ?_⟩; gi_at_call 20; refine (CallsIn.inRound l (callsIn_wide.2 hF)).mono ?_; clear hF)
    rintro e W1 ⟨rfl, hb1⟩
    gi_wp2
    have hI1 := (builder_later hI hb1).alloc (.cells #[.int .u8 (c0.toNat : Int), .int .u8 (c1.toNat : Int), .int .u8 (c2.toNat : Int), .int .u8 (c3.toNat : Int)] 41)
    have hg1 := heap_push_at W1 (.cells #[.int .u8 (c0.toNat : Int), .int .u8 (c1.toNat : Int), .int .u8 (c2.toNat : Int), .int .u8 (c3.toNat : Int)] 41)
    have hz1 := hb1.size
    have hWr := bWrite_any w.heap.size w.heap.size W1.heap.size _ [.int .u8 (c0.toNat : Int), .int .u8 (c1.toNat : Int), .int .u8 (c2.toNat : Int), .int .u8 (c3.toNat : Int)] 41 (0, 0) _ hI1 (by omega) (by decide) hg1 (by intro u hu; simp at hu; rcases hu with rfl | rfl | rfl | rfl <;> rfl) (by rw [Lib.byteCells_length]; simp; omega) (by simp; omega)
    refine ⟨trivial, ?_⟩
    refine (CallsIn.inRound l (callsIn_wide.2 hWr)).mono ?_
    rintro e W3 ⟨rfl, h3, b3, k3⟩
    have hz3 := b3.size
    rw [World.size_alloc] at hz3
    have hK : Lib.OthersKept 5 (some w.heap.size) W W3 := ((below_others hb1).trans (alloc_others W1 _)).trans k3
    gi_wp2
    refine ⟨others_keeps hK (by omega) (by omega), others_two hK hT1 (by omega), ?_, hasTwo_kept hT1 hK (by omega), ?_, by omega⟩
    · rw [encP_snoc, hc, Lib.byteCells_append]
      exact .inr h3
    · exact (hB1.trans ((hb1.mono hB1.size).alloc (by omega) _)).trans b3
  case done =>
    rintro D ys W hD hys ⟨hI, hT1, hB1, hs1⟩ hK
    rw [encP_all hys] at hI
    have hS := Tryd.Builder_String_any_k w.heap.size w.heap.size _ _ hI (by omega)
    gi_wp2_with (refine ⟨trivial, ?_⟩; gi_at_call 22; refine (callsIn_wide.2 hS).mono ?_; clear hS)
    rintro e W4 ⟨rfl, _, b4, k4⟩
    have hK4 := k4 D _ hK (fun e => by cases e; omega) (fun _ _ e => by cases e)
    gi_wp2
    refine ⟨by simp, .inl ⟨_, _, rfl, run_takeDeferred hK4, ?_⟩⟩
    exact ⟨_, results_tmp rfl _ _ _, rfl, (hB1.trans b4).trans (belowK_b (w := w) (Nat.le_refl _) W4 D _ _ (by omega) hK4 rfl rfl)⟩
  case stop =>
    rintro D c pre W _ _ h _
    exact h.elim
end Go.Proofs.YtioncfodelaakaaDoor
