/-
  Package nat: how many times words can be taken from words, or one more.
-/
import Derived.Test.YtpcmpeeflnlkpaaDoorNDiv0
import Derived.Test.YtpcmpeeflnlkpaaDoorNBitsEtc
namespace Go.Proofs.YtpcmpeeflnlkpaaDoor
open Go.RowKit Ch
set_option maxRecDepth 100000
def semGuO : Array Oper := #[{ dst := some 26, op := Go.Op.move (Go.Operand.tmp 0), type := 61, pos := "words.go:106", after := #[], guard := none }, { dst := some 27, op := Go.Op.move (Go.Operand.tmp 5), type := 3, pos := "words.go:106", after := #[], guard := none }, { dst := some 28, op := Go.Op.indexAddr 61 (Go.Operand.tmp 26) (Go.Operand.tmp 27), type := 0, pos := "words.go:106", after := #[{ on := 0, ground := Go.Ground.data }, { on := 1, ground := Go.Ground.data }], guard := none }, { dst := some 29, op := Go.Op.load 69 (Go.Operand.tmp 28), type := 69, pos := "words.go:106", after := #[{ on := 2, ground := Go.Ground.data }], guard := none }, { dst := some 30, op := Go.Op.move (Go.Operand.tmp 0), type := 61, pos := "words.go:106", after := #[], guard := none }, { dst := some 31, op := Go.Op.move (Go.Operand.tmp 5), type := 3, pos := "words.go:106", after := #[], guard := none }, { dst := some 32, op := Go.Op.binOp Go.BinOp.sub 3 (Go.Operand.tmp 31) (Go.Operand.const (Go.Value.int Go.IntKind.i64 1)) 3, type := 3, pos := "words.go:106", after := #[{ on := 5, ground := Go.Ground.data }], guard := none }, { dst := some 33, op := Go.Op.indexAddr 61 (Go.Operand.tmp 30) (Go.Operand.tmp 32), type := 0, pos := "words.go:106", after := #[{ on := 4, ground := Go.Ground.data }, { on := 6, ground := Go.Ground.data }], guard := none }, { dst := some 34, op := Go.Op.load 69 (Go.Operand.tmp 33), type := 69, pos := "words.go:106", after := #[{ on := 7, ground := Go.Ground.data }], guard := none }, { dst := some 35, op := Go.Op.move (Go.Operand.tmp 6), type := 69, pos := "words.go:106", after := #[], guard := none }, { dst := some 36, op := Go.Op.call { callee := Go.Callee.value (Go.Operand.func 81), args := #[Go.Operand.tmp 29, Go.Operand.tmp 34, Go.Operand.tmp 35], argTypes := #[69, 69, 69] }, type := 78, pos := "words.go:106", after := #[{ on := 3, ground := Go.Ground.data }, { on := 8, ground := Go.Ground.data }, { on := 9, ground := Go.Ground.data }], guard := none }, { dst := some 25, op := Go.Op.move (Go.Operand.tmp 36), type := 78, pos := "words.go:106", after := #[{ on := 10, ground := Go.Ground.data }], guard := none }, { dst := some 37, op := Go.Op.extract (Go.Operand.tmp 25) 0, type := 69, pos := "words.go:106", after := #[{ on := 11, ground := Go.Ground.data }], guard := none }, { dst := some 38, op := Go.Op.extract (Go.Operand.tmp 25) 1, type := 69, pos := "words.go:106", after := #[{ on := 11, ground := Go.Ground.data }, { on := 14, ground := Go.Ground.gcOnly Go.Departure.lateStores }], guard := none }, { dst := some 7, op := Go.Op.assign (Go.Operand.tmp 37), type := 69, pos := "words.go:106", after := #[{ on := 12, ground := Go.Ground.data }, { on := 10, ground := Go.Ground.chain }, { on := 0, ground := Go.Ground.phase }, { on := 1, ground := Go.Ground.phase }, { on := 2, ground := Go.Ground.phase }, { on := 3, ground := Go.Ground.phase }, { on := 4, ground := Go.Ground.phase }, { on := 5, ground := Go.Ground.phase }, { on := 6, ground := Go.Ground.phase }, { on := 7, ground := Go.Ground.phase }, { on := 8, ground := Go.Ground.phase }, { on := 9, ground := Go.Ground.phase }, { on := 10, ground := Go.Ground.phase }, { on := 11, ground := Go.Ground.phase }, { on := 12, ground := Go.Ground.phase }, { on := 13, ground := Go.Ground.textOnly Go.Departure.lateStores }], guard := none }, { dst := some 8, op := Go.Op.assign (Go.Operand.tmp 38), type := 69, pos := "words.go:106", after := #[{ on := 13, ground := Go.Ground.data }, { on := 14, ground := Go.Ground.chain }, { on := 0, ground := Go.Ground.phase }, { on := 1, ground := Go.Ground.phase }, { on := 2, ground := Go.Ground.phase }, { on := 3, ground := Go.Ground.phase }, { on := 4, ground := Go.Ground.phase }, { on := 5, ground := Go.Ground.phase }, { on := 6, ground := Go.Ground.phase }, { on := 7, ground := Go.Ground.phase }, { on := 8, ground := Go.Ground.phase }, { on := 9, ground := Go.Ground.phase }, { on := 10, ground := Go.Ground.phase }, { on := 11, ground := Go.Ground.phase }, { on := 12, ground := Go.Ground.phase }, { on := 13, ground := Go.Ground.phase }, { on := 14, ground := Go.Ground.phase }], guard := none }]
def semGu (un un1 top T Rm n n1 g o nn cu : Nat) : Nat → Value → World → Prop := fun ix v _ => match ix with
  | 0 => v = .slice (some ⟨g, o, none⟩) nn cu
  | 1 => v = .int .i64 (n : Int)
  | 2 => v = .pointer (some ⟨g, o + n, none⟩)
  | 3 => v = .int .u64 (un : Int)
  | 4 => v = .slice (some ⟨g, o, none⟩) nn cu
  | 5 => v = .int .i64 (n : Int)
  | 6 => v = .int .i64 (n1 : Int)
  | 7 => v = .pointer (some ⟨g, o + n1, none⟩)
  | 8 => v = .int .u64 (un1 : Int)
  | 9 => v = .int .u64 (top : Int)
  | 10 => v = .tuple #[.int .u64 (T : Int), .int .u64 (Rm : Int)]
  | 11 => v = .tuple #[.int .u64 (T : Int), .int .u64 (Rm : Int)]
  | 12 => v = .int .u64 (T : Int)
  | 13 => v = .int .u64 (Rm : Int)
  | 14 => v = .int .u64 (T : Int)
  | 15 => v = .int .u64 (Rm : Int)
  | _ => True
set_option maxHeartbeats 2000000 in
theorem semGuR (un un1 top T Rm n n1 g o nn cu : Nat)  {Q : Exit → Act → World → Prop} {a0 : Act} {u0 : World} (hsz : a0.tmps.size = 91) (v0 : a0.tmps[0]? = some (.slice (some ⟨g, o, none⟩) nn cu)) (v5 : a0.tmps[5]? = some (.int .i64 (n : Int))) (v6 : a0.tmps[6]? = some (.int .u64 (top : Int))) (hn : (n : Int) < (nn : Int)) (hn1 : (n1 : Int) < (nn : Int)) (hn1I : (n : Int) - 1 = (n1 : Int)) (hn1w : IntKind.i64.wrap (n1 : Int) = (n1 : Int)) (HC : Hid (∀ u, Below u0.drew.heap.size u0.drew u → u.cell? ⟨g, o + n, none⟩ = some (.int .u64 (un : Int)) ∧ u.cell? ⟨g, o + n1, none⟩ = some (.int .u64 (un1 : Int)))) (HD : Hid (∀ u, Calls Tryd.prog 81 #[.int .u64 (un : Int), .int .u64 (un1 : Int), .int .u64 (top : Int)] u fun e u' => e = .returned (.tuple #[.int .u64 (T : Int), .int .u64 (Rm : Int)]) ∧ Below u.heap.size u u'))
    (hfin : ∀ (vs : Nat → Value) u, (∀ ix d, ((semGuO[ix]?).bind (fun x => Oper.dst x)) = some d → semGu un un1 top T Rm n n1 g o nn cu ix (vs ix) u) → Below u0.drew.heap.size u0.drew u → Q .normal (putFrom vs a0 semGuO.toList 0) u) : (Code.region 5 semGuO true).wp Tryd.prog Q a0 u0 := by
  unfold semGuO
  refine free_walk (Sem := semGu un un1 top T Rm n n1 g o nn cu) rfl (n := 91) (by kernel_rfl) hsz (by kernel_rfl) ?_ ?_ ?_
  · intro ix v u u' h hb
    match ix, h with
    | 0, h => exact h
    | 1, h => exact h
    | 2, h => exact h
    | 3, h => exact h
    | 4, h => exact h
    | 5, h => exact h
    | 6, h => exact h
    | 7, h => exact h
    | 8, h => exact h
    | 9, h => exact h
    | 10, h => exact h
    | 11, h => exact h
    | 12, h => exact h
    | 13, h => exact h
    | 14, h => exact h
    | 15, h => exact h
    | _ + 16, _ => exact trivial
  · intro ix o a u ho hF hbu
    match ix, ho, hF with
    | 0, ho, hF =>
      obtain rfl := Option.some.inj ho
      have h0 : a.tmps[0]? = some (.slice (some ⟨g, o, none⟩) nn cu) := (hF.out 0 rfl).trans v0
      refine free_step rfl (by rfl) (fun K' hK => ?_)
      go_simp
      exact hK.out _ _ rfl (Below.refl _ _)
    | 1, ho, hF =>
      obtain rfl := Option.some.inj ho
      have h5 : a.tmps[5]? = some (.int .i64 (n : Int)) := (hF.out 5 rfl).trans v5
      refine free_step rfl (by rfl) (fun K' hK => ?_)
      go_simp
      exact hK.out _ _ rfl (Below.refl _ _)
    | 2, ho, hF =>
      obtain rfl := Option.some.inj ho
      obtain ⟨v26, h26, s26⟩ := hF.dep 0 26 rfl rfl
      obtain rfl : v26 = .slice (some ⟨g, o, none⟩) nn cu := s26
      obtain ⟨v27, h27, s27⟩ := hF.dep 1 27 rfl rfl
      obtain rfl : v27 = .int .i64 (n : Int) := s27
      refine free_step rfl (by rfl) (fun K' hK => ?_)
      go_simp
      exact hK.out _ _ rfl (Below.refl _ _)
    | 3, ho, hF =>
      obtain rfl := Option.some.inj ho
      obtain ⟨v28, h28, s28⟩ := hF.dep 2 28 rfl rfl
      obtain rfl : v28 = .pointer (some ⟨g, o + n, none⟩) := s28
      have gx := (HC.out u hbu).1
      refine free_step rfl (by rfl) (fun K' hK => ?_)
      go_simp
      exact hK.out _ _ rfl (Below.refl _ _)
    | 4, ho, hF =>
      obtain rfl := Option.some.inj ho
      have h0 : a.tmps[0]? = some (.slice (some ⟨g, o, none⟩) nn cu) := (hF.out 0 rfl).trans v0
      refine free_step rfl (by rfl) (fun K' hK => ?_)
      go_simp
      exact hK.out _ _ rfl (Below.refl _ _)
    | 5, ho, hF =>
      obtain rfl := Option.some.inj ho
      have h5 : a.tmps[5]? = some (.int .i64 (n : Int)) := (hF.out 5 rfl).trans v5
      refine free_step rfl (by rfl) (fun K' hK => ?_)
      go_simp
      exact hK.out _ _ rfl (Below.refl _ _)
    | 6, ho, hF =>
      obtain rfl := Option.some.inj ho
      obtain ⟨v31, h31, s31⟩ := hF.dep 5 31 rfl rfl
      obtain rfl : v31 = .int .i64 (n : Int) := s31
      refine free_step rfl (by rfl) (fun K' hK => ?_)
      go_simp
      exact hK.out _ _ rfl (Below.refl _ _)
    | 7, ho, hF =>
      obtain rfl := Option.some.inj ho
      obtain ⟨v30, h30, s30⟩ := hF.dep 4 30 rfl rfl
      obtain rfl : v30 = .slice (some ⟨g, o, none⟩) nn cu := s30
      obtain ⟨v32, h32, s32⟩ := hF.dep 6 32 rfl rfl
      obtain rfl : v32 = .int .i64 (n1 : Int) := s32
      refine free_step rfl (by rfl) (fun K' hK => ?_)
      go_simp
      exact hK.out _ _ rfl (Below.refl _ _)
    | 8, ho, hF =>
      obtain rfl := Option.some.inj ho
      obtain ⟨v33, h33, s33⟩ := hF.dep 7 33 rfl rfl
      obtain rfl : v33 = .pointer (some ⟨g, o + n1, none⟩) := s33
      have gx := (HC.out u hbu).2
      refine free_step rfl (by rfl) (fun K' hK => ?_)
      go_simp
      exact hK.out _ _ rfl (Below.refl _ _)
    | 9, ho, hF =>
      obtain rfl := Option.some.inj ho
      have h6 : a.tmps[6]? = some (.int .u64 (top : Int)) := (hF.out 6 rfl).trans v6
      refine free_step rfl (by rfl) (fun K' hK => ?_)
      go_simp
      exact hK.out _ _ rfl (Below.refl _ _)
    | 10, ho, hF =>
      obtain rfl := Option.some.inj ho
      obtain ⟨v29, h29, s29⟩ := hF.dep 3 29 rfl rfl
      obtain rfl : v29 = .int .u64 (un : Int) := s29
      obtain ⟨v34, h34, s34⟩ := hF.dep 8 34 rfl rfl
      obtain rfl : v34 = .int .u64 (un1 : Int) := s34
      obtain ⟨v35, h35, s35⟩ := hF.dep 9 35 rfl rfl
      obtain rfl : v35 = .int .u64 (top : Int) := s35
      refine free_step rfl (by rfl) (fun K' hK => ?_)
      go_wp2_with fail
      refine (HD.out u).mono ?_
      rintro e u' ⟨rfl, hb⟩
      go_simp
      exact hK.out _ _ rfl hb
    | 11, ho, hF =>
      obtain rfl := Option.some.inj ho
      obtain ⟨v36, h36, s36⟩ := hF.dep 10 36 rfl rfl
      obtain rfl : v36 = .tuple #[.int .u64 (T : Int), .int .u64 (Rm : Int)] := s36
      refine free_step rfl (by rfl) (fun K' hK => ?_)
      go_simp
      exact hK.out _ _ rfl (Below.refl _ _)
    | 12, ho, hF =>
      obtain rfl := Option.some.inj ho
      obtain ⟨v25, h25, s25⟩ := hF.dep 11 25 rfl rfl
      obtain rfl : v25 = .tuple #[.int .u64 (T : Int), .int .u64 (Rm : Int)] := s25
      refine free_step rfl (by rfl) (fun K' hK => ?_)
      go_simp
      exact hK.out _ _ rfl (Below.refl _ _)
    | 13, ho, hF =>
      obtain rfl := Option.some.inj ho
      obtain ⟨v25, h25, s25⟩ := hF.dep 11 25 rfl rfl
      obtain rfl : v25 = .tuple #[.int .u64 (T : Int), .int .u64 (Rm : Int)] := s25
      refine free_step rfl (by rfl) (fun K' hK => ?_)
      go_simp
      exact hK.out _ _ rfl (Below.refl _ _)
    | 14, ho, hF =>
      obtain rfl := Option.some.inj ho
      obtain ⟨v37, h37, s37⟩ := hF.dep 12 37 rfl rfl
      obtain rfl : v37 = .int .u64 (T : Int) := s37
      refine free_step rfl (by rfl) (fun K' hK => ?_)
      go_simp
      exact hK.out _ _ rfl (Below.refl _ _)
    | 15, ho, hF =>
      obtain rfl := Option.some.inj ho
      obtain ⟨v38, h38, s38⟩ := hF.dep 13 38 rfl rfl
      obtain rfl : v38 = .int .u64 (Rm : Int) := s38
      refine free_step rfl (by rfl) (fun K' hK => ?_)
      go_simp
      exact hK.out _ _ rfl (Below.refl _ _)
    | n + 16, ho, _ => exact absurd (Array.getElem?_eq_some_iff.1 ho).1 (by show ¬ n + 16 < 16; omega)
  · intro vs u hS hbu
    exact hfin vs u hS hbu
/-- A guess: the digit, or one more. -/
def Guessed (w w' : World) (U D : Nat) (e : Ending) : Prop := ∃ T : Nat, e = .returned (.int .u64 (T : Int)) ∧ U / D ≤ T ∧ T ≤ U / D + 1 ∧ T < 18446744073709551616 ∧ Below w.heap.size w w'
theorem guessed_mk {w w' : World} {U D T : Nat} (h : U / D ≤ T ∧ T ≤ U / D + 1) (hT : T < 18446744073709551616) (hb : Below w.heap.size w w') : Guessed w w' U D (.returned (.int .u64 (T : Int))) := ⟨T, rfl, h.1, h.2, hT, hb⟩
set_option maxHeartbeats 8000000 in
theorem nGuess_any (g o cu n cv : Nat) (yv : Option Addr) (P V : List Nat) (w : World) (hP : IsN .u64 w (.slice (some ⟨g, o, none⟩) (n + 1) cu) P) (hV : IsN .u64 w (.slice yv n cv) V) (hAP : AllW P) (hAV : AllW V) (hPl : P.length = n + 1) (hVl : V.length = n) (hn : 1 ≤ n) (hnl : n ≤ 100000) (htop : ∀ x, V[n - 1]? = some x → x ≠ 0) (hlt : numW P < 18446744073709551616 * numW V) :
    Calls Tryd.prog 66 #[.slice (some ⟨g, o, none⟩) (n + 1) cu, .slice yv n cv] w fun e w' => Guessed w w' (numW P) (numW V) e := by
  obtain ⟨n1, hn1⟩ : ∃ a, n - 1 = a := ⟨_, rfl⟩
  obtain ⟨nn, hnn⟩ : ∃ a, n + 1 = a := ⟨_, rfl⟩
  obtain ⟨top, htp⟩ : ∃ x, V[n1]? = some x := ⟨_, List.getElem?_eq_getElem (by omega)⟩
  obtain ⟨un, hun⟩ : ∃ x, P[n]? = some x := ⟨_, List.getElem?_eq_getElem (by omega)⟩
  obtain ⟨un1, hun1⟩ : ∃ x, P[n1]? = some x := ⟨_, List.getElem?_eq_getElem (by omega)⟩
  have htop0 : 0 < top := Nat.pos_of_ne_zero (htop top (by rw [hn1]; exact htp))
  have htopB := hAV.at htp
  have hunB := hAP.at hun
  have hun1B := hAP.at hun1
  obtain ⟨hvv, bv, ov, rfl, _, _⟩ := IsN.cellAt hV htp
  clear hvv
  rw [hnn] at hP hPl ⊢
  obtain ⟨U, hU⟩ : ∃ a, numW P = a := ⟨_, rfl⟩
  obtain ⟨D, hD⟩ : ∃ a, numW V = a := ⟨_, rfl⟩
  obtain ⟨W, hW⟩ : ∃ a, un * 18446744073709551616 + un1 = a := ⟨_, rfl⟩
  have hU1 : U = W * 18446744073709551616 ^ n1 + pv P 0 n1 := by
    rw [← hU, ← pv_full hPl, ← hW, ← hnn, show n + 1 = n1 + 2 by omega]
    exact top_two hun1 (by rw [show n1 + 1 = n by omega]; exact hun)
  have hD1 : D = top * 18446744073709551616 ^ n1 + pv V 0 n1 := by
    rw [← hD, ← pv_full hVl, show n = n1 + 1 by omega]
    exact top_one htp
  have hlo1 : pv P 0 n1 < 18446744073709551616 ^ n1 := pv_lt hAP _ _
  have hlo0 : pv V 0 n1 < 18446744073709551616 ^ n1 := pv_lt hAV _ _
  rw [hU, hD] at hlt ⊢
  have hD0 : 0 < D := by omega
  have hut : un ≤ top := guess_top hU1 hD1 hlo0 hW.symm hlt
  have HC := show Hid (∀ u, Below w.heap.size w u → u.cell? ⟨g, o + n, none⟩ = some (.int .u64 (un : Int)) ∧ u.cell? ⟨g, o + n1, none⟩ = some (.int .u64 (un1 : Int)) ∧ u.cell? ⟨bv, ov + n1, none⟩ = some (.int .u64 (top : Int))) from fun u hb => ⟨IsN.cellIn (hP.later hb) hun, IsN.cellIn (hP.later hb) hun1, IsN.cellIn (hV.later hb) htp⟩
  obtain ⟨gun, gun1, gtop⟩ := HC.out w (Below.refl _ _)
  have in1 : (n : Int) < (nn : Int) := by omega
  have in2 : (n1 : Int) < (nn : Int) := by omega
  have in3 : (n1 : Int) < (n : Int) := by omega
  have hn1I : (n : Int) - 1 = (n1 : Int) := by omega
  have hn1w : IntKind.i64.wrap (n1 : Int) = (n1 : Int) := by rw [IntKind.wrap_i64]; omega
  have hTD : un < top → Hid (∀ u, Calls Tryd.prog 81 #[.int .u64 (un : Int), .int .u64 (un1 : Int), .int .u64 (top : Int)] u fun e u' => e = .returned (.tuple #[.int .u64 ((W / top : Nat) : Int), .int .u64 ((W % top : Nat) : Int)]) ∧ Below u.heap.size u u') := fun h u => by
    have := bDiv_any un un1 top u h hun1B htopB
    rw [hW] at this
    exact this
  have hTl : U / D ≤ W / top := guess_start hU1 hD1 hlo1 htop0
  obtain ⟨T0, hT0⟩ : ∃ a, W / top = a := ⟨_, rfl⟩
  obtain ⟨Rm0, hRm0⟩ : ∃ a, W % top = a := ⟨_, rfl⟩
  have hT0e : T0 * top + Rm0 = W := by rw [← hT0, ← hRm0, Nat.mul_comm, Nat.div_add_mod]
  have hT0l : U / D ≤ T0 := by rw [← hT0]; exact hTl
  have hRm0B : Rm0 < 18446744073709551616 := by rw [← hRm0]; have := Nat.mod_lt W htop0; omega
  have hT0B : un < top → T0 < 18446744073709551616 := fun h => by
    rw [← hT0, Nat.div_lt_iff_lt_mul htop0, ← hW]
    have := Nat.mul_le_mul_right 18446744073709551616 (show un + 1 ≤ top from h)
    rw [Nat.add_mul, Nat.one_mul, Nat.mul_comm top] at this
    omega
  rw [hT0, hRm0] at hTD
  by_cases hn2 : n = 1
  · have hU1' := hU1
    have hD1' := hD1
    rw [show n1 = 0 by omega, Nat.pow_zero, Nat.mul_one, pv_zero, Nat.add_zero] at hU1' hD1'
    have hult : un < top := by
      have h1 : W < 18446744073709551616 * top := by rw [← hU1', ← hD1']; exact hlt
      rw [← hW] at h1
      apply Classical.byContradiction
      intro hc
      have := Nat.mul_le_mul_right 18446744073709551616 (show top ≤ un by omega)
      rw [Nat.mul_comm top] at this
      omega
    have HFIN := show Hid (U / D ≤ T0 ∧ T0 ≤ U / D + 1) from ⟨hT0l, by rw [hU1', hD1', hT0]; omega⟩
    have hul2 : (un : Int) < (top : Int) := by omega
    have hn12 : ¬ (1 : Int) < (n : Int) := by omega
    have hTD' := hTD hult
    have hT0B' := hT0B hult
    have HCd := show Hid (∀ u, Below w.drew.heap.size w.drew u → u.cell? ⟨g, o + n, none⟩ = some (.int .u64 (un : Int)) ∧ u.cell? ⟨g, o + n1, none⟩ = some (.int .u64 (un1 : Int))) from fun u hb => ⟨(HC.out u (((Below.refl w.heap.size w).drew).trans hb)).1, (HC.out u (((Below.refl w.heap.size w).drew).trans hb)).2.1⟩
    clear hU1 hD1 hU1' hD1' hU hD hW hT0 hRm0 hlo1 hlo0 hn2 hn1 hnn hPl hVl htop hun hun1 htp hTl hT0l hT0e hlt
    go_enter Tryd.func66, Tryd.ntmps66
    go_wp2_with fail
    refine semGuR un un1 top T0 Rm0 n n1 g o nn cu rfl rfl rfl rfl in1 in2 hn1I hn1w HCd hTD' ?_
    intro vs u hS hbu
    have e14 : vs 14 = .int .u64 (T0 : Int) := hS 14 7 rfl
    have e15 : vs 15 = .int .u64 (Rm0 : Int) := hS 15 8 rfl
    unfold semGuO
    simp only [putFrom, Act.put, List.setIfInBounds_toArray, List.set_cons_succ, List.set_cons_zero, Nat.reduceAdd]
    rw [e14, e15]
    clear hS e14 e15
    generalize vs 0 = qq0
    generalize vs 1 = qq1
    generalize vs 2 = qq2
    generalize vs 3 = qq3
    generalize vs 4 = qq4
    generalize vs 5 = qq5
    generalize vs 6 = qq6
    generalize vs 7 = qq7
    generalize vs 8 = qq8
    generalize vs 9 = qq9
    generalize vs 10 = qq10
    generalize vs 11 = qq11
    generalize vs 12 = qq12
    generalize vs 13 = qq13
    have HB1 := show Hid (Below w.heap.size w u) from ((Below.refl w.heap.size w).drew).trans hbu
    clear hbu
    go_wp2_with fail
    go_loopw [7] (fun a wr => a = .int .u64 (T0 : Int) ∧ wr = u) (fun _ _ => 0)
    case atStart => exact ⟨rfl, rfl⟩
    case round =>
      obtain ⟨rfl, rfl⟩ := hrel
      go_wp2_with fail
      go_ret
      exact guessed_mk HFIN.out hT0B' HB1.out
  · obtain ⟨n2, hn2e⟩ : ∃ a, n - 2 = a := ⟨_, rfl⟩
    obtain ⟨v2, hv2⟩ : ∃ x, V[n2]? = some x := ⟨_, List.getElem?_eq_getElem (by omega)⟩
    obtain ⟨u2, hu2⟩ : ∃ x, P[n2]? = some x := ⟨_, List.getElem?_eq_getElem (by omega)⟩
    have hv2B := hAV.at hv2
    have hu2B := hAP.at hu2
    have HU3 := show Hid (U = (W * 18446744073709551616 + u2) * 18446744073709551616 ^ n2 + pv P 0 n2) from by
      unfold Hid
      rw [← hU, ← pv_full hPl, ← hW, ← hnn, show n + 1 = n2 + 3 by omega]
      exact top_three hu2 (by rw [show n2 + 1 = n1 by omega]; exact hun1) (by rw [show n2 + 2 = n by omega]; exact hun)
    have HD3 := show Hid (D = (top * 18446744073709551616 + v2) * 18446744073709551616 ^ n2 + pv V 0 n2) from by
      unfold Hid
      rw [← hD, ← pv_full hVl, show n = n2 + 2 by omega]
      exact top_two hv2 (by rw [show n2 + 1 = n1 by omega]; exact htp)
    have hlo3 : pv P 0 n2 < 18446744073709551616 ^ n2 := pv_lt hAP _ _
    have hlo2 : pv V 0 n2 < 18446744073709551616 ^ n2 := pv_lt hAV _ _
    have HC2 := show Hid (∀ u, Below w.heap.size w u → u.cell? ⟨bv, ov + n2, none⟩ = some (.int .u64 (v2 : Int)) ∧ u.cell? ⟨g, o + n2, none⟩ = some (.int .u64 (u2 : Int))) from fun u hb => ⟨IsN.cellIn (hV.later hb) hv2, IsN.cellIn (hP.later hb) hu2⟩
    have in4 : (n2 : Int) < (nn : Int) := by omega
    have in5 : (n2 : Int) < (n : Int) := by omega
    have hn2I : (n : Int) - 2 = (n2 : Int) := by omega
    have hn12 : (1 : Int) < (n : Int) := by omega
    by_cases hult : un < top
    · have hul2 : (un : Int) < (top : Int) := by omega
      have hTD' := hTD hult
      have hT0B := hT0B hult
      have HCd := show Hid (∀ u, Below w.drew.heap.size w.drew u → u.cell? ⟨g, o + n, none⟩ = some (.int .u64 (un : Int)) ∧ u.cell? ⟨g, o + n1, none⟩ = some (.int .u64 (un1 : Int))) from fun u hb => ⟨(HC.out u (((Below.refl w.heap.size w).drew).trans hb)).1, (HC.out u (((Below.refl w.heap.size w).drew).trans hb)).2.1⟩
      clear hU1 hD1 hU hD hW hT0 hRm0 hlo1 hlo0 hn2 hn1 hnn hPl hVl htop hun hun1 htp hTl hlt hv2 hu2 hn2e hTD
      go_enter Tryd.func66, Tryd.ntmps66
      go_wp2_with fail
      refine semGuR un un1 top T0 Rm0 n n1 g o nn cu rfl rfl rfl rfl in1 in2 hn1I hn1w HCd hTD' ?_
      intro vs u hS hbu
      have e14 : vs 14 = .int .u64 (T0 : Int) := hS 14 7 rfl
      have e15 : vs 15 = .int .u64 (Rm0 : Int) := hS 15 8 rfl
      unfold semGuO
      simp only [putFrom, Act.put, List.setIfInBounds_toArray, List.set_cons_succ, List.set_cons_zero, Nat.reduceAdd]
      rw [e14, e15]
      clear hS e14 e15
      generalize vs 0 = qq0
      generalize vs 1 = qq1
      generalize vs 2 = qq2
      generalize vs 3 = qq3
      generalize vs 4 = qq4
      generalize vs 5 = qq5
      generalize vs 6 = qq6
      generalize vs 7 = qq7
      generalize vs 8 = qq8
      generalize vs 9 = qq9
      generalize vs 10 = qq10
      generalize vs 11 = qq11
      generalize vs 12 = qq12
      generalize vs 13 = qq13
      have HB1 := show Hid (Below w.heap.size w u) from ((Below.refl w.heap.size w).drew).trans hbu
      clear hbu HCd hTD'
      go_wp2_with fail
      go_loopw [7, 8, 9] (fun a b c wr => ∃ T r ov : Nat, a = .int .u64 (T : Int) ∧ b = .int .u64 (r : Int) ∧ c = .int .u64 (ov : Int) ∧ T < 18446744073709551616 ∧ r < 18446744073709551616 ∧ ov ≤ 1 ∧ Hid (T * top + (ov * 18446744073709551616 + r) = W ∧ U / D ≤ T) ∧ Hid (Below w.heap.size w wr)) (fun a _ _ _ => (intOf a).toNat)
      case atStart => exact ⟨T0, Rm0, 0, rfl, rfl, rfl, hT0B, hRm0B, by omega, by rw [Nat.zero_mul, Nat.zero_add]; exact ⟨hT0e, hT0l⟩, HB1.out⟩
      case round =>
        obtain ⟨T, r, ov, rfl, rfl, rfl, hT, hr, hov, hI, hb⟩ := hrel
        by_cases hov0 : ov = 0
        · subst hov0
          have hov2 : ((0 : Int) == 0) = true := rfl
          have hIe : T * top + r = W := by have := hI.out.1; omega
          obtain ⟨z, hz⟩ : ∃ a, T * v2 = a := ⟨_, rfl⟩
          have hzl := mul_lt_word hT hv2B
          have hM := Tryd.bits_Mul64 T v2 hT hv2B
          rw [hz] at hM hzl
          obtain ⟨h6, hh6⟩ : ∃ a, z / 18446744073709551616 = a := ⟨_, rfl⟩
          obtain ⟨l6, hl6⟩ : ∃ a, z % 18446744073709551616 = a := ⟨_, rfl⟩
          rw [hh6, hl6] at hM
          obtain ⟨gv2, gu2⟩ := HC2.out wr hb.out
          have key : h6 < r ∨ (h6 = r ∧ l6 ≤ u2) ∨ (h6 = r ∧ u2 < l6) ∨ r < h6 := by omega
          have stop : z ≤ r * 18446744073709551616 + u2 → Hid (U / D ≤ T ∧ T ≤ U / D + 1) := fun h => ⟨hI.out.2, guess_end HU3.out HD3.out hlo2 hD0 hIe (by rw [hz]; exact h) htop0 hT⟩
          have more : r * 18446744073709551616 + u2 < z → U / D < T := fun h => guess_mend HU3.out HD3.out hlo3 hIe (by rw [hz]; exact h)
          have hA1 := add64_run r top 0 hr htopB (by omega)
          obtain ⟨r', hr'⟩ : ∃ a, (r + top) % 18446744073709551616 = a := ⟨_, rfl⟩
          obtain ⟨o', ho'⟩ : ∃ a, (r + top) / 18446744073709551616 = a := ⟨_, rfl⟩
          rw [Nat.add_zero, hr', ho'] at hA1
          have hA1' : ∀ u, (callFunc 61 #[.int .u64 (r : Int), .int .u64 (top : Int), .int .u64 0]).run Tryd.prog u = .ok (.value (.tuple #[.int .u64 (r' : Int), .int .u64 (o' : Int)])) u := hA1
          clear hA1
          rcases key with hk | hk | hk | hk
          · have hk2 : (h6 : Int) < (r : Int) := by omega
            have HS := stop (by omega)
            clear hh6 hl6 hr' ho' hz stop more hIe hI
            go_wp2_with fail
            refine (hM _).mono ?_
            rintro e w5 ⟨rfl, rfl⟩
            clear hM
            go_wp2_with fail
            go_ret
            exact guessed_mk HS.out hT (by exact hb.out)
          · have hk2 : ¬ (h6 : Int) < (r : Int) := by omega
            have hk3 : ((h6 : Int) == (r : Int)) = true := by simp; omega
            have hk4 : (l6 : Int) ≤ (u2 : Int) := by omega
            have HS := stop (by omega)
            clear hh6 hl6 hr' ho' hz stop more hIe hI hk
            go_wp2_with fail
            refine (hM _).mono ?_
            rintro e w5 ⟨rfl, rfl⟩
            clear hM
            go_wp2_with fail
            go_ret
            exact guessed_mk HS.out hT (by exact hb.out)
          · have hk2 : ¬ (h6 : Int) < (r : Int) := by omega
            have hk3 : ((h6 : Int) == (r : Int)) = true := by simp; omega
            have hk4 : ¬ (l6 : Int) ≤ (u2 : Int) := by omega
            have hTlt := more (by omega)
            have hT0 : 0 < T := Nat.lt_of_le_of_lt (Nat.zero_le _) hTlt
            obtain ⟨T', hT'⟩ : ∃ a, T - 1 = a := ⟨_, rfl⟩
            have hT'I : (T : Int) - 1 = (T' : Int) := by omega
            have wT' : IntKind.u64.wrap (T' : Int) = (T' : Int) := by rw [IntKind.wrap_u64]; omega
            have HN := show Hid (T' * top + (o' * 18446744073709551616 + r') = W ∧ U / D ≤ T') from by
              refine ⟨?_, by rw [← hT']; exact Nat.le_sub_one_of_lt hTlt⟩
              have h2 : 1 * top ≤ T * top := Nat.mul_le_mul_right _ hT0
              rw [← hT', Nat.sub_mul, Nat.one_mul]
              omega
            have hr'B : r' < 18446744073709551616 := by omega
            have ho'B : o' ≤ 1 := by omega
            have hTT : T' < T := by omega
            clear hh6 hl6 hr' ho' hz stop more hIe hI hTlt hT'
            go_wp2_with fail
            refine (hM _).mono ?_
            rintro e w5 ⟨rfl, rfl⟩
            clear hM
            go_wp2_with fail
            go_roundw
            case rel => exact ⟨T', r', o', rfl, rfl, rfl, by omega, hr'B, ho'B, HN.out, hb.out⟩
            case measure => simp [intOf]; omega
          · have hk2 : ¬ (h6 : Int) < (r : Int) := by omega
            have hk3 : ((h6 : Int) == (r : Int)) = false := by simp; omega
            have hTlt := more (by omega)
            have hT0 : 0 < T := Nat.lt_of_le_of_lt (Nat.zero_le _) hTlt
            obtain ⟨T', hT'⟩ : ∃ a, T - 1 = a := ⟨_, rfl⟩
            have hT'I : (T : Int) - 1 = (T' : Int) := by omega
            have wT' : IntKind.u64.wrap (T' : Int) = (T' : Int) := by rw [IntKind.wrap_u64]; omega
            have HN := show Hid (T' * top + (o' * 18446744073709551616 + r') = W ∧ U / D ≤ T') from by
              refine ⟨?_, by rw [← hT']; exact Nat.le_sub_one_of_lt hTlt⟩
              have h2 : 1 * top ≤ T * top := Nat.mul_le_mul_right _ hT0
              rw [← hT', Nat.sub_mul, Nat.one_mul]
              omega
            have hr'B : r' < 18446744073709551616 := by omega
            have ho'B : o' ≤ 1 := by omega
            have hTT : T' < T := by omega
            clear hh6 hl6 hr' ho' hz stop more hIe hI hTlt hT'
            go_wp2_with fail
            refine (hM _).mono ?_
            rintro e w5 ⟨rfl, rfl⟩
            clear hM
            go_wp2_with fail
            go_roundw
            case rel => exact ⟨T', r', o', rfl, rfl, rfl, by omega, hr'B, ho'B, HN.out, hb.out⟩
            case measure => simp [intOf]; omega
        · obtain rfl : ov = 1 := by omega
          have hov2 : ((1 : Int) == 0) = false := rfl
          have HS := show Hid (U / D ≤ T ∧ T ≤ U / D + 1) from ⟨hI.out.2, guess_end HU3.out HD3.out hlo2 hD0 (r := 18446744073709551616 + r) (by have := hI.out.1; omega) (guess_over hT hv2B) htop0 hT⟩
          clear hI
          go_wp2_with fail
          go_ret
          exact guessed_mk HS.out hT hb.out
    have hul2 : ¬ (un : Int) < (top : Int) := by omega
    have hueq : un = top := by omega
    have hA0 := add64_run un1 top 0 hun1B htopB (by omega)
    obtain ⟨r1, hr1⟩ : ∃ a, (un1 + top) % 18446744073709551616 = a := ⟨_, rfl⟩
    obtain ⟨o1, ho1⟩ : ∃ a, (un1 + top) / 18446744073709551616 = a := ⟨_, rfl⟩
    rw [Nat.add_zero, hr1, ho1] at hA0
    have hA0' : ∀ u, (callFunc 61 #[.int .u64 (un1 : Int), .int .u64 (top : Int), .int .u64 0]).run Tryd.prog u = .ok (.value (.tuple #[.int .u64 (r1 : Int), .int .u64 (o1 : Int)])) u := hA0
    have hr1B : r1 < 18446744073709551616 := by omega
    have ho1B : o1 ≤ 1 := by omega
    have HN0 := show Hid (18446744073709551615 * top + (o1 * 18446744073709551616 + r1) = W ∧ U / D ≤ 18446744073709551615) from by
      refine ⟨by rw [← hW, hueq]; omega, ?_⟩
      have : U / D < 18446744073709551616 := by rw [Nat.div_lt_iff_lt_mul hD0]; exact hlt
      omega
    clear hU1 hD1 hU hD hW hT0 hRm0 hlo1 hlo0 hn2 hn1 hnn hPl hVl htop hun hun1 htp hTl hlt hv2 hu2 hn2e hTD hT0B hA0 hr1 ho1 hueq hT0e hT0l hRm0B
    go_enter Tryd.func66, Tryd.ntmps66
    go_wp2_with fail
    go_loopw [7, 8, 9] (fun a b c wr => ∃ T r ov : Nat, a = .int .u64 (T : Int) ∧ b = .int .u64 (r : Int) ∧ c = .int .u64 (ov : Int) ∧ T < 18446744073709551616 ∧ r < 18446744073709551616 ∧ ov ≤ 1 ∧ Hid (T * top + (ov * 18446744073709551616 + r) = W ∧ U / D ≤ T) ∧ Hid (Below w.heap.size w wr)) (fun a _ _ _ => (intOf a).toNat)
    case atStart => exact ⟨18446744073709551615, r1, o1, rfl, rfl, rfl, by omega, hr1B, ho1B, HN0.out, Below.refl _ _⟩
    case round =>
      obtain ⟨T, r, ov, rfl, rfl, rfl, hT, hr, hov, hI, hb⟩ := hrel
      by_cases hov0 : ov = 0
      · subst hov0
        have hov2 : ((0 : Int) == 0) = true := rfl
        have hIe : T * top + r = W := by have := hI.out.1; omega
        obtain ⟨z, hz⟩ : ∃ a, T * v2 = a := ⟨_, rfl⟩
        have hzl := mul_lt_word hT hv2B
        have hM := Tryd.bits_Mul64 T v2 hT hv2B
        rw [hz] at hM hzl
        obtain ⟨h6, hh6⟩ : ∃ a, z / 18446744073709551616 = a := ⟨_, rfl⟩
        obtain ⟨l6, hl6⟩ : ∃ a, z % 18446744073709551616 = a := ⟨_, rfl⟩
        rw [hh6, hl6] at hM
        obtain ⟨gv2, gu2⟩ := HC2.out wr hb.out
        have key : h6 < r ∨ (h6 = r ∧ l6 ≤ u2) ∨ (h6 = r ∧ u2 < l6) ∨ r < h6 := by omega
        have stop : z ≤ r * 18446744073709551616 + u2 → Hid (U / D ≤ T ∧ T ≤ U / D + 1) := fun h => ⟨hI.out.2, guess_end HU3.out HD3.out hlo2 hD0 hIe (by rw [hz]; exact h) htop0 hT⟩
        have more : r * 18446744073709551616 + u2 < z → U / D < T := fun h => guess_mend HU3.out HD3.out hlo3 hIe (by rw [hz]; exact h)
        have hA1 := add64_run r top 0 hr htopB (by omega)
        obtain ⟨r', hr'⟩ : ∃ a, (r + top) % 18446744073709551616 = a := ⟨_, rfl⟩
        obtain ⟨o', ho'⟩ : ∃ a, (r + top) / 18446744073709551616 = a := ⟨_, rfl⟩
        rw [Nat.add_zero, hr', ho'] at hA1
        have hA1' : ∀ u, (callFunc 61 #[.int .u64 (r : Int), .int .u64 (top : Int), .int .u64 0]).run Tryd.prog u = .ok (.value (.tuple #[.int .u64 (r' : Int), .int .u64 (o' : Int)])) u := hA1
        clear hA1
        rcases key with hk | hk | hk | hk
        · have hk2 : (h6 : Int) < (r : Int) := by omega
          have HS := stop (by omega)
          clear hh6 hl6 hr' ho' hz stop more hIe hI
          go_wp2_with fail
          refine (hM _).mono ?_
          rintro e w5 ⟨rfl, rfl⟩
          clear hM
          go_wp2_with fail
          go_ret
          exact guessed_mk HS.out hT (by exact hb.out)
        · have hk2 : ¬ (h6 : Int) < (r : Int) := by omega
          have hk3 : ((h6 : Int) == (r : Int)) = true := by simp; omega
          have hk4 : (l6 : Int) ≤ (u2 : Int) := by omega
          have HS := stop (by omega)
          clear hh6 hl6 hr' ho' hz stop more hIe hI hk
          go_wp2_with fail
          refine (hM _).mono ?_
          rintro e w5 ⟨rfl, rfl⟩
          clear hM
          go_wp2_with fail
          go_ret
          exact guessed_mk HS.out hT (by exact hb.out)
        · have hk2 : ¬ (h6 : Int) < (r : Int) := by omega
          have hk3 : ((h6 : Int) == (r : Int)) = true := by simp; omega
          have hk4 : ¬ (l6 : Int) ≤ (u2 : Int) := by omega
          have hTlt := more (by omega)
          have hT0 : 0 < T := Nat.lt_of_le_of_lt (Nat.zero_le _) hTlt
          obtain ⟨T', hT'⟩ : ∃ a, T - 1 = a := ⟨_, rfl⟩
          have hT'I : (T : Int) - 1 = (T' : Int) := by omega
          have wT' : IntKind.u64.wrap (T' : Int) = (T' : Int) := by rw [IntKind.wrap_u64]; omega
          have HN := show Hid (T' * top + (o' * 18446744073709551616 + r') = W ∧ U / D ≤ T') from by
            refine ⟨?_, by rw [← hT']; exact Nat.le_sub_one_of_lt hTlt⟩
            have h2 : 1 * top ≤ T * top := Nat.mul_le_mul_right _ hT0
            rw [← hT', Nat.sub_mul, Nat.one_mul]
            omega
          have hr'B : r' < 18446744073709551616 := by omega
          have ho'B : o' ≤ 1 := by omega
          have hTT : T' < T := by omega
          clear hh6 hl6 hr' ho' hz stop more hIe hI hTlt hT'
          go_wp2_with fail
          refine (hM _).mono ?_
          rintro e w5 ⟨rfl, rfl⟩
          clear hM
          go_wp2_with fail
          go_roundw
          case rel => exact ⟨T', r', o', rfl, rfl, rfl, by omega, hr'B, ho'B, HN.out, hb.out⟩
          case measure => simp [intOf]; omega
        · have hk2 : ¬ (h6 : Int) < (r : Int) := by omega
          have hk3 : ((h6 : Int) == (r : Int)) = false := by simp; omega
          have hTlt := more (by omega)
          have hT0 : 0 < T := Nat.lt_of_le_of_lt (Nat.zero_le _) hTlt
          obtain ⟨T', hT'⟩ : ∃ a, T - 1 = a := ⟨_, rfl⟩
          have hT'I : (T : Int) - 1 = (T' : Int) := by omega
          have wT' : IntKind.u64.wrap (T' : Int) = (T' : Int) := by rw [IntKind.wrap_u64]; omega
          have HN := show Hid (T' * top + (o' * 18446744073709551616 + r') = W ∧ U / D ≤ T') from by
            refine ⟨?_, by rw [← hT']; exact Nat.le_sub_one_of_lt hTlt⟩
            have h2 : 1 * top ≤ T * top := Nat.mul_le_mul_right _ hT0
            rw [← hT', Nat.sub_mul, Nat.one_mul]
            omega
          have hr'B : r' < 18446744073709551616 := by omega
          have ho'B : o' ≤ 1 := by omega
          have hTT : T' < T := by omega
          clear hh6 hl6 hr' ho' hz stop more hIe hI hTlt hT'
          go_wp2_with fail
          refine (hM _).mono ?_
          rintro e w5 ⟨rfl, rfl⟩
          clear hM
          go_wp2_with fail
          go_roundw
          case rel => exact ⟨T', r', o', rfl, rfl, rfl, by omega, hr'B, ho'B, HN.out, hb.out⟩
          case measure => simp [intOf]; omega
      · obtain rfl : ov = 1 := by omega
        have hov2 : ((1 : Int) == 0) = false := rfl
        have HS := show Hid (U / D ≤ T ∧ T ≤ U / D + 1) from ⟨hI.out.2, guess_end HU3.out HD3.out hlo2 hD0 (r := 18446744073709551616 + r) (by have := hI.out.1; omega) (guess_over hT hv2B) htop0 hT⟩
        clear hI
        go_wp2_with fail
        go_ret
        exact guessed_mk HS.out hT hb.out
end Go.Proofs.YtpcmpeeflnlkpaaDoor
