
/-
  The document's Sum: one of its regions that draw.
-/
import Derived.Test.YtpcmpeeflnlkpaaGreatDoorVWordsEtc
namespace Go.Proofs.YtpcmpeeflnlkpaaGreatDoor
open Go.RowKit Ch
set_option maxRecDepth 100000
def semWO : Array Oper := #[{ dst := some 117, op := Go.Op.move (Go.Operand.tmp 11), type := 37, pos := "ref.go:152", after := #[], guard := none }, { dst := some 118, op := Go.Op.move (Go.Operand.tmp 15), type := 63, pos := "ref.go:152", after := #[], guard := none }, { dst := some 119, op := Go.Op.call { callee := Go.Callee.value (Go.Operand.func 32), args := #[Go.Operand.tmp 118, Go.Operand.const (Go.Value.int Go.IntKind.i64 17)], argTypes := #[63, 3] }, type := 63, pos := "ref.go:152", after := #[{ on := 1, ground := Go.Ground.data }], guard := none }, { dst := some 120, op := Go.Op.move (Go.Operand.tmp 15), type := 63, pos := "ref.go:152", after := #[], guard := none }, { dst := some 121, op := Go.Op.call { callee := Go.Callee.value (Go.Operand.func 32), args := #[Go.Operand.tmp 120, Go.Operand.const (Go.Value.int Go.IntKind.i64 19)], argTypes := #[63, 3] }, type := 63, pos := "ref.go:152", after := #[{ on := 3, ground := Go.Ground.data }, { on := 2, ground := Go.Ground.chain }], guard := none }, { dst := some 122, op := Go.Op.binOp Go.BinOp.xor 63 (Go.Operand.tmp 119) (Go.Operand.tmp 121) 63, type := 63, pos := "ref.go:152", after := #[{ on := 2, ground := Go.Ground.data }, { on := 4, ground := Go.Ground.data }], guard := none }, { dst := some 123, op := Go.Op.move (Go.Operand.tmp 15), type := 63, pos := "ref.go:152", after := #[], guard := none }, { dst := some 124, op := Go.Op.call { callee := Go.Callee.value (Go.Operand.func 33), args := #[Go.Operand.tmp 123, Go.Operand.const (Go.Value.int Go.IntKind.i64 10)], argTypes := #[63, 3] }, type := 63, pos := "ref.go:152", after := #[{ on := 6, ground := Go.Ground.data }, { on := 4, ground := Go.Ground.chain }], guard := none }, { dst := some 125, op := Go.Op.binOp Go.BinOp.xor 63 (Go.Operand.tmp 122) (Go.Operand.tmp 124) 63, type := 63, pos := "ref.go:152", after := #[{ on := 5, ground := Go.Ground.data }, { on := 7, ground := Go.Ground.data }], guard := none }, { dst := some 126, op := Go.Op.move (Go.Operand.tmp 11), type := 37, pos := "ref.go:152", after := #[], guard := none }, { dst := some 127, op := Go.Op.move (Go.Operand.tmp 12), type := 3, pos := "ref.go:152", after := #[], guard := none }, { dst := some 128, op := Go.Op.binOp Go.BinOp.sub 3 (Go.Operand.tmp 127) (Go.Operand.const (Go.Value.int Go.IntKind.i64 7)) 3, type := 3, pos := "ref.go:152", after := #[{ on := 10, ground := Go.Ground.data }], guard := none }, { dst := some 129, op := Go.Op.indexAddr 37 (Go.Operand.tmp 126) (Go.Operand.tmp 128), type := 0, pos := "ref.go:152", after := #[{ on := 9, ground := Go.Ground.data }, { on := 11, ground := Go.Ground.data }], guard := none }, { dst := some 130, op := Go.Op.load 63 (Go.Operand.tmp 129), type := 63, pos := "ref.go:152", after := #[{ on := 12, ground := Go.Ground.data }], guard := none }, { dst := some 131, op := Go.Op.binOp Go.BinOp.add 63 (Go.Operand.tmp 125) (Go.Operand.tmp 130) 63, type := 63, pos := "ref.go:152", after := #[{ on := 8, ground := Go.Ground.data }, { on := 13, ground := Go.Ground.data }], guard := none }, { dst := some 132, op := Go.Op.move (Go.Operand.tmp 14), type := 63, pos := "ref.go:152", after := #[], guard := none }, { dst := some 133, op := Go.Op.call { callee := Go.Callee.value (Go.Operand.func 32), args := #[Go.Operand.tmp 132, Go.Operand.const (Go.Value.int Go.IntKind.i64 7)], argTypes := #[63, 3] }, type := 63, pos := "ref.go:152", after := #[{ on := 15, ground := Go.Ground.data }, { on := 7, ground := Go.Ground.chain }], guard := none }, { dst := some 134, op := Go.Op.move (Go.Operand.tmp 14), type := 63, pos := "ref.go:152", after := #[], guard := none }, { dst := some 135, op := Go.Op.call { callee := Go.Callee.value (Go.Operand.func 32), args := #[Go.Operand.tmp 134, Go.Operand.const (Go.Value.int Go.IntKind.i64 18)], argTypes := #[63, 3] }, type := 63, pos := "ref.go:152", after := #[{ on := 17, ground := Go.Ground.data }, { on := 16, ground := Go.Ground.chain }], guard := none }, { dst := some 136, op := Go.Op.binOp Go.BinOp.xor 63 (Go.Operand.tmp 133) (Go.Operand.tmp 135) 63, type := 63, pos := "ref.go:152", after := #[{ on := 16, ground := Go.Ground.data }, { on := 18, ground := Go.Ground.data }], guard := none }, { dst := some 137, op := Go.Op.move (Go.Operand.tmp 14), type := 63, pos := "ref.go:152", after := #[], guard := none }, { dst := some 138, op := Go.Op.call { callee := Go.Callee.value (Go.Operand.func 33), args := #[Go.Operand.tmp 137, Go.Operand.const (Go.Value.int Go.IntKind.i64 3)], argTypes := #[63, 3] }, type := 63, pos := "ref.go:152", after := #[{ on := 20, ground := Go.Ground.data }, { on := 18, ground := Go.Ground.chain }], guard := none }, { dst := some 139, op := Go.Op.binOp Go.BinOp.xor 63 (Go.Operand.tmp 136) (Go.Operand.tmp 138) 63, type := 63, pos := "ref.go:152", after := #[{ on := 19, ground := Go.Ground.data }, { on := 21, ground := Go.Ground.data }], guard := none }, { dst := some 140, op := Go.Op.binOp Go.BinOp.add 63 (Go.Operand.tmp 131) (Go.Operand.tmp 139) 63, type := 63, pos := "ref.go:152", after := #[{ on := 14, ground := Go.Ground.data }, { on := 22, ground := Go.Ground.data }], guard := none }, { dst := some 141, op := Go.Op.move (Go.Operand.tmp 11), type := 37, pos := "ref.go:152", after := #[], guard := none }, { dst := some 142, op := Go.Op.move (Go.Operand.tmp 12), type := 3, pos := "ref.go:152", after := #[], guard := none }, { dst := some 143, op := Go.Op.binOp Go.BinOp.sub 3 (Go.Operand.tmp 142) (Go.Operand.const (Go.Value.int Go.IntKind.i64 16)) 3, type := 3, pos := "ref.go:152", after := #[{ on := 25, ground := Go.Ground.data }], guard := none }, { dst := some 144, op := Go.Op.indexAddr 37 (Go.Operand.tmp 141) (Go.Operand.tmp 143), type := 0, pos := "ref.go:152", after := #[{ on := 24, ground := Go.Ground.data }, { on := 26, ground := Go.Ground.data }], guard := none }, { dst := some 145, op := Go.Op.load 63 (Go.Operand.tmp 144), type := 63, pos := "ref.go:152", after := #[{ on := 27, ground := Go.Ground.data }], guard := none }, { dst := some 146, op := Go.Op.binOp Go.BinOp.add 63 (Go.Operand.tmp 140) (Go.Operand.tmp 145) 63, type := 63, pos := "ref.go:152", after := #[{ on := 23, ground := Go.Ground.data }, { on := 28, ground := Go.Ground.data }], guard := none }, { dst := some 147, op := Go.Op.buildSlice 37 1 #[(0, Go.Operand.tmp 146)], type := 37, pos := "ref.go:152", after := #[{ on := 29, ground := Go.Ground.data }], guard := none }, { dst := some 148, op := Go.Op.call { callee := Go.Callee.builtin Go.Builtin.append, args := #[Go.Operand.tmp 117, Go.Operand.tmp 147], argTypes := #[37, 37] }, type := 37, pos := "ref.go:152", after := #[{ on := 0, ground := Go.Ground.data }, { on := 30, ground := Go.Ground.data }, { on := 21, ground := Go.Ground.chain }], guard := none }, { dst := some 11, op := Go.Op.assign (Go.Operand.tmp 148), type := 37, pos := "ref.go:152", after := #[{ on := 31, ground := Go.Ground.data }, { on := 31, ground := Go.Ground.chain }, { on := 0, ground := Go.Ground.phase }, { on := 1, ground := Go.Ground.phase }, { on := 2, ground := Go.Ground.phase }, { on := 3, ground := Go.Ground.phase }, { on := 4, ground := Go.Ground.phase }, { on := 5, ground := Go.Ground.phase }, { on := 6, ground := Go.Ground.phase }, { on := 7, ground := Go.Ground.phase }, { on := 8, ground := Go.Ground.phase }, { on := 9, ground := Go.Ground.phase }, { on := 10, ground := Go.Ground.phase }, { on := 11, ground := Go.Ground.phase }, { on := 12, ground := Go.Ground.phase }, { on := 13, ground := Go.Ground.phase }, { on := 14, ground := Go.Ground.phase }, { on := 15, ground := Go.Ground.phase }, { on := 16, ground := Go.Ground.phase }, { on := 17, ground := Go.Ground.phase }, { on := 18, ground := Go.Ground.phase }, { on := 19, ground := Go.Ground.phase }, { on := 20, ground := Go.Ground.phase }, { on := 21, ground := Go.Ground.phase }, { on := 22, ground := Go.Ground.phase }, { on := 23, ground := Go.Ground.phase }, { on := 24, ground := Go.Ground.phase }, { on := 25, ground := Go.Ground.phase }, { on := 26, ground := Go.Ground.phase }, { on := 27, ground := Go.Ground.phase }, { on := 28, ground := Go.Ground.phase }, { on := 29, ground := Go.Ground.phase }, { on := 30, ground := Go.Ground.phase }, { on := 31, ground := Go.Ground.phase }], guard := none }]
def semW (A C X7 X16 r17 r19 l10 r7 r18 l3 x1 x2 y1 y2 s1 s2 X : Nat) (i i7 i16 cw wg : Nat) (wa : World) (BK : List UInt8) : Nat → Value → World → Prop := fun ix v u => match ix with
  | 0 => v = .slice (some ⟨wg, 0, none⟩) i cw
  | 1 => v = .int .u32 (C : Int)
  | 2 => v = .int .u32 (r17 : Int)
  | 3 => v = .int .u32 (C : Int)
  | 4 => v = .int .u32 (r19 : Int)
  | 5 => v = .int .u32 (x1 : Int)
  | 6 => v = .int .u32 (C : Int)
  | 7 => v = .int .u32 (l10 : Int)
  | 8 => v = .int .u32 (x2 : Int)
  | 9 => v = .slice (some ⟨wg, 0, none⟩) i cw
  | 10 => v = .int .i64 (i : Int)
  | 11 => v = .int .i64 (i7 : Int)
  | 12 => v = .pointer (some ⟨wg, i7, none⟩)
  | 13 => v = .int .u32 (X7 : Int)
  | 14 => v = .int .u32 (s1 : Int)
  | 15 => v = .int .u32 (A : Int)
  | 16 => v = .int .u32 (r7 : Int)
  | 17 => v = .int .u32 (A : Int)
  | 18 => v = .int .u32 (r18 : Int)
  | 19 => v = .int .u32 (y1 : Int)
  | 20 => v = .int .u32 (A : Int)
  | 21 => v = .int .u32 (l3 : Int)
  | 22 => v = .int .u32 (y2 : Int)
  | 23 => v = .int .u32 (s2 : Int)
  | 24 => v = .slice (some ⟨wg, 0, none⟩) i cw
  | 25 => v = .int .i64 (i : Int)
  | 26 => v = .int .i64 (i16 : Int)
  | 27 => v = .pointer (some ⟨wg, i16, none⟩)
  | 28 => v = .int .u32 (X16 : Int)
  | 29 => v = .int .u32 (X : Int)
  | 30 => ∃ g, v = .slice (some ⟨g, 0, none⟩) 1 1 ∧ g < u.heap.size ∧ some g ≠ (Value.slice (some ⟨wg, 0, none⟩) i cw).ownBlock ∧ u.cell? ⟨g, 0, none⟩ = some (.int .u32 (X : Int))
  | 31 => u.ownsRow wa.heap.size 63 1 v (schedN BK (i + 1)).length (kc .u32 (schedN BK (i + 1)))
  | 32 => u.ownsRow wa.heap.size 63 1 v (schedN BK (i + 1)).length (kc .u32 (schedN BK (i + 1)))
  | _ => True
set_option maxHeartbeats 2000000 in
theorem semWR (A C X7 X16 r17 r19 l10 r7 r18 l3 x1 x2 y1 y2 s1 s2 X : Nat) (i i7 i16 cw wg : Nat) (wa : World) (BK : List UInt8)  {Q : Exit → Act → World → Prop} {a0 : Act} {u0 : World} (hsz : a0.tmps.size = 314) (v11 : a0.tmps[11]? = some (.slice (some ⟨wg, 0, none⟩) i cw)) (v12 : a0.tmps[12]? = some (.int .i64 (i : Int))) (v14 : a0.tmps[14]? = some (.int .u32 (A : Int))) (v15 : a0.tmps[15]? = some (.int .u32 (C : Int))) (hi : i ≤ 64) (hW0 : u0.drew.ownsRow wa.heap.size 63 1 (.slice (some ⟨wg, 0, none⟩) i cw) (schedN BK i).length (kc .u32 (schedN BK i))) (HB23 : Hid (∀ u, u0.drew.grownBy u (Value.slice (some ⟨wg, 0, none⟩) i cw).ownBlock → Below wa.heap.size wa u)) (HRW : Hid (∀ k, (Value.slice (some ⟨wg, 0, none⟩) i cw).ownBlock = some k → k < u0.drew.heap.size))
    (h17 : (∀ u, Calls Tryz.prog 32 #[.int .u32 (C : Int), .int .i64 17] u fun e u' => e = .returned (.int .u32 (r17 : Int)) ∧ u' = u)) (h19 : (∀ u, Calls Tryz.prog 32 #[.int .u32 (C : Int), .int .i64 19] u fun e u' => e = .returned (.int .u32 (r19 : Int)) ∧ u' = u)) (h10 : (∀ u, Calls Tryz.prog 33 #[.int .u32 (C : Int), .int .i64 10] u fun e u' => e = .returned (.int .u32 (l10 : Int)) ∧ u' = u)) (h7 : (∀ u, Calls Tryz.prog 32 #[.int .u32 (A : Int), .int .i64 7] u fun e u' => e = .returned (.int .u32 (r7 : Int)) ∧ u' = u)) (h18 : (∀ u, Calls Tryz.prog 32 #[.int .u32 (A : Int), .int .i64 18] u fun e u' => e = .returned (.int .u32 (r18 : Int)) ∧ u' = u)) (h3 : (∀ u, Calls Tryz.prog 33 #[.int .u32 (A : Int), .int .i64 3] u fun e u' => e = .returned (.int .u32 (l3 : Int)) ∧ u' = u))
    (q1 : bits .xor .u32 (r17 : Int) (r19 : Int) = (x1 : Int)) (q2 : bits .xor .u32 (x1 : Int) (l10 : Int) = (x2 : Int)) (q3 : bits .xor .u32 (r7 : Int) (r18 : Int) = (y1 : Int)) (q4 : bits .xor .u32 (y1 : Int) (l3 : Int) = (y2 : Int)) (q5 : IntKind.u32.wrap ((x2 : Int) + (X7 : Int)) = (s1 : Int)) (q6 : IntKind.u32.wrap ((s1 : Int) + (y2 : Int)) = (s2 : Int)) (q7 : IntKind.u32.wrap ((s2 : Int) + (X16 : Int)) = (X : Int))
    (e7 : (i : Int) - 7 = (i7 : Int)) (e16 : (i : Int) - 16 = (i16 : Int)) (g7 : (schedN BK i)[i7]? = some X7) (g16 : (schedN BK i)[i16]? = some X16) (HLX : Hid (schedN BK i ++ [X] = schedN BK (i + 1)))
    (hfin : ∀ (vs : Nat → Value) u, (∀ ix d, ((semWO[ix]?).bind (fun x => Oper.dst x)) = some d → semW A C X7 X16 r17 r19 l10 r7 r18 l3 x1 x2 y1 y2 s1 s2 X i i7 i16 cw wg wa BK ix (vs ix) u) → u0.drew.grownBy u ((Value.slice (some ⟨wg, 0, none⟩) i cw).ownBlock) → (∃ v, semW A C X7 X16 r17 r19 l10 r7 r18 l3 x1 x2 y1 y2 s1 s2 X i i7 i16 cw wg wa BK 31 v u) → Q .normal (putFrom vs a0 semWO.toList 0) u) : (Code.region 26 semWO true).wp Tryz.prog Q a0 u0 := by
  unfold semWO
  refine freeZ_walk (Sem := semW A C X7 X16 r17 r19 l10 r7 r18 l3 x1 x2 y1 y2 s1 s2 X i i7 i16 cw wg wa BK) (J := fun u => u.ownsRow wa.heap.size 63 1 (.slice (some ⟨wg, 0, none⟩) i cw) (schedN BK i).length (kc .u32 (schedN BK i))) 31 (fun j => j == 31 || j == 32) ((Value.slice (some ⟨wg, 0, none⟩) i cw).ownBlock) rfl (n := 314) (by kernel_rfl) hsz (by kernel_rfl) hW0 ?_ ?_ ?_ (fun _ _ h hb => ownsRow_later h hb) (by decide) ?_ ?_ (by decide) ?_
  · intro j hj
    simp only [Bool.or_eq_true, beq_iff_eq] at hj
    rcases hj with rfl | rfl
    · exact .inl rfl
    · exact .inr ⟨[], by kernel_rfl⟩
  · intro ix v u u' hl h hb
    match ix, h, hl with
    | 0, h, _ => exact h
    | 1, h, _ => exact h
    | 2, h, _ => exact h
    | 3, h, _ => exact h
    | 4, h, _ => exact h
    | 5, h, _ => exact h
    | 6, h, _ => exact h
    | 7, h, _ => exact h
    | 8, h, _ => exact h
    | 9, h, _ => exact h
    | 10, h, _ => exact h
    | 11, h, _ => exact h
    | 12, h, _ => exact h
    | 13, h, _ => exact h
    | 14, h, _ => exact h
    | 15, h, _ => exact h
    | 16, h, _ => exact h
    | 17, h, _ => exact h
    | 18, h, _ => exact h
    | 19, h, _ => exact h
    | 20, h, _ => exact h
    | 21, h, _ => exact h
    | 22, h, _ => exact h
    | 23, h, _ => exact h
    | 24, h, _ => exact h
    | 25, h, _ => exact h
    | 26, h, _ => exact h
    | 27, h, _ => exact h
    | 28, h, _ => exact h
    | 29, h, _ => exact h
    | 30, h, _ => exact by obtain ⟨g, h1, h2, h3, h4⟩ := h; exact ⟨g, h1, Nat.lt_of_lt_of_le h2 hb.size, h3, hb.cell h4 h3⟩
    | 31, _, hl => exact absurd hl (by decide)
    | 32, _, hl => exact absurd hl (by decide)
    | _ + 33, _, _ => exact trivial
  · intro ix v u u' hl h hb
    match ix, h, hl with
    | 0, _, hl => exact absurd hl (by decide)
    | 1, _, hl => exact absurd hl (by decide)
    | 2, _, hl => exact absurd hl (by decide)
    | 3, _, hl => exact absurd hl (by decide)
    | 4, _, hl => exact absurd hl (by decide)
    | 5, _, hl => exact absurd hl (by decide)
    | 6, _, hl => exact absurd hl (by decide)
    | 7, _, hl => exact absurd hl (by decide)
    | 8, _, hl => exact absurd hl (by decide)
    | 9, _, hl => exact absurd hl (by decide)
    | 10, _, hl => exact absurd hl (by decide)
    | 11, _, hl => exact absurd hl (by decide)
    | 12, _, hl => exact absurd hl (by decide)
    | 13, _, hl => exact absurd hl (by decide)
    | 14, _, hl => exact absurd hl (by decide)
    | 15, _, hl => exact absurd hl (by decide)
    | 16, _, hl => exact absurd hl (by decide)
    | 17, _, hl => exact absurd hl (by decide)
    | 18, _, hl => exact absurd hl (by decide)
    | 19, _, hl => exact absurd hl (by decide)
    | 20, _, hl => exact absurd hl (by decide)
    | 21, _, hl => exact absurd hl (by decide)
    | 22, _, hl => exact absurd hl (by decide)
    | 23, _, hl => exact absurd hl (by decide)
    | 24, _, hl => exact absurd hl (by decide)
    | 25, _, hl => exact absurd hl (by decide)
    | 26, _, hl => exact absurd hl (by decide)
    | 27, _, hl => exact absurd hl (by decide)
    | 28, _, hl => exact absurd hl (by decide)
    | 29, _, hl => exact absurd hl (by decide)
    | 30, _, hl => exact absurd hl (by decide)
    | 31, h, _ => exact ownsRow_later h hb
    | 32, h, _ => exact ownsRow_later h hb
    | _ + 33, _, _ => exact trivial
  · intro ix o a u ho hne hF hbu hJ hW
    match ix, ho, hF, hJ, hne, hW with
    | 0, ho, hF, hJ, _, hW =>
      obtain rfl := Option.some.inj ho
      have h11 : a.tmps[11]? = some (.slice (some ⟨wg, 0, none⟩) i cw) := (hW 32 11 [] rfl (by kernel_rfl)).trans v11
      refine free_step rfl (by rfl) (fun K' hK => ?_)
      go_simp
      exact hK.out _ _ rfl (Below.refl _ _)
    | 1, ho, hF, hJ, _, hW =>
      obtain rfl := Option.some.inj ho
      have h15 : a.tmps[15]? = some (.int .u32 (C : Int)) := (hF.out 15 rfl).trans v15
      refine free_step rfl (by rfl) (fun K' hK => ?_)
      go_simp
      exact hK.out _ _ rfl (Below.refl _ _)
    | 2, ho, hF, hJ, _, hW =>
      obtain rfl := Option.some.inj ho
      obtain ⟨v118, h118, s118⟩ := hF.dep 1 118 rfl rfl
      obtain rfl : v118 = .int .u32 (C : Int) := s118
      refine free_step rfl (by rfl) (fun K' hK => ?_)
      go_wp2_with fail
      refine (h17 u).mono ?_
      rintro e u' ⟨rfl, rfl⟩
      go_simp
      exact hK.out _ _ rfl (Below.refl _ _)
    | 3, ho, hF, hJ, _, hW =>
      obtain rfl := Option.some.inj ho
      have h15 : a.tmps[15]? = some (.int .u32 (C : Int)) := (hF.out 15 rfl).trans v15
      refine free_step rfl (by rfl) (fun K' hK => ?_)
      go_simp
      exact hK.out _ _ rfl (Below.refl _ _)
    | 4, ho, hF, hJ, _, hW =>
      obtain rfl := Option.some.inj ho
      obtain ⟨v120, h120, s120⟩ := hF.dep 3 120 rfl rfl
      obtain rfl : v120 = .int .u32 (C : Int) := s120
      refine free_step rfl (by rfl) (fun K' hK => ?_)
      go_wp2_with fail
      refine (h19 u).mono ?_
      rintro e u' ⟨rfl, rfl⟩
      go_simp
      exact hK.out _ _ rfl (Below.refl _ _)
    | 5, ho, hF, hJ, _, hW =>
      obtain rfl := Option.some.inj ho
      obtain ⟨v119, h119, s119⟩ := hF.dep 2 119 rfl rfl
      obtain rfl : v119 = .int .u32 (r17 : Int) := s119
      obtain ⟨v121, h121, s121⟩ := hF.dep 4 121 rfl rfl
      obtain rfl : v121 = .int .u32 (r19 : Int) := s121
      refine free_step rfl (by rfl) (fun K' hK => ?_)
      go_simp
      exact hK.out _ _ rfl (Below.refl _ _)
    | 6, ho, hF, hJ, _, hW =>
      obtain rfl := Option.some.inj ho
      have h15 : a.tmps[15]? = some (.int .u32 (C : Int)) := (hF.out 15 rfl).trans v15
      refine free_step rfl (by rfl) (fun K' hK => ?_)
      go_simp
      exact hK.out _ _ rfl (Below.refl _ _)
    | 7, ho, hF, hJ, _, hW =>
      obtain rfl := Option.some.inj ho
      obtain ⟨v123, h123, s123⟩ := hF.dep 6 123 rfl rfl
      obtain rfl : v123 = .int .u32 (C : Int) := s123
      refine free_step rfl (by rfl) (fun K' hK => ?_)
      go_wp2_with fail
      refine (h10 u).mono ?_
      rintro e u' ⟨rfl, rfl⟩
      go_simp
      exact hK.out _ _ rfl (Below.refl _ _)
    | 8, ho, hF, hJ, _, hW =>
      obtain rfl := Option.some.inj ho
      obtain ⟨v122, h122, s122⟩ := hF.dep 5 122 rfl rfl
      obtain rfl : v122 = .int .u32 (x1 : Int) := s122
      obtain ⟨v124, h124, s124⟩ := hF.dep 7 124 rfl rfl
      obtain rfl : v124 = .int .u32 (l10 : Int) := s124
      refine free_step rfl (by rfl) (fun K' hK => ?_)
      go_simp
      exact hK.out _ _ rfl (Below.refl _ _)
    | 9, ho, hF, hJ, _, hW =>
      obtain rfl := Option.some.inj ho
      have h11 : a.tmps[11]? = some (.slice (some ⟨wg, 0, none⟩) i cw) := (hW 32 11 [] rfl (by kernel_rfl)).trans v11
      refine free_step rfl (by rfl) (fun K' hK => ?_)
      go_simp
      exact hK.out _ _ rfl (Below.refl _ _)
    | 10, ho, hF, hJ, _, hW =>
      obtain rfl := Option.some.inj ho
      have h12 : a.tmps[12]? = some (.int .i64 (i : Int)) := (hF.out 12 rfl).trans v12
      refine free_step rfl (by rfl) (fun K' hK => ?_)
      go_simp
      exact hK.out _ _ rfl (Below.refl _ _)
    | 11, ho, hF, hJ, _, hW =>
      obtain rfl := Option.some.inj ho
      obtain ⟨v127, h127, s127⟩ := hF.dep 10 127 rfl rfl
      obtain rfl : v127 = .int .i64 (i : Int) := s127
      have wi : IntKind.i64.wrap (i7 : Int) = (i7 : Int) := by rw [IntKind.wrap_i64]; omega
      refine free_step rfl (by rfl) (fun K' hK => ?_)
      go_simp
      exact hK.out _ _ rfl (Below.refl _ _)
    | 12, ho, hF, hJ, _, hW =>
      obtain rfl := Option.some.inj ho
      obtain ⟨v126, h126, s126⟩ := hF.dep 9 126 rfl rfl
      obtain rfl : v126 = .slice (some ⟨wg, 0, none⟩) i cw := s126
      obtain ⟨v128, h128, s128⟩ := hF.dep 11 128 rfl rfl
      obtain rfl : v128 = .int .i64 (i7 : Int) := s128
      have hlt2 : (i7 : Int) < (i : Int) := by omega
      refine free_step rfl (by rfl) (fun K' hK => ?_)
      go_simp
      exact hK.out _ _ rfl (Below.refl _ _)
    | 13, ho, hF, hJ, _, hW =>
      have hJu := hJ [30, 29, 23, 14] (by kernel_rfl)
      obtain rfl := Option.some.inj ho
      obtain ⟨v129, h129, s129⟩ := hF.dep 12 129 rfl rfl
      obtain rfl : v129 = .pointer (some ⟨wg, i7, none⟩) := s129
      have gx := (own_setG hJu g7).2.2.2.2.1
      refine free_step rfl (by rfl) (fun K' hK => ?_)
      go_simp
      exact hK.out _ _ rfl (Below.refl _ _)
    | 14, ho, hF, hJ, _, hW =>
      obtain rfl := Option.some.inj ho
      obtain ⟨v125, h125, s125⟩ := hF.dep 8 125 rfl rfl
      obtain rfl : v125 = .int .u32 (x2 : Int) := s125
      obtain ⟨v130, h130, s130⟩ := hF.dep 13 130 rfl rfl
      obtain rfl : v130 = .int .u32 (X7 : Int) := s130
      refine free_step rfl (by rfl) (fun K' hK => ?_)
      go_simp
      exact hK.out _ _ rfl (Below.refl _ _)
    | 15, ho, hF, hJ, _, hW =>
      obtain rfl := Option.some.inj ho
      have h14 : a.tmps[14]? = some (.int .u32 (A : Int)) := (hF.out 14 rfl).trans v14
      refine free_step rfl (by rfl) (fun K' hK => ?_)
      go_simp
      exact hK.out _ _ rfl (Below.refl _ _)
    | 16, ho, hF, hJ, _, hW =>
      obtain rfl := Option.some.inj ho
      obtain ⟨v132, h132, s132⟩ := hF.dep 15 132 rfl rfl
      obtain rfl : v132 = .int .u32 (A : Int) := s132
      refine free_step rfl (by rfl) (fun K' hK => ?_)
      go_wp2_with fail
      refine (h7 u).mono ?_
      rintro e u' ⟨rfl, rfl⟩
      go_simp
      exact hK.out _ _ rfl (Below.refl _ _)
    | 17, ho, hF, hJ, _, hW =>
      obtain rfl := Option.some.inj ho
      have h14 : a.tmps[14]? = some (.int .u32 (A : Int)) := (hF.out 14 rfl).trans v14
      refine free_step rfl (by rfl) (fun K' hK => ?_)
      go_simp
      exact hK.out _ _ rfl (Below.refl _ _)
    | 18, ho, hF, hJ, _, hW =>
      obtain rfl := Option.some.inj ho
      obtain ⟨v134, h134, s134⟩ := hF.dep 17 134 rfl rfl
      obtain rfl : v134 = .int .u32 (A : Int) := s134
      refine free_step rfl (by rfl) (fun K' hK => ?_)
      go_wp2_with fail
      refine (h18 u).mono ?_
      rintro e u' ⟨rfl, rfl⟩
      go_simp
      exact hK.out _ _ rfl (Below.refl _ _)
    | 19, ho, hF, hJ, _, hW =>
      obtain rfl := Option.some.inj ho
      obtain ⟨v133, h133, s133⟩ := hF.dep 16 133 rfl rfl
      obtain rfl : v133 = .int .u32 (r7 : Int) := s133
      obtain ⟨v135, h135, s135⟩ := hF.dep 18 135 rfl rfl
      obtain rfl : v135 = .int .u32 (r18 : Int) := s135
      refine free_step rfl (by rfl) (fun K' hK => ?_)
      go_simp
      exact hK.out _ _ rfl (Below.refl _ _)
    | 20, ho, hF, hJ, _, hW =>
      obtain rfl := Option.some.inj ho
      have h14 : a.tmps[14]? = some (.int .u32 (A : Int)) := (hF.out 14 rfl).trans v14
      refine free_step rfl (by rfl) (fun K' hK => ?_)
      go_simp
      exact hK.out _ _ rfl (Below.refl _ _)
    | 21, ho, hF, hJ, _, hW =>
      obtain rfl := Option.some.inj ho
      obtain ⟨v137, h137, s137⟩ := hF.dep 20 137 rfl rfl
      obtain rfl : v137 = .int .u32 (A : Int) := s137
      refine free_step rfl (by rfl) (fun K' hK => ?_)
      go_wp2_with fail
      refine (h3 u).mono ?_
      rintro e u' ⟨rfl, rfl⟩
      go_simp
      exact hK.out _ _ rfl (Below.refl _ _)
    | 22, ho, hF, hJ, _, hW =>
      obtain rfl := Option.some.inj ho
      obtain ⟨v136, h136, s136⟩ := hF.dep 19 136 rfl rfl
      obtain rfl : v136 = .int .u32 (y1 : Int) := s136
      obtain ⟨v138, h138, s138⟩ := hF.dep 21 138 rfl rfl
      obtain rfl : v138 = .int .u32 (l3 : Int) := s138
      refine free_step rfl (by rfl) (fun K' hK => ?_)
      go_simp
      exact hK.out _ _ rfl (Below.refl _ _)
    | 23, ho, hF, hJ, _, hW =>
      obtain rfl := Option.some.inj ho
      obtain ⟨v131, h131, s131⟩ := hF.dep 14 131 rfl rfl
      obtain rfl : v131 = .int .u32 (s1 : Int) := s131
      obtain ⟨v139, h139, s139⟩ := hF.dep 22 139 rfl rfl
      obtain rfl : v139 = .int .u32 (y2 : Int) := s139
      refine free_step rfl (by rfl) (fun K' hK => ?_)
      go_simp
      exact hK.out _ _ rfl (Below.refl _ _)
    | 24, ho, hF, hJ, _, hW =>
      obtain rfl := Option.some.inj ho
      have h11 : a.tmps[11]? = some (.slice (some ⟨wg, 0, none⟩) i cw) := (hW 32 11 [] rfl (by kernel_rfl)).trans v11
      refine free_step rfl (by rfl) (fun K' hK => ?_)
      go_simp
      exact hK.out _ _ rfl (Below.refl _ _)
    | 25, ho, hF, hJ, _, hW =>
      obtain rfl := Option.some.inj ho
      have h12 : a.tmps[12]? = some (.int .i64 (i : Int)) := (hF.out 12 rfl).trans v12
      refine free_step rfl (by rfl) (fun K' hK => ?_)
      go_simp
      exact hK.out _ _ rfl (Below.refl _ _)
    | 26, ho, hF, hJ, _, hW =>
      obtain rfl := Option.some.inj ho
      obtain ⟨v142, h142, s142⟩ := hF.dep 25 142 rfl rfl
      obtain rfl : v142 = .int .i64 (i : Int) := s142
      have wi : IntKind.i64.wrap (i16 : Int) = (i16 : Int) := by rw [IntKind.wrap_i64]; omega
      refine free_step rfl (by rfl) (fun K' hK => ?_)
      go_simp
      exact hK.out _ _ rfl (Below.refl _ _)
    | 27, ho, hF, hJ, _, hW =>
      obtain rfl := Option.some.inj ho
      obtain ⟨v141, h141, s141⟩ := hF.dep 24 141 rfl rfl
      obtain rfl : v141 = .slice (some ⟨wg, 0, none⟩) i cw := s141
      obtain ⟨v143, h143, s143⟩ := hF.dep 26 143 rfl rfl
      obtain rfl : v143 = .int .i64 (i16 : Int) := s143
      have hlt2 : (i16 : Int) < (i : Int) := by omega
      refine free_step rfl (by rfl) (fun K' hK => ?_)
      go_simp
      exact hK.out _ _ rfl (Below.refl _ _)
    | 28, ho, hF, hJ, _, hW =>
      have hJu := hJ [30, 29] (by kernel_rfl)
      obtain rfl := Option.some.inj ho
      obtain ⟨v144, h144, s144⟩ := hF.dep 27 144 rfl rfl
      obtain rfl : v144 = .pointer (some ⟨wg, i16, none⟩) := s144
      have gx := (own_setG hJu g16).2.2.2.2.1
      refine free_step rfl (by rfl) (fun K' hK => ?_)
      go_simp
      exact hK.out _ _ rfl (Below.refl _ _)
    | 29, ho, hF, hJ, _, hW =>
      obtain rfl := Option.some.inj ho
      obtain ⟨v140, h140, s140⟩ := hF.dep 23 140 rfl rfl
      obtain rfl : v140 = .int .u32 (s2 : Int) := s140
      obtain ⟨v145, h145, s145⟩ := hF.dep 28 145 rfl rfl
      obtain rfl : v145 = .int .u32 (X16 : Int) := s145
      refine free_step rfl (by rfl) (fun K' hK => ?_)
      go_simp
      exact hK.out _ _ rfl (Below.refl _ _)
    | 30, ho, hF, hJ, _, hW =>
      obtain rfl := Option.some.inj ho
      obtain ⟨v146, h146, s146⟩ := hF.dep 29 146 rfl rfl
      obtain rfl : v146 = .int .u32 (X : Int) := s146
      refine free_step rfl (by rfl) (fun K' hK => ?_)
      go_simp
      refine hK.out _ _ ⟨u.heap.size, rfl, by simp, fun h => ?_, block_cell 0 (heap_push_at u _) rfl⟩ ((Below.refl _ u).alloc (Nat.le_refl _) _)
      exact absurd (Nat.lt_of_lt_of_le (HRW.out _ h.symm) hbu.size) (Nat.lt_irrefl _)
    | 31, _, _, _, hne, _ => exact absurd rfl hne
    | 32, ho, hF, hJ, _, hW =>
      obtain rfl := Option.some.inj ho
      obtain ⟨v148, h148, s148⟩ := hF.dep 31 148 rfl rfl
      replace s148 : u.ownsRow wa.heap.size 63 1 v148 (schedN BK (i + 1)).length (kc .u32 (schedN BK (i + 1))) := s148
      refine free_step rfl (by rfl) (fun K' hK => ?_)
      go_simp
      exact hK.out _ _ s148 (Below.refl _ _)
    | n + 33, ho, _, _, _, _ => exact absurd (Array.getElem?_eq_some_iff.1 ho).1 (by show ¬ n + 33 < 33; omega)
  · intro o a u ho hF hbu hJu hW
    obtain rfl := Option.some.inj ho
    obtain ⟨v117, h117, s117⟩ := hF.dep 0 117 rfl rfl
    obtain rfl : v117 = .slice (some ⟨wg, 0, none⟩) i cw := s117
    obtain ⟨v147, h147, s147⟩ := hF.dep 30 147 rfl rfl
    replace s147 : ∃ g, v147 = .slice (some ⟨g, 0, none⟩) 1 1 ∧ g < u.heap.size ∧ some g ≠ (Value.slice (some ⟨wg, 0, none⟩) i cw).ownBlock ∧ u.cell? ⟨g, 0, none⟩ = some (.int .u32 (X : Int)) := s147
    refine freeZ_step rfl (by rfl) (fun K' hK => ?_)
    obtain ⟨g, rfl, _, _, hgc⟩ := s147
    refine wp_append_one R32 _ _ rfl wa.heap.size (.slice (some ⟨wg, 0, none⟩) i cw) _ (by simp [Act.eval, h117]) hJu g (by simp [Act.eval, h147]) X hgc _ HLX.out (by rw [schedN_length]; omega) (HB23.out u hbu).size ?_
    intro v' u' h1 h2
    exact hK.out _ _ h1 h2
  · intro vs u hS hbu hZ
    exact hfin vs u hS hbu hZ
end Go.Proofs.YtpcmpeeflnlkpaaGreatDoor
