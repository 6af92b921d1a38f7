
/-
  The document's Sum: one of its regions that draw.
-/
import Derived.Test.YtpcmpeeflnlkpaaGreatDoorVWordsEtc
namespace Go.Proofs.YtpcmpeeflnlkpaaGreatDoor
open Go.RowKit Ch
set_option maxRecDepth 100000
def semTO : Array Oper := #[{ dst := some 156, op := Go.Op.move (Go.Operand.tmp 16), type := 37, pos := "ref.go:156", after := #[], guard := none }, { dst := some 157, op := Go.Op.indexAddr 37 (Go.Operand.tmp 156) (Go.Operand.const (Go.Value.int Go.IntKind.i64 7)), type := 0, pos := "ref.go:156", after := #[{ on := 0, ground := Go.Ground.data }], guard := none }, { dst := some 158, op := Go.Op.load 63 (Go.Operand.tmp 157), type := 63, pos := "ref.go:156", after := #[{ on := 1, ground := Go.Ground.data }], guard := none }, { dst := some 159, op := Go.Op.move (Go.Operand.tmp 16), type := 37, pos := "ref.go:156", after := #[], guard := none }, { dst := some 160, op := Go.Op.indexAddr 37 (Go.Operand.tmp 159) (Go.Operand.const (Go.Value.int Go.IntKind.i64 4)), type := 0, pos := "ref.go:156", after := #[{ on := 3, ground := Go.Ground.data }], guard := none }, { dst := some 161, op := Go.Op.load 63 (Go.Operand.tmp 160), type := 63, pos := "ref.go:156", after := #[{ on := 4, ground := Go.Ground.data }], guard := none }, { dst := some 162, op := Go.Op.call { callee := Go.Callee.value (Go.Operand.func 32), args := #[Go.Operand.tmp 161, Go.Operand.const (Go.Value.int Go.IntKind.i64 6)], argTypes := #[63, 3] }, type := 63, pos := "ref.go:156", after := #[{ on := 5, ground := Go.Ground.data }], guard := none }, { dst := some 163, op := Go.Op.move (Go.Operand.tmp 16), type := 37, pos := "ref.go:156", after := #[], guard := none }, { dst := some 164, op := Go.Op.indexAddr 37 (Go.Operand.tmp 163) (Go.Operand.const (Go.Value.int Go.IntKind.i64 4)), type := 0, pos := "ref.go:156", after := #[{ on := 7, ground := Go.Ground.data }], guard := none }, { dst := some 165, op := Go.Op.load 63 (Go.Operand.tmp 164), type := 63, pos := "ref.go:156", after := #[{ on := 8, ground := Go.Ground.data }], guard := none }, { dst := some 166, op := Go.Op.call { callee := Go.Callee.value (Go.Operand.func 32), args := #[Go.Operand.tmp 165, Go.Operand.const (Go.Value.int Go.IntKind.i64 11)], argTypes := #[63, 3] }, type := 63, pos := "ref.go:156", after := #[{ on := 9, ground := Go.Ground.data }, { on := 6, ground := Go.Ground.chain }], guard := none }, { dst := some 167, op := Go.Op.binOp Go.BinOp.xor 63 (Go.Operand.tmp 162) (Go.Operand.tmp 166) 63, type := 63, pos := "ref.go:156", after := #[{ on := 6, ground := Go.Ground.data }, { on := 10, ground := Go.Ground.data }], guard := none }, { dst := some 168, op := Go.Op.move (Go.Operand.tmp 16), type := 37, pos := "ref.go:156", after := #[], guard := none }, { dst := some 169, op := Go.Op.indexAddr 37 (Go.Operand.tmp 168) (Go.Operand.const (Go.Value.int Go.IntKind.i64 4)), type := 0, pos := "ref.go:156", after := #[{ on := 12, ground := Go.Ground.data }], guard := none }, { dst := some 170, op := Go.Op.load 63 (Go.Operand.tmp 169), type := 63, pos := "ref.go:156", after := #[{ on := 13, ground := Go.Ground.data }], guard := none }, { dst := some 171, op := Go.Op.call { callee := Go.Callee.value (Go.Operand.func 32), args := #[Go.Operand.tmp 170, Go.Operand.const (Go.Value.int Go.IntKind.i64 25)], argTypes := #[63, 3] }, type := 63, pos := "ref.go:156", after := #[{ on := 14, ground := Go.Ground.data }, { on := 10, ground := Go.Ground.chain }], guard := none }, { dst := some 172, op := Go.Op.binOp Go.BinOp.xor 63 (Go.Operand.tmp 167) (Go.Operand.tmp 171) 63, type := 63, pos := "ref.go:156", after := #[{ on := 11, ground := Go.Ground.data }, { on := 15, ground := Go.Ground.data }], guard := none }, { dst := some 173, op := Go.Op.binOp Go.BinOp.add 63 (Go.Operand.tmp 158) (Go.Operand.tmp 172) 63, type := 63, pos := "ref.go:156", after := #[{ on := 2, ground := Go.Ground.data }, { on := 16, ground := Go.Ground.data }], guard := none }, { dst := some 174, op := Go.Op.move (Go.Operand.tmp 16), type := 37, pos := "ref.go:156", after := #[], guard := none }, { dst := some 175, op := Go.Op.indexAddr 37 (Go.Operand.tmp 174) (Go.Operand.const (Go.Value.int Go.IntKind.i64 4)), type := 0, pos := "ref.go:156", after := #[{ on := 18, ground := Go.Ground.data }], guard := none }, { dst := some 176, op := Go.Op.load 63 (Go.Operand.tmp 175), type := 63, pos := "ref.go:156", after := #[{ on := 19, ground := Go.Ground.data }], guard := none }, { dst := some 177, op := Go.Op.move (Go.Operand.tmp 16), type := 37, pos := "ref.go:156", after := #[], guard := none }, { dst := some 178, op := Go.Op.indexAddr 37 (Go.Operand.tmp 177) (Go.Operand.const (Go.Value.int Go.IntKind.i64 5)), type := 0, pos := "ref.go:156", after := #[{ on := 21, ground := Go.Ground.data }], guard := none }, { dst := some 179, op := Go.Op.load 63 (Go.Operand.tmp 178), type := 63, pos := "ref.go:156", after := #[{ on := 22, ground := Go.Ground.data }], guard := none }, { dst := some 180, op := Go.Op.binOp Go.BinOp.and 63 (Go.Operand.tmp 176) (Go.Operand.tmp 179) 63, type := 63, pos := "ref.go:156", after := #[{ on := 20, ground := Go.Ground.data }, { on := 23, ground := Go.Ground.data }], guard := none }, { dst := some 181, op := Go.Op.move (Go.Operand.tmp 16), type := 37, pos := "ref.go:156", after := #[], guard := none }, { dst := some 182, op := Go.Op.indexAddr 37 (Go.Operand.tmp 181) (Go.Operand.const (Go.Value.int Go.IntKind.i64 4)), type := 0, pos := "ref.go:156", after := #[{ on := 25, ground := Go.Ground.data }], guard := none }, { dst := some 183, op := Go.Op.load 63 (Go.Operand.tmp 182), type := 63, pos := "ref.go:156", after := #[{ on := 26, ground := Go.Ground.data }], guard := none }, { dst := some 184, op := Go.Op.binOp Go.BinOp.xor 63 (Go.Operand.const (Go.Value.int Go.IntKind.u32 4294967295)) (Go.Operand.tmp 183) 63, type := 63, pos := "ref.go:156", after := #[{ on := 27, ground := Go.Ground.data }], guard := none }, { dst := some 185, op := Go.Op.move (Go.Operand.tmp 16), type := 37, pos := "ref.go:156", after := #[], guard := none }, { dst := some 186, op := Go.Op.indexAddr 37 (Go.Operand.tmp 185) (Go.Operand.const (Go.Value.int Go.IntKind.i64 6)), type := 0, pos := "ref.go:156", after := #[{ on := 29, ground := Go.Ground.data }], guard := none }, { dst := some 187, op := Go.Op.load 63 (Go.Operand.tmp 186), type := 63, pos := "ref.go:156", after := #[{ on := 30, ground := Go.Ground.data }], guard := none }, { dst := some 188, op := Go.Op.binOp Go.BinOp.and 63 (Go.Operand.tmp 184) (Go.Operand.tmp 187) 63, type := 63, pos := "ref.go:156", after := #[{ on := 28, ground := Go.Ground.data }, { on := 31, ground := Go.Ground.data }], guard := none }, { dst := some 189, op := Go.Op.binOp Go.BinOp.xor 63 (Go.Operand.tmp 180) (Go.Operand.tmp 188) 63, type := 63, pos := "ref.go:156", after := #[{ on := 24, ground := Go.Ground.data }, { on := 32, ground := Go.Ground.data }], guard := none }, { dst := some 190, op := Go.Op.binOp Go.BinOp.add 63 (Go.Operand.tmp 173) (Go.Operand.tmp 189) 63, type := 63, pos := "ref.go:156", after := #[{ on := 17, ground := Go.Ground.data }, { on := 33, ground := Go.Ground.data }], guard := none }, { dst := some 191, op := Go.Op.fieldAddr 39 (Go.Operand.tmp 2) 1, type := 0, pos := "ref.go:156", after := #[], guard := none }, { dst := some 192, op := Go.Op.load 37 (Go.Operand.tmp 191), type := 37, pos := "ref.go:156", after := #[{ on := 35, ground := Go.Ground.data }], guard := none }, { dst := some 193, op := Go.Op.move (Go.Operand.tmp 17), type := 3, pos := "ref.go:156", after := #[], guard := none }, { dst := some 194, op := Go.Op.indexAddr 37 (Go.Operand.tmp 192) (Go.Operand.tmp 193), type := 0, pos := "ref.go:156", after := #[{ on := 36, ground := Go.Ground.data }, { on := 37, ground := Go.Ground.data }], guard := none }, { dst := some 195, op := Go.Op.load 63 (Go.Operand.tmp 194), type := 63, pos := "ref.go:156", after := #[{ on := 38, ground := Go.Ground.data }], guard := none }, { dst := some 196, op := Go.Op.binOp Go.BinOp.add 63 (Go.Operand.tmp 190) (Go.Operand.tmp 195) 63, type := 63, pos := "ref.go:156", after := #[{ on := 34, ground := Go.Ground.data }, { on := 39, ground := Go.Ground.data }], guard := none }, { dst := some 197, op := Go.Op.move (Go.Operand.tmp 11), type := 37, pos := "ref.go:156", after := #[], guard := none }, { dst := some 198, op := Go.Op.move (Go.Operand.tmp 17), type := 3, pos := "ref.go:156", after := #[], guard := none }, { dst := some 199, op := Go.Op.indexAddr 37 (Go.Operand.tmp 197) (Go.Operand.tmp 198), type := 0, pos := "ref.go:156", after := #[{ on := 41, ground := Go.Ground.data }, { on := 42, ground := Go.Ground.data }], guard := none }, { dst := some 200, op := Go.Op.load 63 (Go.Operand.tmp 199), type := 63, pos := "ref.go:156", after := #[{ on := 43, ground := Go.Ground.data }], guard := none }, { dst := some 201, op := Go.Op.binOp Go.BinOp.add 63 (Go.Operand.tmp 196) (Go.Operand.tmp 200) 63, type := 63, pos := "ref.go:156", after := #[{ on := 40, ground := Go.Ground.data }, { on := 44, ground := Go.Ground.data }], guard := none }, { dst := some 18, op := Go.Op.assign (Go.Operand.tmp 201), type := 63, pos := "ref.go:156", after := #[{ on := 45, ground := Go.Ground.data }, { on := 15, ground := Go.Ground.chain }, { on := 0, ground := Go.Ground.phase }, { on := 1, ground := Go.Ground.phase }, { on := 2, ground := Go.Ground.phase }, { on := 3, ground := Go.Ground.phase }, { on := 4, ground := Go.Ground.phase }, { on := 5, ground := Go.Ground.phase }, { on := 6, ground := Go.Ground.phase }, { on := 7, ground := Go.Ground.phase }, { on := 8, ground := Go.Ground.phase }, { on := 9, ground := Go.Ground.phase }, { on := 10, ground := Go.Ground.phase }, { on := 11, ground := Go.Ground.phase }, { on := 12, ground := Go.Ground.phase }, { on := 13, ground := Go.Ground.phase }, { on := 14, ground := Go.Ground.phase }, { on := 15, ground := Go.Ground.phase }, { on := 16, ground := Go.Ground.phase }, { on := 17, ground := Go.Ground.phase }, { on := 18, ground := Go.Ground.phase }, { on := 19, ground := Go.Ground.phase }, { on := 20, ground := Go.Ground.phase }, { on := 21, ground := Go.Ground.phase }, { on := 22, ground := Go.Ground.phase }, { on := 23, ground := Go.Ground.phase }, { on := 24, ground := Go.Ground.phase }, { on := 25, ground := Go.Ground.phase }, { on := 26, ground := Go.Ground.phase }, { on := 27, ground := Go.Ground.phase }, { on := 28, ground := Go.Ground.phase }, { on := 29, ground := Go.Ground.phase }, { on := 30, ground := Go.Ground.phase }, { on := 31, ground := Go.Ground.phase }, { on := 32, ground := Go.Ground.phase }, { on := 33, ground := Go.Ground.phase }, { on := 34, ground := Go.Ground.phase }, { on := 35, ground := Go.Ground.phase }, { on := 36, ground := Go.Ground.phase }, { on := 37, ground := Go.Ground.phase }, { on := 38, ground := Go.Ground.phase }, { on := 39, ground := Go.Ground.phase }, { on := 40, ground := Go.Ground.phase }, { on := 41, ground := Go.Ground.phase }, { on := 42, ground := Go.Ground.phase }, { on := 43, ground := Go.Ground.phase }, { on := 44, ground := Go.Ground.phase }, { on := 45, ground := Go.Ground.phase }], guard := none }]
def semT (E F G H r6 r11 r25 x1 x2 s1 n1 n2 n3 n4 s2 KK s3 WK T1 : Nat) (k vg vo c8 wh kg ko cv wg cw : Nat) : Nat → Value → World → Prop := fun ix v _ => match ix with
  | 0 => v = .slice (some ⟨vg, vo, none⟩) 8 c8
  | 1 => v = .pointer (some ⟨vg, vo + 7, none⟩)
  | 2 => v = .int .u32 (H : Int)
  | 3 => v = .slice (some ⟨vg, vo, none⟩) 8 c8
  | 4 => v = .pointer (some ⟨vg, vo + 4, none⟩)
  | 5 => v = .int .u32 (E : Int)
  | 6 => v = .int .u32 (r6 : Int)
  | 7 => v = .slice (some ⟨vg, vo, none⟩) 8 c8
  | 8 => v = .pointer (some ⟨vg, vo + 4, none⟩)
  | 9 => v = .int .u32 (E : Int)
  | 10 => v = .int .u32 (r11 : Int)
  | 11 => v = .int .u32 (x1 : Int)
  | 12 => v = .slice (some ⟨vg, vo, none⟩) 8 c8
  | 13 => v = .pointer (some ⟨vg, vo + 4, none⟩)
  | 14 => v = .int .u32 (E : Int)
  | 15 => v = .int .u32 (r25 : Int)
  | 16 => v = .int .u32 (x2 : Int)
  | 17 => v = .int .u32 (s1 : Int)
  | 18 => v = .slice (some ⟨vg, vo, none⟩) 8 c8
  | 19 => v = .pointer (some ⟨vg, vo + 4, none⟩)
  | 20 => v = .int .u32 (E : Int)
  | 21 => v = .slice (some ⟨vg, vo, none⟩) 8 c8
  | 22 => v = .pointer (some ⟨vg, vo + 5, none⟩)
  | 23 => v = .int .u32 (F : Int)
  | 24 => v = .int .u32 (n1 : Int)
  | 25 => v = .slice (some ⟨vg, vo, none⟩) 8 c8
  | 26 => v = .pointer (some ⟨vg, vo + 4, none⟩)
  | 27 => v = .int .u32 (E : Int)
  | 28 => v = .int .u32 (n2 : Int)
  | 29 => v = .slice (some ⟨vg, vo, none⟩) 8 c8
  | 30 => v = .pointer (some ⟨vg, vo + 6, none⟩)
  | 31 => v = .int .u32 (G : Int)
  | 32 => v = .int .u32 (n3 : Int)
  | 33 => v = .int .u32 (n4 : Int)
  | 34 => v = .int .u32 (s2 : Int)
  | 35 => v = .pointer (some ⟨wh, 1, none⟩)
  | 36 => v = .slice (some ⟨kg, ko, none⟩) 64 cv
  | 37 => v = .int .i64 (k : Int)
  | 38 => v = .pointer (some ⟨kg, ko + k, none⟩)
  | 39 => v = .int .u32 (KK : Int)
  | 40 => v = .int .u32 (s3 : Int)
  | 41 => v = .slice (some ⟨wg, 0, none⟩) 64 cw
  | 42 => v = .int .i64 (k : Int)
  | 43 => v = .pointer (some ⟨wg, k, none⟩)
  | 44 => v = .int .u32 (WK : Int)
  | 45 => v = .int .u32 (T1 : Int)
  | 46 => v = .int .u32 (T1 : Int)
  | _ => True
set_option maxHeartbeats 2000000 in
theorem semTR (E F G H r6 r11 r25 x1 x2 s1 n1 n2 n3 n4 s2 KK s3 WK T1 : Nat) (k vg vo c8 wh kg ko cv wg cw : Nat)  {Q : Exit → Act → World → Prop} {a0 : Act} {u0 : World} (hsz : a0.tmps.size = 314) (v2 : a0.tmps[2]? = some (.pointer (some ⟨wh, 0, none⟩))) (v11 : a0.tmps[11]? = some (.slice (some ⟨wg, 0, none⟩) 64 cw)) (v16 : a0.tmps[16]? = some (.slice (some ⟨vg, vo, none⟩) 8 c8)) (v17 : a0.tmps[17]? = some (.int .i64 (k : Int))) (hk : (k : Int) < 64) (HC : Hid (∀ u, Below u0.drew.heap.size u0.drew u → u.cell? ⟨vg, vo + 7, none⟩ = some (.int .u32 (H : Int)) ∧ u.cell? ⟨vg, vo + 4, none⟩ = some (.int .u32 (E : Int)) ∧ u.cell? ⟨vg, vo + 5, none⟩ = some (.int .u32 (F : Int)) ∧ u.cell? ⟨vg, vo + 6, none⟩ = some (.int .u32 (G : Int)) ∧ u.cell? ⟨wh, 1, none⟩ = some (.slice (some ⟨kg, ko, none⟩) 64 cv) ∧ u.cell? ⟨kg, ko + k, none⟩ = some (.int .u32 (KK : Int)) ∧ u.cell? ⟨wg, k, none⟩ = some (.int .u32 (WK : Int))))
    (h6 : (∀ u, Calls Tryz.prog 32 #[.int .u32 (E : Int), .int .i64 6] u fun e u' => e = .returned (.int .u32 (r6 : Int)) ∧ u' = u)) (h11 : (∀ u, Calls Tryz.prog 32 #[.int .u32 (E : Int), .int .i64 11] u fun e u' => e = .returned (.int .u32 (r11 : Int)) ∧ u' = u)) (h25 : (∀ u, Calls Tryz.prog 32 #[.int .u32 (E : Int), .int .i64 25] u fun e u' => e = .returned (.int .u32 (r25 : Int)) ∧ u' = u))
    (q1 : bits .xor .u32 (r6 : Int) (r11 : Int) = (x1 : Int)) (q2 : bits .xor .u32 (x1 : Int) (r25 : Int) = (x2 : Int)) (q3 : IntKind.u32.wrap ((H : Int) + (x2 : Int)) = (s1 : Int)) (q4 : bits .and .u32 (E : Int) (F : Int) = (n1 : Int)) (q5 : bits .xor .u32 4294967295 (E : Int) = (n2 : Int)) (q6 : bits .and .u32 (n2 : Int) (G : Int) = (n3 : Int)) (q7 : bits .xor .u32 (n1 : Int) (n3 : Int) = (n4 : Int)) (q8 : IntKind.u32.wrap ((s1 : Int) + (n4 : Int)) = (s2 : Int)) (q9 : IntKind.u32.wrap ((s2 : Int) + (KK : Int)) = (s3 : Int)) (q10 : IntKind.u32.wrap ((s3 : Int) + (WK : Int)) = (T1 : Int))
    (hfin : ∀ (vs : Nat → Value) u, (∀ ix d, ((semTO[ix]?).bind (fun x => Oper.dst x)) = some d → semT E F G H r6 r11 r25 x1 x2 s1 n1 n2 n3 n4 s2 KK s3 WK T1 k vg vo c8 wh kg ko cv wg cw ix (vs ix) u) → Below u0.drew.heap.size u0.drew u → Q .normal (putFrom vs a0 semTO.toList 0) u) : (Code.region 31 semTO true).wp Tryz.prog Q a0 u0 := by
  unfold semTO
  refine free_walk (Sem := semT E F G H r6 r11 r25 x1 x2 s1 n1 n2 n3 n4 s2 KK s3 WK T1 k vg vo c8 wh kg ko cv wg cw) rfl (n := 314) (by kernel_rfl) hsz (by kernel_rfl) ?_ ?_ ?_
  · intro ix v u u' h hb
    match ix, h with
    | 0, h => exact h
    | 1, h => exact h
    | 2, h => exact h
    | 3, h => exact h
    | 4, h => exact h
    | 5, h => exact h
    | 6, h => exact h
    | 7, h => exact h
    | 8, h => exact h
    | 9, h => exact h
    | 10, h => exact h
    | 11, h => exact h
    | 12, h => exact h
    | 13, h => exact h
    | 14, h => exact h
    | 15, h => exact h
    | 16, h => exact h
    | 17, h => exact h
    | 18, h => exact h
    | 19, h => exact h
    | 20, h => exact h
    | 21, h => exact h
    | 22, h => exact h
    | 23, h => exact h
    | 24, h => exact h
    | 25, h => exact h
    | 26, h => exact h
    | 27, h => exact h
    | 28, h => exact h
    | 29, h => exact h
    | 30, h => exact h
    | 31, h => exact h
    | 32, h => exact h
    | 33, h => exact h
    | 34, h => exact h
    | 35, h => exact h
    | 36, h => exact h
    | 37, h => exact h
    | 38, h => exact h
    | 39, h => exact h
    | 40, h => exact h
    | 41, h => exact h
    | 42, h => exact h
    | 43, h => exact h
    | 44, h => exact h
    | 45, h => exact h
    | 46, h => exact h
    | _ + 47, _ => exact trivial
  · intro ix o a u ho hF hbu
    match ix, ho, hF with
    | 0, ho, hF =>
      obtain rfl := Option.some.inj ho
      have h16 : a.tmps[16]? = some (.slice (some ⟨vg, vo, none⟩) 8 c8) := (hF.out 16 rfl).trans v16
      refine free_step rfl (by rfl) (fun K' hK => ?_)
      go_simp
      exact hK.out _ _ rfl (Below.refl _ _)
    | 1, ho, hF =>
      obtain rfl := Option.some.inj ho
      obtain ⟨v156, h156, s156⟩ := hF.dep 0 156 rfl rfl
      obtain rfl : v156 = .slice (some ⟨vg, vo, none⟩) 8 c8 := s156
      refine free_step rfl (by rfl) (fun K' hK => ?_)
      go_simp
      exact hK.out _ _ rfl (Below.refl _ _)
    | 2, ho, hF =>
      obtain rfl := Option.some.inj ho
      obtain ⟨v157, h157, s157⟩ := hF.dep 1 157 rfl rfl
      obtain rfl : v157 = .pointer (some ⟨vg, vo + 7, none⟩) := s157
      have gx := (HC.out u hbu).1
      refine free_step rfl (by rfl) (fun K' hK => ?_)
      go_simp
      exact hK.out _ _ rfl (Below.refl _ _)
    | 3, ho, hF =>
      obtain rfl := Option.some.inj ho
      have h16 : a.tmps[16]? = some (.slice (some ⟨vg, vo, none⟩) 8 c8) := (hF.out 16 rfl).trans v16
      refine free_step rfl (by rfl) (fun K' hK => ?_)
      go_simp
      exact hK.out _ _ rfl (Below.refl _ _)
    | 4, ho, hF =>
      obtain rfl := Option.some.inj ho
      obtain ⟨v159, h159, s159⟩ := hF.dep 3 159 rfl rfl
      obtain rfl : v159 = .slice (some ⟨vg, vo, none⟩) 8 c8 := s159
      refine free_step rfl (by rfl) (fun K' hK => ?_)
      go_simp
      exact hK.out _ _ rfl (Below.refl _ _)
    | 5, ho, hF =>
      obtain rfl := Option.some.inj ho
      obtain ⟨v160, h160, s160⟩ := hF.dep 4 160 rfl rfl
      obtain rfl : v160 = .pointer (some ⟨vg, vo + 4, none⟩) := s160
      have gx := (HC.out u hbu).2.1
      refine free_step rfl (by rfl) (fun K' hK => ?_)
      go_simp
      exact hK.out _ _ rfl (Below.refl _ _)
    | 6, ho, hF =>
      obtain rfl := Option.some.inj ho
      obtain ⟨v161, h161, s161⟩ := hF.dep 5 161 rfl rfl
      obtain rfl : v161 = .int .u32 (E : Int) := s161
      refine free_step rfl (by rfl) (fun K' hK => ?_)
      go_wp2_with fail
      refine (h6 u).mono ?_
      rintro e u' ⟨rfl, rfl⟩
      go_simp
      exact hK.out _ _ rfl (Below.refl _ _)
    | 7, ho, hF =>
      obtain rfl := Option.some.inj ho
      have h16 : a.tmps[16]? = some (.slice (some ⟨vg, vo, none⟩) 8 c8) := (hF.out 16 rfl).trans v16
      refine free_step rfl (by rfl) (fun K' hK => ?_)
      go_simp
      exact hK.out _ _ rfl (Below.refl _ _)
    | 8, ho, hF =>
      obtain rfl := Option.some.inj ho
      obtain ⟨v163, h163, s163⟩ := hF.dep 7 163 rfl rfl
      obtain rfl : v163 = .slice (some ⟨vg, vo, none⟩) 8 c8 := s163
      refine free_step rfl (by rfl) (fun K' hK => ?_)
      go_simp
      exact hK.out _ _ rfl (Below.refl _ _)
    | 9, ho, hF =>
      obtain rfl := Option.some.inj ho
      obtain ⟨v164, h164, s164⟩ := hF.dep 8 164 rfl rfl
      obtain rfl : v164 = .pointer (some ⟨vg, vo + 4, none⟩) := s164
      have gx := (HC.out u hbu).2.1
      refine free_step rfl (by rfl) (fun K' hK => ?_)
      go_simp
      exact hK.out _ _ rfl (Below.refl _ _)
    | 10, ho, hF =>
      obtain rfl := Option.some.inj ho
      obtain ⟨v165, h165, s165⟩ := hF.dep 9 165 rfl rfl
      obtain rfl : v165 = .int .u32 (E : Int) := s165
      refine free_step rfl (by rfl) (fun K' hK => ?_)
      go_wp2_with fail
      refine (h11 u).mono ?_
      rintro e u' ⟨rfl, rfl⟩
      go_simp
      exact hK.out _ _ rfl (Below.refl _ _)
    | 11, ho, hF =>
      obtain rfl := Option.some.inj ho
      obtain ⟨v162, h162, s162⟩ := hF.dep 6 162 rfl rfl
      obtain rfl : v162 = .int .u32 (r6 : Int) := s162
      obtain ⟨v166, h166, s166⟩ := hF.dep 10 166 rfl rfl
      obtain rfl : v166 = .int .u32 (r11 : Int) := s166
      refine free_step rfl (by rfl) (fun K' hK => ?_)
      go_simp
      exact hK.out _ _ rfl (Below.refl _ _)
    | 12, ho, hF =>
      obtain rfl := Option.some.inj ho
      have h16 : a.tmps[16]? = some (.slice (some ⟨vg, vo, none⟩) 8 c8) := (hF.out 16 rfl).trans v16
      refine free_step rfl (by rfl) (fun K' hK => ?_)
      go_simp
      exact hK.out _ _ rfl (Below.refl _ _)
    | 13, ho, hF =>
      obtain rfl := Option.some.inj ho
      obtain ⟨v168, h168, s168⟩ := hF.dep 12 168 rfl rfl
      obtain rfl : v168 = .slice (some ⟨vg, vo, none⟩) 8 c8 := s168
      refine free_step rfl (by rfl) (fun K' hK => ?_)
      go_simp
      exact hK.out _ _ rfl (Below.refl _ _)
    | 14, ho, hF =>
      obtain rfl := Option.some.inj ho
      obtain ⟨v169, h169, s169⟩ := hF.dep 13 169 rfl rfl
      obtain rfl : v169 = .pointer (some ⟨vg, vo + 4, none⟩) := s169
      have gx := (HC.out u hbu).2.1
      refine free_step rfl (by rfl) (fun K' hK => ?_)
      go_simp
      exact hK.out _ _ rfl (Below.refl _ _)
    | 15, ho, hF =>
      obtain rfl := Option.some.inj ho
      obtain ⟨v170, h170, s170⟩ := hF.dep 14 170 rfl rfl
      obtain rfl : v170 = .int .u32 (E : Int) := s170
      refine free_step rfl (by rfl) (fun K' hK => ?_)
      go_wp2_with fail
      refine (h25 u).mono ?_
      rintro e u' ⟨rfl, rfl⟩
      go_simp
      exact hK.out _ _ rfl (Below.refl _ _)
    | 16, ho, hF =>
      obtain rfl := Option.some.inj ho
      obtain ⟨v167, h167, s167⟩ := hF.dep 11 167 rfl rfl
      obtain rfl : v167 = .int .u32 (x1 : Int) := s167
      obtain ⟨v171, h171, s171⟩ := hF.dep 15 171 rfl rfl
      obtain rfl : v171 = .int .u32 (r25 : Int) := s171
      refine free_step rfl (by rfl) (fun K' hK => ?_)
      go_simp
      exact hK.out _ _ rfl (Below.refl _ _)
    | 17, ho, hF =>
      obtain rfl := Option.some.inj ho
      obtain ⟨v158, h158, s158⟩ := hF.dep 2 158 rfl rfl
      obtain rfl : v158 = .int .u32 (H : Int) := s158
      obtain ⟨v172, h172, s172⟩ := hF.dep 16 172 rfl rfl
      obtain rfl : v172 = .int .u32 (x2 : Int) := s172
      refine free_step rfl (by rfl) (fun K' hK => ?_)
      go_simp
      exact hK.out _ _ rfl (Below.refl _ _)
    | 18, ho, hF =>
      obtain rfl := Option.some.inj ho
      have h16 : a.tmps[16]? = some (.slice (some ⟨vg, vo, none⟩) 8 c8) := (hF.out 16 rfl).trans v16
      refine free_step rfl (by rfl) (fun K' hK => ?_)
      go_simp
      exact hK.out _ _ rfl (Below.refl _ _)
    | 19, ho, hF =>
      obtain rfl := Option.some.inj ho
      obtain ⟨v174, h174, s174⟩ := hF.dep 18 174 rfl rfl
      obtain rfl : v174 = .slice (some ⟨vg, vo, none⟩) 8 c8 := s174
      refine free_step rfl (by rfl) (fun K' hK => ?_)
      go_simp
      exact hK.out _ _ rfl (Below.refl _ _)
    | 20, ho, hF =>
      obtain rfl := Option.some.inj ho
      obtain ⟨v175, h175, s175⟩ := hF.dep 19 175 rfl rfl
      obtain rfl : v175 = .pointer (some ⟨vg, vo + 4, none⟩) := s175
      have gx := (HC.out u hbu).2.1
      refine free_step rfl (by rfl) (fun K' hK => ?_)
      go_simp
      exact hK.out _ _ rfl (Below.refl _ _)
    | 21, ho, hF =>
      obtain rfl := Option.some.inj ho
      have h16 : a.tmps[16]? = some (.slice (some ⟨vg, vo, none⟩) 8 c8) := (hF.out 16 rfl).trans v16
      refine free_step rfl (by rfl) (fun K' hK => ?_)
      go_simp
      exact hK.out _ _ rfl (Below.refl _ _)
    | 22, ho, hF =>
      obtain rfl := Option.some.inj ho
      obtain ⟨v177, h177, s177⟩ := hF.dep 21 177 rfl rfl
      obtain rfl : v177 = .slice (some ⟨vg, vo, none⟩) 8 c8 := s177
      refine free_step rfl (by rfl) (fun K' hK => ?_)
      go_simp
      exact hK.out _ _ rfl (Below.refl _ _)
    | 23, ho, hF =>
      obtain rfl := Option.some.inj ho
      obtain ⟨v178, h178, s178⟩ := hF.dep 22 178 rfl rfl
      obtain rfl : v178 = .pointer (some ⟨vg, vo + 5, none⟩) := s178
      have gx := (HC.out u hbu).2.2.1
      refine free_step rfl (by rfl) (fun K' hK => ?_)
      go_simp
      exact hK.out _ _ rfl (Below.refl _ _)
    | 24, ho, hF =>
      obtain rfl := Option.some.inj ho
      obtain ⟨v176, h176, s176⟩ := hF.dep 20 176 rfl rfl
      obtain rfl : v176 = .int .u32 (E : Int) := s176
      obtain ⟨v179, h179, s179⟩ := hF.dep 23 179 rfl rfl
      obtain rfl : v179 = .int .u32 (F : Int) := s179
      refine free_step rfl (by rfl) (fun K' hK => ?_)
      go_simp
      exact hK.out _ _ rfl (Below.refl _ _)
    | 25, ho, hF =>
      obtain rfl := Option.some.inj ho
      have h16 : a.tmps[16]? = some (.slice (some ⟨vg, vo, none⟩) 8 c8) := (hF.out 16 rfl).trans v16
      refine free_step rfl (by rfl) (fun K' hK => ?_)
      go_simp
      exact hK.out _ _ rfl (Below.refl _ _)
    | 26, ho, hF =>
      obtain rfl := Option.some.inj ho
      obtain ⟨v181, h181, s181⟩ := hF.dep 25 181 rfl rfl
      obtain rfl : v181 = .slice (some ⟨vg, vo, none⟩) 8 c8 := s181
      refine free_step rfl (by rfl) (fun K' hK => ?_)
      go_simp
      exact hK.out _ _ rfl (Below.refl _ _)
    | 27, ho, hF =>
      obtain rfl := Option.some.inj ho
      obtain ⟨v182, h182, s182⟩ := hF.dep 26 182 rfl rfl
      obtain rfl : v182 = .pointer (some ⟨vg, vo + 4, none⟩) := s182
      have gx := (HC.out u hbu).2.1
      refine free_step rfl (by rfl) (fun K' hK => ?_)
      go_simp
      exact hK.out _ _ rfl (Below.refl _ _)
    | 28, ho, hF =>
      obtain rfl := Option.some.inj ho
      obtain ⟨v183, h183, s183⟩ := hF.dep 27 183 rfl rfl
      obtain rfl : v183 = .int .u32 (E : Int) := s183
      refine free_step rfl (by rfl) (fun K' hK => ?_)
      go_simp
      exact hK.out _ _ rfl (Below.refl _ _)
    | 29, ho, hF =>
      obtain rfl := Option.some.inj ho
      have h16 : a.tmps[16]? = some (.slice (some ⟨vg, vo, none⟩) 8 c8) := (hF.out 16 rfl).trans v16
      refine free_step rfl (by rfl) (fun K' hK => ?_)
      go_simp
      exact hK.out _ _ rfl (Below.refl _ _)
    | 30, ho, hF =>
      obtain rfl := Option.some.inj ho
      obtain ⟨v185, h185, s185⟩ := hF.dep 29 185 rfl rfl
      obtain rfl : v185 = .slice (some ⟨vg, vo, none⟩) 8 c8 := s185
      refine free_step rfl (by rfl) (fun K' hK => ?_)
      go_simp
      exact hK.out _ _ rfl (Below.refl _ _)
    | 31, ho, hF =>
      obtain rfl := Option.some.inj ho
      obtain ⟨v186, h186, s186⟩ := hF.dep 30 186 rfl rfl
      obtain rfl : v186 = .pointer (some ⟨vg, vo + 6, none⟩) := s186
      have gx := (HC.out u hbu).2.2.2.1
      refine free_step rfl (by rfl) (fun K' hK => ?_)
      go_simp
      exact hK.out _ _ rfl (Below.refl _ _)
    | 32, ho, hF =>
      obtain rfl := Option.some.inj ho
      obtain ⟨v184, h184, s184⟩ := hF.dep 28 184 rfl rfl
      obtain rfl : v184 = .int .u32 (n2 : Int) := s184
      obtain ⟨v187, h187, s187⟩ := hF.dep 31 187 rfl rfl
      obtain rfl : v187 = .int .u32 (G : Int) := s187
      refine free_step rfl (by rfl) (fun K' hK => ?_)
      go_simp
      exact hK.out _ _ rfl (Below.refl _ _)
    | 33, ho, hF =>
      obtain rfl := Option.some.inj ho
      obtain ⟨v180, h180, s180⟩ := hF.dep 24 180 rfl rfl
      obtain rfl : v180 = .int .u32 (n1 : Int) := s180
      obtain ⟨v188, h188, s188⟩ := hF.dep 32 188 rfl rfl
      obtain rfl : v188 = .int .u32 (n3 : Int) := s188
      refine free_step rfl (by rfl) (fun K' hK => ?_)
      go_simp
      exact hK.out _ _ rfl (Below.refl _ _)
    | 34, ho, hF =>
      obtain rfl := Option.some.inj ho
      obtain ⟨v173, h173, s173⟩ := hF.dep 17 173 rfl rfl
      obtain rfl : v173 = .int .u32 (s1 : Int) := s173
      obtain ⟨v189, h189, s189⟩ := hF.dep 33 189 rfl rfl
      obtain rfl : v189 = .int .u32 (n4 : Int) := s189
      refine free_step rfl (by rfl) (fun K' hK => ?_)
      go_simp
      exact hK.out _ _ rfl (Below.refl _ _)
    | 35, ho, hF =>
      obtain rfl := Option.some.inj ho
      have h2 : a.tmps[2]? = some (.pointer (some ⟨wh, 0, none⟩)) := (hF.out 2 rfl).trans v2
      refine free_step rfl (by rfl) (fun K' hK => ?_)
      go_simp
      exact hK.out _ _ rfl (Below.refl _ _)
    | 36, ho, hF =>
      obtain rfl := Option.some.inj ho
      obtain ⟨v191, h191, s191⟩ := hF.dep 35 191 rfl rfl
      obtain rfl : v191 = .pointer (some ⟨wh, 1, none⟩) := s191
      have gx := (HC.out u hbu).2.2.2.2.1
      refine free_step rfl (by rfl) (fun K' hK => ?_)
      go_simp
      exact hK.out _ _ rfl (Below.refl _ _)
    | 37, ho, hF =>
      obtain rfl := Option.some.inj ho
      have h17 : a.tmps[17]? = some (.int .i64 (k : Int)) := (hF.out 17 rfl).trans v17
      refine free_step rfl (by rfl) (fun K' hK => ?_)
      go_simp
      exact hK.out _ _ rfl (Below.refl _ _)
    | 38, ho, hF =>
      obtain rfl := Option.some.inj ho
      obtain ⟨v192, h192, s192⟩ := hF.dep 36 192 rfl rfl
      obtain rfl : v192 = .slice (some ⟨kg, ko, none⟩) 64 cv := s192
      obtain ⟨v193, h193, s193⟩ := hF.dep 37 193 rfl rfl
      obtain rfl : v193 = .int .i64 (k : Int) := s193
      refine free_step rfl (by rfl) (fun K' hK => ?_)
      go_simp
      exact hK.out _ _ rfl (Below.refl _ _)
    | 39, ho, hF =>
      obtain rfl := Option.some.inj ho
      obtain ⟨v194, h194, s194⟩ := hF.dep 38 194 rfl rfl
      obtain rfl : v194 = .pointer (some ⟨kg, ko + k, none⟩) := s194
      have gx := (HC.out u hbu).2.2.2.2.2.1
      refine free_step rfl (by rfl) (fun K' hK => ?_)
      go_simp
      exact hK.out _ _ rfl (Below.refl _ _)
    | 40, ho, hF =>
      obtain rfl := Option.some.inj ho
      obtain ⟨v190, h190, s190⟩ := hF.dep 34 190 rfl rfl
      obtain rfl : v190 = .int .u32 (s2 : Int) := s190
      obtain ⟨v195, h195, s195⟩ := hF.dep 39 195 rfl rfl
      obtain rfl : v195 = .int .u32 (KK : Int) := s195
      refine free_step rfl (by rfl) (fun K' hK => ?_)
      go_simp
      exact hK.out _ _ rfl (Below.refl _ _)
    | 41, ho, hF =>
      obtain rfl := Option.some.inj ho
      have h11 : a.tmps[11]? = some (.slice (some ⟨wg, 0, none⟩) 64 cw) := (hF.out 11 rfl).trans v11
      refine free_step rfl (by rfl) (fun K' hK => ?_)
      go_simp
      exact hK.out _ _ rfl (Below.refl _ _)
    | 42, ho, hF =>
      obtain rfl := Option.some.inj ho
      have h17 : a.tmps[17]? = some (.int .i64 (k : Int)) := (hF.out 17 rfl).trans v17
      refine free_step rfl (by rfl) (fun K' hK => ?_)
      go_simp
      exact hK.out _ _ rfl (Below.refl _ _)
    | 43, ho, hF =>
      obtain rfl := Option.some.inj ho
      obtain ⟨v197, h197, s197⟩ := hF.dep 41 197 rfl rfl
      obtain rfl : v197 = .slice (some ⟨wg, 0, none⟩) 64 cw := s197
      obtain ⟨v198, h198, s198⟩ := hF.dep 42 198 rfl rfl
      obtain rfl : v198 = .int .i64 (k : Int) := s198
      refine free_step rfl (by rfl) (fun K' hK => ?_)
      go_simp
      exact hK.out _ _ rfl (Below.refl _ _)
    | 44, ho, hF =>
      obtain rfl := Option.some.inj ho
      obtain ⟨v199, h199, s199⟩ := hF.dep 43 199 rfl rfl
      obtain rfl : v199 = .pointer (some ⟨wg, k, none⟩) := s199
      have gx := (HC.out u hbu).2.2.2.2.2.2
      refine free_step rfl (by rfl) (fun K' hK => ?_)
      go_simp
      exact hK.out _ _ rfl (Below.refl _ _)
    | 45, ho, hF =>
      obtain rfl := Option.some.inj ho
      obtain ⟨v196, h196, s196⟩ := hF.dep 40 196 rfl rfl
      obtain rfl : v196 = .int .u32 (s3 : Int) := s196
      obtain ⟨v200, h200, s200⟩ := hF.dep 44 200 rfl rfl
      obtain rfl : v200 = .int .u32 (WK : Int) := s200
      refine free_step rfl (by rfl) (fun K' hK => ?_)
      go_simp
      exact hK.out _ _ rfl (Below.refl _ _)
    | 46, ho, hF =>
      obtain rfl := Option.some.inj ho
      obtain ⟨v201, h201, s201⟩ := hF.dep 45 201 rfl rfl
      obtain rfl : v201 = .int .u32 (T1 : Int) := s201
      refine free_step rfl (by rfl) (fun K' hK => ?_)
      go_simp
      exact hK.out _ _ rfl (Below.refl _ _)
    | n + 47, ho, _ => exact absurd (Array.getElem?_eq_some_iff.1 ho).1 (by show ¬ n + 47 < 47; omega)
  · intro vs u hS hbu
    exact hfin vs u hS hbu
end Go.Proofs.YtpcmpeeflnlkpaaGreatDoor
