
/-
  The document's Sum: one of its regions that draw.
-/
import Derived.Test.YtpcmpeeflnlkpaaGreatDoorVWordsEtc
namespace Go.Proofs.YtpcmpeeflnlkpaaGreatDoor
open Go.RowKit Ch
set_option maxRecDepth 100000
def semUO : Array Oper := #[{ dst := some 202, op := Go.Op.move (Go.Operand.tmp 16), type := 37, pos := "ref.go:157", after := #[], guard := none }, { dst := some 203, op := Go.Op.indexAddr 37 (Go.Operand.tmp 202) (Go.Operand.const (Go.Value.int Go.IntKind.i64 0)), type := 0, pos := "ref.go:157", after := #[{ on := 0, ground := Go.Ground.data }], guard := none }, { dst := some 204, op := Go.Op.load 63 (Go.Operand.tmp 203), type := 63, pos := "ref.go:157", after := #[{ on := 1, ground := Go.Ground.data }], guard := none }, { dst := some 205, op := Go.Op.call { callee := Go.Callee.value (Go.Operand.func 32), args := #[Go.Operand.tmp 204, Go.Operand.const (Go.Value.int Go.IntKind.i64 2)], argTypes := #[63, 3] }, type := 63, pos := "ref.go:157", after := #[{ on := 2, ground := Go.Ground.data }], guard := none }, { dst := some 206, op := Go.Op.move (Go.Operand.tmp 16), type := 37, pos := "ref.go:157", after := #[], guard := none }, { dst := some 207, op := Go.Op.indexAddr 37 (Go.Operand.tmp 206) (Go.Operand.const (Go.Value.int Go.IntKind.i64 0)), type := 0, pos := "ref.go:157", after := #[{ on := 4, ground := Go.Ground.data }], guard := none }, { dst := some 208, op := Go.Op.load 63 (Go.Operand.tmp 207), type := 63, pos := "ref.go:157", after := #[{ on := 5, ground := Go.Ground.data }], guard := none }, { dst := some 209, op := Go.Op.call { callee := Go.Callee.value (Go.Operand.func 32), args := #[Go.Operand.tmp 208, Go.Operand.const (Go.Value.int Go.IntKind.i64 13)], argTypes := #[63, 3] }, type := 63, pos := "ref.go:157", after := #[{ on := 6, ground := Go.Ground.data }, { on := 3, ground := Go.Ground.chain }], guard := none }, { dst := some 210, op := Go.Op.binOp Go.BinOp.xor 63 (Go.Operand.tmp 205) (Go.Operand.tmp 209) 63, type := 63, pos := "ref.go:157", after := #[{ on := 3, ground := Go.Ground.data }, { on := 7, ground := Go.Ground.data }], guard := none }, { dst := some 211, op := Go.Op.move (Go.Operand.tmp 16), type := 37, pos := "ref.go:157", after := #[], guard := none }, { dst := some 212, op := Go.Op.indexAddr 37 (Go.Operand.tmp 211) (Go.Operand.const (Go.Value.int Go.IntKind.i64 0)), type := 0, pos := "ref.go:157", after := #[{ on := 9, ground := Go.Ground.data }], guard := none }, { dst := some 213, op := Go.Op.load 63 (Go.Operand.tmp 212), type := 63, pos := "ref.go:157", after := #[{ on := 10, ground := Go.Ground.data }], guard := none }, { dst := some 214, op := Go.Op.call { callee := Go.Callee.value (Go.Operand.func 32), args := #[Go.Operand.tmp 213, Go.Operand.const (Go.Value.int Go.IntKind.i64 22)], argTypes := #[63, 3] }, type := 63, pos := "ref.go:157", after := #[{ on := 11, ground := Go.Ground.data }, { on := 7, ground := Go.Ground.chain }], guard := none }, { dst := some 215, op := Go.Op.binOp Go.BinOp.xor 63 (Go.Operand.tmp 210) (Go.Operand.tmp 214) 63, type := 63, pos := "ref.go:157", after := #[{ on := 8, ground := Go.Ground.data }, { on := 12, ground := Go.Ground.data }], guard := none }, { dst := some 216, op := Go.Op.move (Go.Operand.tmp 16), type := 37, pos := "ref.go:157", after := #[], guard := none }, { dst := some 217, op := Go.Op.indexAddr 37 (Go.Operand.tmp 216) (Go.Operand.const (Go.Value.int Go.IntKind.i64 0)), type := 0, pos := "ref.go:157", after := #[{ on := 14, ground := Go.Ground.data }], guard := none }, { dst := some 218, op := Go.Op.load 63 (Go.Operand.tmp 217), type := 63, pos := "ref.go:157", after := #[{ on := 15, ground := Go.Ground.data }], guard := none }, { dst := some 219, op := Go.Op.move (Go.Operand.tmp 16), type := 37, pos := "ref.go:157", after := #[], guard := none }, { dst := some 220, op := Go.Op.indexAddr 37 (Go.Operand.tmp 219) (Go.Operand.const (Go.Value.int Go.IntKind.i64 1)), type := 0, pos := "ref.go:157", after := #[{ on := 17, ground := Go.Ground.data }], guard := none }, { dst := some 221, op := Go.Op.load 63 (Go.Operand.tmp 220), type := 63, pos := "ref.go:157", after := #[{ on := 18, ground := Go.Ground.data }], guard := none }, { dst := some 222, op := Go.Op.binOp Go.BinOp.and 63 (Go.Operand.tmp 218) (Go.Operand.tmp 221) 63, type := 63, pos := "ref.go:157", after := #[{ on := 16, ground := Go.Ground.data }, { on := 19, ground := Go.Ground.data }], guard := none }, { dst := some 223, op := Go.Op.move (Go.Operand.tmp 16), type := 37, pos := "ref.go:157", after := #[], guard := none }, { dst := some 224, op := Go.Op.indexAddr 37 (Go.Operand.tmp 223) (Go.Operand.const (Go.Value.int Go.IntKind.i64 0)), type := 0, pos := "ref.go:157", after := #[{ on := 21, ground := Go.Ground.data }], guard := none }, { dst := some 225, op := Go.Op.load 63 (Go.Operand.tmp 224), type := 63, pos := "ref.go:157", after := #[{ on := 22, ground := Go.Ground.data }], guard := none }, { dst := some 226, op := Go.Op.move (Go.Operand.tmp 16), type := 37, pos := "ref.go:157", after := #[], guard := none }, { dst := some 227, op := Go.Op.indexAddr 37 (Go.Operand.tmp 226) (Go.Operand.const (Go.Value.int Go.IntKind.i64 2)), type := 0, pos := "ref.go:157", after := #[{ on := 24, ground := Go.Ground.data }], guard := none }, { dst := some 228, op := Go.Op.load 63 (Go.Operand.tmp 227), type := 63, pos := "ref.go:157", after := #[{ on := 25, ground := Go.Ground.data }], guard := none }, { dst := some 229, op := Go.Op.binOp Go.BinOp.and 63 (Go.Operand.tmp 225) (Go.Operand.tmp 228) 63, type := 63, pos := "ref.go:157", after := #[{ on := 23, ground := Go.Ground.data }, { on := 26, ground := Go.Ground.data }], guard := none }, { dst := some 230, op := Go.Op.binOp Go.BinOp.or 63 (Go.Operand.tmp 222) (Go.Operand.tmp 229) 63, type := 63, pos := "ref.go:157", after := #[{ on := 20, ground := Go.Ground.data }, { on := 27, ground := Go.Ground.data }], guard := none }, { dst := some 231, op := Go.Op.move (Go.Operand.tmp 16), type := 37, pos := "ref.go:157", after := #[], guard := none }, { dst := some 232, op := Go.Op.indexAddr 37 (Go.Operand.tmp 231) (Go.Operand.const (Go.Value.int Go.IntKind.i64 1)), type := 0, pos := "ref.go:157", after := #[{ on := 29, ground := Go.Ground.data }], guard := none }, { dst := some 233, op := Go.Op.load 63 (Go.Operand.tmp 232), type := 63, pos := "ref.go:157", after := #[{ on := 30, ground := Go.Ground.data }], guard := none }, { dst := some 234, op := Go.Op.move (Go.Operand.tmp 16), type := 37, pos := "ref.go:157", after := #[], guard := none }, { dst := some 235, op := Go.Op.indexAddr 37 (Go.Operand.tmp 234) (Go.Operand.const (Go.Value.int Go.IntKind.i64 2)), type := 0, pos := "ref.go:157", after := #[{ on := 32, ground := Go.Ground.data }], guard := none }, { dst := some 236, op := Go.Op.load 63 (Go.Operand.tmp 235), type := 63, pos := "ref.go:157", after := #[{ on := 33, ground := Go.Ground.data }], guard := none }, { dst := some 237, op := Go.Op.binOp Go.BinOp.and 63 (Go.Operand.tmp 233) (Go.Operand.tmp 236) 63, type := 63, pos := "ref.go:157", after := #[{ on := 31, ground := Go.Ground.data }, { on := 34, ground := Go.Ground.data }], guard := none }, { dst := some 238, op := Go.Op.binOp Go.BinOp.or 63 (Go.Operand.tmp 230) (Go.Operand.tmp 237) 63, type := 63, pos := "ref.go:157", after := #[{ on := 28, ground := Go.Ground.data }, { on := 35, ground := Go.Ground.data }], guard := none }, { dst := some 239, op := Go.Op.binOp Go.BinOp.add 63 (Go.Operand.tmp 215) (Go.Operand.tmp 238) 63, type := 63, pos := "ref.go:157", after := #[{ on := 13, ground := Go.Ground.data }, { on := 36, ground := Go.Ground.data }], guard := none }, { dst := some 19, op := Go.Op.assign (Go.Operand.tmp 239), type := 63, pos := "ref.go:157", after := #[{ on := 37, ground := Go.Ground.data }, { on := 12, ground := Go.Ground.chain }, { on := 0, ground := Go.Ground.phase }, { on := 1, ground := Go.Ground.phase }, { on := 2, ground := Go.Ground.phase }, { on := 3, ground := Go.Ground.phase }, { on := 4, ground := Go.Ground.phase }, { on := 5, ground := Go.Ground.phase }, { on := 6, ground := Go.Ground.phase }, { on := 7, ground := Go.Ground.phase }, { on := 8, ground := Go.Ground.phase }, { on := 9, ground := Go.Ground.phase }, { on := 10, ground := Go.Ground.phase }, { on := 11, ground := Go.Ground.phase }, { on := 12, ground := Go.Ground.phase }, { on := 13, ground := Go.Ground.phase }, { on := 14, ground := Go.Ground.phase }, { on := 15, ground := Go.Ground.phase }, { on := 16, ground := Go.Ground.phase }, { on := 17, ground := Go.Ground.phase }, { on := 18, ground := Go.Ground.phase }, { on := 19, ground := Go.Ground.phase }, { on := 20, ground := Go.Ground.phase }, { on := 21, ground := Go.Ground.phase }, { on := 22, ground := Go.Ground.phase }, { on := 23, ground := Go.Ground.phase }, { on := 24, ground := Go.Ground.phase }, { on := 25, ground := Go.Ground.phase }, { on := 26, ground := Go.Ground.phase }, { on := 27, ground := Go.Ground.phase }, { on := 28, ground := Go.Ground.phase }, { on := 29, ground := Go.Ground.phase }, { on := 30, ground := Go.Ground.phase }, { on := 31, ground := Go.Ground.phase }, { on := 32, ground := Go.Ground.phase }, { on := 33, ground := Go.Ground.phase }, { on := 34, ground := Go.Ground.phase }, { on := 35, ground := Go.Ground.phase }, { on := 36, ground := Go.Ground.phase }, { on := 37, ground := Go.Ground.phase }], guard := none }]
def semU (A B C r2 r13 r22 x1 x2 n1 n2 n3 n4 n5 T2 : Nat) (vg vo c8 : Nat) : Nat → Value → World → Prop := fun ix v _ => match ix with
  | 0 => v = .slice (some ⟨vg, vo, none⟩) 8 c8
  | 1 => v = .pointer (some ⟨vg, vo, none⟩)
  | 2 => v = .int .u32 (A : Int)
  | 3 => v = .int .u32 (r2 : Int)
  | 4 => v = .slice (some ⟨vg, vo, none⟩) 8 c8
  | 5 => v = .pointer (some ⟨vg, vo, none⟩)
  | 6 => v = .int .u32 (A : Int)
  | 7 => v = .int .u32 (r13 : Int)
  | 8 => v = .int .u32 (x1 : Int)
  | 9 => v = .slice (some ⟨vg, vo, none⟩) 8 c8
  | 10 => v = .pointer (some ⟨vg, vo, none⟩)
  | 11 => v = .int .u32 (A : Int)
  | 12 => v = .int .u32 (r22 : Int)
  | 13 => v = .int .u32 (x2 : Int)
  | 14 => v = .slice (some ⟨vg, vo, none⟩) 8 c8
  | 15 => v = .pointer (some ⟨vg, vo, none⟩)
  | 16 => v = .int .u32 (A : Int)
  | 17 => v = .slice (some ⟨vg, vo, none⟩) 8 c8
  | 18 => v = .pointer (some ⟨vg, vo + 1, none⟩)
  | 19 => v = .int .u32 (B : Int)
  | 20 => v = .int .u32 (n1 : Int)
  | 21 => v = .slice (some ⟨vg, vo, none⟩) 8 c8
  | 22 => v = .pointer (some ⟨vg, vo, none⟩)
  | 23 => v = .int .u32 (A : Int)
  | 24 => v = .slice (some ⟨vg, vo, none⟩) 8 c8
  | 25 => v = .pointer (some ⟨vg, vo + 2, none⟩)
  | 26 => v = .int .u32 (C : Int)
  | 27 => v = .int .u32 (n2 : Int)
  | 28 => v = .int .u32 (n3 : Int)
  | 29 => v = .slice (some ⟨vg, vo, none⟩) 8 c8
  | 30 => v = .pointer (some ⟨vg, vo + 1, none⟩)
  | 31 => v = .int .u32 (B : Int)
  | 32 => v = .slice (some ⟨vg, vo, none⟩) 8 c8
  | 33 => v = .pointer (some ⟨vg, vo + 2, none⟩)
  | 34 => v = .int .u32 (C : Int)
  | 35 => v = .int .u32 (n4 : Int)
  | 36 => v = .int .u32 (n5 : Int)
  | 37 => v = .int .u32 (T2 : Int)
  | 38 => v = .int .u32 (T2 : Int)
  | _ => True
set_option maxHeartbeats 2000000 in
theorem semUR (A B C r2 r13 r22 x1 x2 n1 n2 n3 n4 n5 T2 : Nat) (vg vo c8 : Nat)  {Q : Exit → Act → World → Prop} {a0 : Act} {u0 : World} (hsz : a0.tmps.size = 314) (v16 : a0.tmps[16]? = some (.slice (some ⟨vg, vo, none⟩) 8 c8)) (HC : Hid (∀ u, Below u0.drew.heap.size u0.drew u → u.cell? ⟨vg, vo, none⟩ = some (.int .u32 (A : Int)) ∧ u.cell? ⟨vg, vo + 1, none⟩ = some (.int .u32 (B : Int)) ∧ u.cell? ⟨vg, vo + 2, none⟩ = some (.int .u32 (C : Int))))
    (h2 : (∀ u, Calls Tryz.prog 32 #[.int .u32 (A : Int), .int .i64 2] u fun e u' => e = .returned (.int .u32 (r2 : Int)) ∧ u' = u)) (h13 : (∀ u, Calls Tryz.prog 32 #[.int .u32 (A : Int), .int .i64 13] u fun e u' => e = .returned (.int .u32 (r13 : Int)) ∧ u' = u)) (h22 : (∀ u, Calls Tryz.prog 32 #[.int .u32 (A : Int), .int .i64 22] u fun e u' => e = .returned (.int .u32 (r22 : Int)) ∧ u' = u))
    (q1 : bits .xor .u32 (r2 : Int) (r13 : Int) = (x1 : Int)) (q2 : bits .xor .u32 (x1 : Int) (r22 : Int) = (x2 : Int)) (q3 : bits .and .u32 (A : Int) (B : Int) = (n1 : Int)) (q4 : bits .and .u32 (A : Int) (C : Int) = (n2 : Int)) (q5 : bits .or .u32 (n1 : Int) (n2 : Int) = (n3 : Int)) (q6 : bits .and .u32 (B : Int) (C : Int) = (n4 : Int)) (q7 : bits .or .u32 (n3 : Int) (n4 : Int) = (n5 : Int)) (q8 : IntKind.u32.wrap ((x2 : Int) + (n5 : Int)) = (T2 : Int))
    (hfin : ∀ (vs : Nat → Value) u, (∀ ix d, ((semUO[ix]?).bind (fun x => Oper.dst x)) = some d → semU A B C r2 r13 r22 x1 x2 n1 n2 n3 n4 n5 T2 vg vo c8 ix (vs ix) u) → Below u0.drew.heap.size u0.drew u → Q .normal (putFrom vs a0 semUO.toList 0) u) : (Code.region 32 semUO true).wp Tryz.prog Q a0 u0 := by
  unfold semUO
  refine free_walk (Sem := semU A B C r2 r13 r22 x1 x2 n1 n2 n3 n4 n5 T2 vg vo c8) rfl (n := 314) (by kernel_rfl) hsz (by kernel_rfl) ?_ ?_ ?_
  · intro ix v u u' h hb
    match ix, h with
    | 0, h => exact h
    | 1, h => exact h
    | 2, h => exact h
    | 3, h => exact h
    | 4, h => exact h
    | 5, h => exact h
    | 6, h => exact h
    | 7, h => exact h
    | 8, h => exact h
    | 9, h => exact h
    | 10, h => exact h
    | 11, h => exact h
    | 12, h => exact h
    | 13, h => exact h
    | 14, h => exact h
    | 15, h => exact h
    | 16, h => exact h
    | 17, h => exact h
    | 18, h => exact h
    | 19, h => exact h
    | 20, h => exact h
    | 21, h => exact h
    | 22, h => exact h
    | 23, h => exact h
    | 24, h => exact h
    | 25, h => exact h
    | 26, h => exact h
    | 27, h => exact h
    | 28, h => exact h
    | 29, h => exact h
    | 30, h => exact h
    | 31, h => exact h
    | 32, h => exact h
    | 33, h => exact h
    | 34, h => exact h
    | 35, h => exact h
    | 36, h => exact h
    | 37, h => exact h
    | 38, h => exact h
    | _ + 39, _ => exact trivial
  · intro ix o a u ho hF hbu
    match ix, ho, hF with
    | 0, ho, hF =>
      obtain rfl := Option.some.inj ho
      have h16 : a.tmps[16]? = some (.slice (some ⟨vg, vo, none⟩) 8 c8) := (hF.out 16 rfl).trans v16
      refine free_step rfl (by rfl) (fun K' hK => ?_)
      go_simp
      exact hK.out _ _ rfl (Below.refl _ _)
    | 1, ho, hF =>
      obtain rfl := Option.some.inj ho
      obtain ⟨v202, h202, s202⟩ := hF.dep 0 202 rfl rfl
      obtain rfl : v202 = .slice (some ⟨vg, vo, none⟩) 8 c8 := s202
      refine free_step rfl (by rfl) (fun K' hK => ?_)
      go_simp
      exact hK.out _ _ rfl (Below.refl _ _)
    | 2, ho, hF =>
      obtain rfl := Option.some.inj ho
      obtain ⟨v203, h203, s203⟩ := hF.dep 1 203 rfl rfl
      obtain rfl : v203 = .pointer (some ⟨vg, vo, none⟩) := s203
      have gx := (HC.out u hbu).1
      refine free_step rfl (by rfl) (fun K' hK => ?_)
      go_simp
      exact hK.out _ _ rfl (Below.refl _ _)
    | 3, ho, hF =>
      obtain rfl := Option.some.inj ho
      obtain ⟨v204, h204, s204⟩ := hF.dep 2 204 rfl rfl
      obtain rfl : v204 = .int .u32 (A : Int) := s204
      refine free_step rfl (by rfl) (fun K' hK => ?_)
      go_wp2_with fail
      refine (h2 u).mono ?_
      rintro e u' ⟨rfl, rfl⟩
      go_simp
      exact hK.out _ _ rfl (Below.refl _ _)
    | 4, ho, hF =>
      obtain rfl := Option.some.inj ho
      have h16 : a.tmps[16]? = some (.slice (some ⟨vg, vo, none⟩) 8 c8) := (hF.out 16 rfl).trans v16
      refine free_step rfl (by rfl) (fun K' hK => ?_)
      go_simp
      exact hK.out _ _ rfl (Below.refl _ _)
    | 5, ho, hF =>
      obtain rfl := Option.some.inj ho
      obtain ⟨v206, h206, s206⟩ := hF.dep 4 206 rfl rfl
      obtain rfl : v206 = .slice (some ⟨vg, vo, none⟩) 8 c8 := s206
      refine free_step rfl (by rfl) (fun K' hK => ?_)
      go_simp
      exact hK.out _ _ rfl (Below.refl _ _)
    | 6, ho, hF =>
      obtain rfl := Option.some.inj ho
      obtain ⟨v207, h207, s207⟩ := hF.dep 5 207 rfl rfl
      obtain rfl : v207 = .pointer (some ⟨vg, vo, none⟩) := s207
      have gx := (HC.out u hbu).1
      refine free_step rfl (by rfl) (fun K' hK => ?_)
      go_simp
      exact hK.out _ _ rfl (Below.refl _ _)
    | 7, ho, hF =>
      obtain rfl := Option.some.inj ho
      obtain ⟨v208, h208, s208⟩ := hF.dep 6 208 rfl rfl
      obtain rfl : v208 = .int .u32 (A : Int) := s208
      refine free_step rfl (by rfl) (fun K' hK => ?_)
      go_wp2_with fail
      refine (h13 u).mono ?_
      rintro e u' ⟨rfl, rfl⟩
      go_simp
      exact hK.out _ _ rfl (Below.refl _ _)
    | 8, ho, hF =>
      obtain rfl := Option.some.inj ho
      obtain ⟨v205, h205, s205⟩ := hF.dep 3 205 rfl rfl
      obtain rfl : v205 = .int .u32 (r2 : Int) := s205
      obtain ⟨v209, h209, s209⟩ := hF.dep 7 209 rfl rfl
      obtain rfl : v209 = .int .u32 (r13 : Int) := s209
      refine free_step rfl (by rfl) (fun K' hK => ?_)
      go_simp
      exact hK.out _ _ rfl (Below.refl _ _)
    | 9, ho, hF =>
      obtain rfl := Option.some.inj ho
      have h16 : a.tmps[16]? = some (.slice (some ⟨vg, vo, none⟩) 8 c8) := (hF.out 16 rfl).trans v16
      refine free_step rfl (by rfl) (fun K' hK => ?_)
      go_simp
      exact hK.out _ _ rfl (Below.refl _ _)
    | 10, ho, hF =>
      obtain rfl := Option.some.inj ho
      obtain ⟨v211, h211, s211⟩ := hF.dep 9 211 rfl rfl
      obtain rfl : v211 = .slice (some ⟨vg, vo, none⟩) 8 c8 := s211
      refine free_step rfl (by rfl) (fun K' hK => ?_)
      go_simp
      exact hK.out _ _ rfl (Below.refl _ _)
    | 11, ho, hF =>
      obtain rfl := Option.some.inj ho
      obtain ⟨v212, h212, s212⟩ := hF.dep 10 212 rfl rfl
      obtain rfl : v212 = .pointer (some ⟨vg, vo, none⟩) := s212
      have gx := (HC.out u hbu).1
      refine free_step rfl (by rfl) (fun K' hK => ?_)
      go_simp
      exact hK.out _ _ rfl (Below.refl _ _)
    | 12, ho, hF =>
      obtain rfl := Option.some.inj ho
      obtain ⟨v213, h213, s213⟩ := hF.dep 11 213 rfl rfl
      obtain rfl : v213 = .int .u32 (A : Int) := s213
      refine free_step rfl (by rfl) (fun K' hK => ?_)
      go_wp2_with fail
      refine (h22 u).mono ?_
      rintro e u' ⟨rfl, rfl⟩
      go_simp
      exact hK.out _ _ rfl (Below.refl _ _)
    | 13, ho, hF =>
      obtain rfl := Option.some.inj ho
      obtain ⟨v210, h210, s210⟩ := hF.dep 8 210 rfl rfl
      obtain rfl : v210 = .int .u32 (x1 : Int) := s210
      obtain ⟨v214, h214, s214⟩ := hF.dep 12 214 rfl rfl
      obtain rfl : v214 = .int .u32 (r22 : Int) := s214
      refine free_step rfl (by rfl) (fun K' hK => ?_)
      go_simp
      exact hK.out _ _ rfl (Below.refl _ _)
    | 14, ho, hF =>
      obtain rfl := Option.some.inj ho
      have h16 : a.tmps[16]? = some (.slice (some ⟨vg, vo, none⟩) 8 c8) := (hF.out 16 rfl).trans v16
      refine free_step rfl (by rfl) (fun K' hK => ?_)
      go_simp
      exact hK.out _ _ rfl (Below.refl _ _)
    | 15, ho, hF =>
      obtain rfl := Option.some.inj ho
      obtain ⟨v216, h216, s216⟩ := hF.dep 14 216 rfl rfl
      obtain rfl : v216 = .slice (some ⟨vg, vo, none⟩) 8 c8 := s216
      refine free_step rfl (by rfl) (fun K' hK => ?_)
      go_simp
      exact hK.out _ _ rfl (Below.refl _ _)
    | 16, ho, hF =>
      obtain rfl := Option.some.inj ho
      obtain ⟨v217, h217, s217⟩ := hF.dep 15 217 rfl rfl
      obtain rfl : v217 = .pointer (some ⟨vg, vo, none⟩) := s217
      have gx := (HC.out u hbu).1
      refine free_step rfl (by rfl) (fun K' hK => ?_)
      go_simp
      exact hK.out _ _ rfl (Below.refl _ _)
    | 17, ho, hF =>
      obtain rfl := Option.some.inj ho
      have h16 : a.tmps[16]? = some (.slice (some ⟨vg, vo, none⟩) 8 c8) := (hF.out 16 rfl).trans v16
      refine free_step rfl (by rfl) (fun K' hK => ?_)
      go_simp
      exact hK.out _ _ rfl (Below.refl _ _)
    | 18, ho, hF =>
      obtain rfl := Option.some.inj ho
      obtain ⟨v219, h219, s219⟩ := hF.dep 17 219 rfl rfl
      obtain rfl : v219 = .slice (some ⟨vg, vo, none⟩) 8 c8 := s219
      refine free_step rfl (by rfl) (fun K' hK => ?_)
      go_simp
      exact hK.out _ _ rfl (Below.refl _ _)
    | 19, ho, hF =>
      obtain rfl := Option.some.inj ho
      obtain ⟨v220, h220, s220⟩ := hF.dep 18 220 rfl rfl
      obtain rfl : v220 = .pointer (some ⟨vg, vo + 1, none⟩) := s220
      have gx := (HC.out u hbu).2.1
      refine free_step rfl (by rfl) (fun K' hK => ?_)
      go_simp
      exact hK.out _ _ rfl (Below.refl _ _)
    | 20, ho, hF =>
      obtain rfl := Option.some.inj ho
      obtain ⟨v218, h218, s218⟩ := hF.dep 16 218 rfl rfl
      obtain rfl : v218 = .int .u32 (A : Int) := s218
      obtain ⟨v221, h221, s221⟩ := hF.dep 19 221 rfl rfl
      obtain rfl : v221 = .int .u32 (B : Int) := s221
      refine free_step rfl (by rfl) (fun K' hK => ?_)
      go_simp
      exact hK.out _ _ rfl (Below.refl _ _)
    | 21, ho, hF =>
      obtain rfl := Option.some.inj ho
      have h16 : a.tmps[16]? = some (.slice (some ⟨vg, vo, none⟩) 8 c8) := (hF.out 16 rfl).trans v16
      refine free_step rfl (by rfl) (fun K' hK => ?_)
      go_simp
      exact hK.out _ _ rfl (Below.refl _ _)
    | 22, ho, hF =>
      obtain rfl := Option.some.inj ho
      obtain ⟨v223, h223, s223⟩ := hF.dep 21 223 rfl rfl
      obtain rfl : v223 = .slice (some ⟨vg, vo, none⟩) 8 c8 := s223
      refine free_step rfl (by rfl) (fun K' hK => ?_)
      go_simp
      exact hK.out _ _ rfl (Below.refl _ _)
    | 23, ho, hF =>
      obtain rfl := Option.some.inj ho
      obtain ⟨v224, h224, s224⟩ := hF.dep 22 224 rfl rfl
      obtain rfl : v224 = .pointer (some ⟨vg, vo, none⟩) := s224
      have gx := (HC.out u hbu).1
      refine free_step rfl (by rfl) (fun K' hK => ?_)
      go_simp
      exact hK.out _ _ rfl (Below.refl _ _)
    | 24, ho, hF =>
      obtain rfl := Option.some.inj ho
      have h16 : a.tmps[16]? = some (.slice (some ⟨vg, vo, none⟩) 8 c8) := (hF.out 16 rfl).trans v16
      refine free_step rfl (by rfl) (fun K' hK => ?_)
      go_simp
      exact hK.out _ _ rfl (Below.refl _ _)
    | 25, ho, hF =>
      obtain rfl := Option.some.inj ho
      obtain ⟨v226, h226, s226⟩ := hF.dep 24 226 rfl rfl
      obtain rfl : v226 = .slice (some ⟨vg, vo, none⟩) 8 c8 := s226
      refine free_step rfl (by rfl) (fun K' hK => ?_)
      go_simp
      exact hK.out _ _ rfl (Below.refl _ _)
    | 26, ho, hF =>
      obtain rfl := Option.some.inj ho
      obtain ⟨v227, h227, s227⟩ := hF.dep 25 227 rfl rfl
      obtain rfl : v227 = .pointer (some ⟨vg, vo + 2, none⟩) := s227
      have gx := (HC.out u hbu).2.2
      refine free_step rfl (by rfl) (fun K' hK => ?_)
      go_simp
      exact hK.out _ _ rfl (Below.refl _ _)
    | 27, ho, hF =>
      obtain rfl := Option.some.inj ho
      obtain ⟨v225, h225, s225⟩ := hF.dep 23 225 rfl rfl
      obtain rfl : v225 = .int .u32 (A : Int) := s225
      obtain ⟨v228, h228, s228⟩ := hF.dep 26 228 rfl rfl
      obtain rfl : v228 = .int .u32 (C : Int) := s228
      refine free_step rfl (by rfl) (fun K' hK => ?_)
      go_simp
      exact hK.out _ _ rfl (Below.refl _ _)
    | 28, ho, hF =>
      obtain rfl := Option.some.inj ho
      obtain ⟨v222, h222, s222⟩ := hF.dep 20 222 rfl rfl
      obtain rfl : v222 = .int .u32 (n1 : Int) := s222
      obtain ⟨v229, h229, s229⟩ := hF.dep 27 229 rfl rfl
      obtain rfl : v229 = .int .u32 (n2 : Int) := s229
      refine free_step rfl (by rfl) (fun K' hK => ?_)
      go_simp
      exact hK.out _ _ rfl (Below.refl _ _)
    | 29, ho, hF =>
      obtain rfl := Option.some.inj ho
      have h16 : a.tmps[16]? = some (.slice (some ⟨vg, vo, none⟩) 8 c8) := (hF.out 16 rfl).trans v16
      refine free_step rfl (by rfl) (fun K' hK => ?_)
      go_simp
      exact hK.out _ _ rfl (Below.refl _ _)
    | 30, ho, hF =>
      obtain rfl := Option.some.inj ho
      obtain ⟨v231, h231, s231⟩ := hF.dep 29 231 rfl rfl
      obtain rfl : v231 = .slice (some ⟨vg, vo, none⟩) 8 c8 := s231
      refine free_step rfl (by rfl) (fun K' hK => ?_)
      go_simp
      exact hK.out _ _ rfl (Below.refl _ _)
    | 31, ho, hF =>
      obtain rfl := Option.some.inj ho
      obtain ⟨v232, h232, s232⟩ := hF.dep 30 232 rfl rfl
      obtain rfl : v232 = .pointer (some ⟨vg, vo + 1, none⟩) := s232
      have gx := (HC.out u hbu).2.1
      refine free_step rfl (by rfl) (fun K' hK => ?_)
      go_simp
      exact hK.out _ _ rfl (Below.refl _ _)
    | 32, ho, hF =>
      obtain rfl := Option.some.inj ho
      have h16 : a.tmps[16]? = some (.slice (some ⟨vg, vo, none⟩) 8 c8) := (hF.out 16 rfl).trans v16
      refine free_step rfl (by rfl) (fun K' hK => ?_)
      go_simp
      exact hK.out _ _ rfl (Below.refl _ _)
    | 33, ho, hF =>
      obtain rfl := Option.some.inj ho
      obtain ⟨v234, h234, s234⟩ := hF.dep 32 234 rfl rfl
      obtain rfl : v234 = .slice (some ⟨vg, vo, none⟩) 8 c8 := s234
      refine free_step rfl (by rfl) (fun K' hK => ?_)
      go_simp
      exact hK.out _ _ rfl (Below.refl _ _)
    | 34, ho, hF =>
      obtain rfl := Option.some.inj ho
      obtain ⟨v235, h235, s235⟩ := hF.dep 33 235 rfl rfl
      obtain rfl : v235 = .pointer (some ⟨vg, vo + 2, none⟩) := s235
      have gx := (HC.out u hbu).2.2
      refine free_step rfl (by rfl) (fun K' hK => ?_)
      go_simp
      exact hK.out _ _ rfl (Below.refl _ _)
    | 35, ho, hF =>
      obtain rfl := Option.some.inj ho
      obtain ⟨v233, h233, s233⟩ := hF.dep 31 233 rfl rfl
      obtain rfl : v233 = .int .u32 (B : Int) := s233
      obtain ⟨v236, h236, s236⟩ := hF.dep 34 236 rfl rfl
      obtain rfl : v236 = .int .u32 (C : Int) := s236
      refine free_step rfl (by rfl) (fun K' hK => ?_)
      go_simp
      exact hK.out _ _ rfl (Below.refl _ _)
    | 36, ho, hF =>
      obtain rfl := Option.some.inj ho
      obtain ⟨v230, h230, s230⟩ := hF.dep 28 230 rfl rfl
      obtain rfl : v230 = .int .u32 (n3 : Int) := s230
      obtain ⟨v237, h237, s237⟩ := hF.dep 35 237 rfl rfl
      obtain rfl : v237 = .int .u32 (n4 : Int) := s237
      refine free_step rfl (by rfl) (fun K' hK => ?_)
      go_simp
      exact hK.out _ _ rfl (Below.refl _ _)
    | 37, ho, hF =>
      obtain rfl := Option.some.inj ho
      obtain ⟨v215, h215, s215⟩ := hF.dep 13 215 rfl rfl
      obtain rfl : v215 = .int .u32 (x2 : Int) := s215
      obtain ⟨v238, h238, s238⟩ := hF.dep 36 238 rfl rfl
      obtain rfl : v238 = .int .u32 (n5 : Int) := s238
      refine free_step rfl (by rfl) (fun K' hK => ?_)
      go_simp
      exact hK.out _ _ rfl (Below.refl _ _)
    | 38, ho, hF =>
      obtain rfl := Option.some.inj ho
      obtain ⟨v239, h239, s239⟩ := hF.dep 37 239 rfl rfl
      obtain rfl : v239 = .int .u32 (T2 : Int) := s239
      refine free_step rfl (by rfl) (fun K' hK => ?_)
      go_simp
      exact hK.out _ _ rfl (Below.refl _ _)
    | n + 39, ho, _ => exact absurd (Array.getElem?_eq_some_iff.1 ho).1 (by show ¬ n + 39 < 39; omega)
  · intro vs u hS hbu
    exact hfin vs u hS hbu
end Go.Proofs.YtpcmpeeflnlkpaaGreatDoor
