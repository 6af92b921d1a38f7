
/-
  The document's Sum: one of its regions that draw.
-/
import Derived.Test.YtpcmpeeflnlkpaaGreatDoorVWordsEtc
namespace Go.Proofs.YtpcmpeeflnlkpaaGreatDoor
open Go.RowKit Ch
set_option maxRecDepth 100000
def semVO : Array Oper := #[{ dst := some 82, op := Go.Op.move (Go.Operand.tmp 11), type := 37, pos := "ref.go:147", after := #[], guard := none }, { dst := some 83, op := Go.Op.move (Go.Operand.tmp 13), type := 22, pos := "ref.go:147", after := #[], guard := none }, { dst := some 84, op := Go.Op.indexAddr 22 (Go.Operand.tmp 83) (Go.Operand.const (Go.Value.int Go.IntKind.i64 0)), type := 0, pos := "ref.go:147", after := #[{ on := 1, ground := Go.Ground.data }], guard := none }, { dst := some 85, op := Go.Op.load 5 (Go.Operand.tmp 84), type := 5, pos := "ref.go:147", after := #[{ on := 2, ground := Go.Ground.data }], guard := none }, { dst := some 86, op := Go.Op.convert 5 63 (Go.Operand.tmp 85), type := 63, pos := "ref.go:147", after := #[{ on := 3, ground := Go.Ground.data }], guard := none }, { dst := some 87, op := Go.Op.binOp Go.BinOp.mul 63 (Go.Operand.tmp 86) (Go.Operand.const (Go.Value.int Go.IntKind.u32 256)) 63, type := 63, pos := "ref.go:147", after := #[{ on := 4, ground := Go.Ground.data }], guard := none }, { dst := some 88, op := Go.Op.move (Go.Operand.tmp 13), type := 22, pos := "ref.go:147", after := #[], guard := none }, { dst := some 89, op := Go.Op.indexAddr 22 (Go.Operand.tmp 88) (Go.Operand.const (Go.Value.int Go.IntKind.i64 1)), type := 0, pos := "ref.go:147", after := #[{ on := 6, ground := Go.Ground.data }], guard := none }, { dst := some 90, op := Go.Op.load 5 (Go.Operand.tmp 89), type := 5, pos := "ref.go:147", after := #[{ on := 7, ground := Go.Ground.data }], guard := none }, { dst := some 91, op := Go.Op.convert 5 63 (Go.Operand.tmp 90), type := 63, pos := "ref.go:147", after := #[{ on := 8, ground := Go.Ground.data }], guard := none }, { dst := some 92, op := Go.Op.binOp Go.BinOp.add 63 (Go.Operand.tmp 87) (Go.Operand.tmp 91) 63, type := 63, pos := "ref.go:147", after := #[{ on := 5, ground := Go.Ground.data }, { on := 9, ground := Go.Ground.data }], guard := none }, { dst := some 93, op := Go.Op.binOp Go.BinOp.mul 63 (Go.Operand.tmp 92) (Go.Operand.const (Go.Value.int Go.IntKind.u32 256)) 63, type := 63, pos := "ref.go:147", after := #[{ on := 10, ground := Go.Ground.data }], guard := none }, { dst := some 94, op := Go.Op.move (Go.Operand.tmp 13), type := 22, pos := "ref.go:147", after := #[], guard := none }, { dst := some 95, op := Go.Op.indexAddr 22 (Go.Operand.tmp 94) (Go.Operand.const (Go.Value.int Go.IntKind.i64 2)), type := 0, pos := "ref.go:147", after := #[{ on := 12, ground := Go.Ground.data }], guard := none }, { dst := some 96, op := Go.Op.load 5 (Go.Operand.tmp 95), type := 5, pos := "ref.go:147", after := #[{ on := 13, ground := Go.Ground.data }], guard := none }, { dst := some 97, op := Go.Op.convert 5 63 (Go.Operand.tmp 96), type := 63, pos := "ref.go:147", after := #[{ on := 14, ground := Go.Ground.data }], guard := none }, { dst := some 98, op := Go.Op.binOp Go.BinOp.add 63 (Go.Operand.tmp 93) (Go.Operand.tmp 97) 63, type := 63, pos := "ref.go:147", after := #[{ on := 11, ground := Go.Ground.data }, { on := 15, ground := Go.Ground.data }], guard := none }, { dst := some 99, op := Go.Op.binOp Go.BinOp.mul 63 (Go.Operand.tmp 98) (Go.Operand.const (Go.Value.int Go.IntKind.u32 256)) 63, type := 63, pos := "ref.go:147", after := #[{ on := 16, ground := Go.Ground.data }], guard := none }, { dst := some 100, op := Go.Op.move (Go.Operand.tmp 13), type := 22, pos := "ref.go:147", after := #[], guard := none }, { dst := some 101, op := Go.Op.indexAddr 22 (Go.Operand.tmp 100) (Go.Operand.const (Go.Value.int Go.IntKind.i64 3)), type := 0, pos := "ref.go:147", after := #[{ on := 18, ground := Go.Ground.data }], guard := none }, { dst := some 102, op := Go.Op.load 5 (Go.Operand.tmp 101), type := 5, pos := "ref.go:147", after := #[{ on := 19, ground := Go.Ground.data }], guard := none }, { dst := some 103, op := Go.Op.convert 5 63 (Go.Operand.tmp 102), type := 63, pos := "ref.go:147", after := #[{ on := 20, ground := Go.Ground.data }], guard := none }, { dst := some 104, op := Go.Op.binOp Go.BinOp.add 63 (Go.Operand.tmp 99) (Go.Operand.tmp 103) 63, type := 63, pos := "ref.go:147", after := #[{ on := 17, ground := Go.Ground.data }, { on := 21, ground := Go.Ground.data }], guard := none }, { dst := some 105, op := Go.Op.buildSlice 37 1 #[(0, Go.Operand.tmp 104)], type := 37, pos := "ref.go:147", after := #[{ on := 22, ground := Go.Ground.data }], guard := none }, { dst := some 106, op := Go.Op.call { callee := Go.Callee.builtin Go.Builtin.append, args := #[Go.Operand.tmp 82, Go.Operand.tmp 105], argTypes := #[37, 37] }, type := 37, pos := "ref.go:147", after := #[{ on := 0, ground := Go.Ground.data }, { on := 23, ground := Go.Ground.data }], guard := none }, { dst := some 11, op := Go.Op.assign (Go.Operand.tmp 106), type := 37, pos := "ref.go:147", after := #[{ on := 24, ground := Go.Ground.data }, { on := 24, ground := Go.Ground.chain }, { on := 0, ground := Go.Ground.phase }, { on := 1, ground := Go.Ground.phase }, { on := 2, ground := Go.Ground.phase }, { on := 3, ground := Go.Ground.phase }, { on := 4, ground := Go.Ground.phase }, { on := 5, ground := Go.Ground.phase }, { on := 6, ground := Go.Ground.phase }, { on := 7, ground := Go.Ground.phase }, { on := 8, ground := Go.Ground.phase }, { on := 9, ground := Go.Ground.phase }, { on := 10, ground := Go.Ground.phase }, { on := 11, ground := Go.Ground.phase }, { on := 12, ground := Go.Ground.phase }, { on := 13, ground := Go.Ground.phase }, { on := 14, ground := Go.Ground.phase }, { on := 15, ground := Go.Ground.phase }, { on := 16, ground := Go.Ground.phase }, { on := 17, ground := Go.Ground.phase }, { on := 18, ground := Go.Ground.phase }, { on := 19, ground := Go.Ground.phase }, { on := 20, ground := Go.Ground.phase }, { on := 21, ground := Go.Ground.phase }, { on := 22, ground := Go.Ground.phase }, { on := 23, ground := Go.Ground.phase }, { on := 24, ground := Go.Ground.phase }], guard := none }]
def semV (mb mo lo : Nat) (b0 b1 b2 b3 t0 t1 t2 t3 t4 X : Nat) (yw : Option Addr) (i cw c5 : Nat) (wa : World) (BK : List UInt8) : Nat → Value → World → Prop := fun ix v u => match ix with
  | 0 => v = .slice yw i cw
  | 1 => v = .slice (some ⟨mb, mo + lo, none⟩) 4 (c5 - lo)
  | 2 => v = .pointer (some ⟨mb, mo + lo, none⟩)
  | 3 => v = .int .u8 (b0 : Int)
  | 4 => v = .int .u32 (b0 : Int)
  | 5 => v = .int .u32 (t0 : Int)
  | 6 => v = .slice (some ⟨mb, mo + lo, none⟩) 4 (c5 - lo)
  | 7 => v = .pointer (some ⟨mb, mo + lo + 1, none⟩)
  | 8 => v = .int .u8 (b1 : Int)
  | 9 => v = .int .u32 (b1 : Int)
  | 10 => v = .int .u32 (t1 : Int)
  | 11 => v = .int .u32 (t2 : Int)
  | 12 => v = .slice (some ⟨mb, mo + lo, none⟩) 4 (c5 - lo)
  | 13 => v = .pointer (some ⟨mb, mo + lo + 2, none⟩)
  | 14 => v = .int .u8 (b2 : Int)
  | 15 => v = .int .u32 (b2 : Int)
  | 16 => v = .int .u32 (t3 : Int)
  | 17 => v = .int .u32 (t4 : Int)
  | 18 => v = .slice (some ⟨mb, mo + lo, none⟩) 4 (c5 - lo)
  | 19 => v = .pointer (some ⟨mb, mo + lo + 3, none⟩)
  | 20 => v = .int .u8 (b3 : Int)
  | 21 => v = .int .u32 (b3 : Int)
  | 22 => v = .int .u32 (X : Int)
  | 23 => ∃ g, v = .slice (some ⟨g, 0, none⟩) 1 1 ∧ g < u.heap.size ∧ some g ≠ (Value.slice yw i cw).ownBlock ∧ u.cell? ⟨g, 0, none⟩ = some (.int .u32 (X : Int))
  | 24 => u.ownsRow wa.heap.size 63 1 v (schedN BK (i + 1)).length (kc .u32 (schedN BK (i + 1)))
  | 25 => u.ownsRow wa.heap.size 63 1 v (schedN BK (i + 1)).length (kc .u32 (schedN BK (i + 1)))
  | _ => True
set_option maxHeartbeats 2000000 in
theorem semVR (mb mo lo : Nat) (b0 b1 b2 b3 t0 t1 t2 t3 t4 X : Nat) (yw : Option Addr) (i cw c5 : Nat) (wa : World) (BK : List UInt8)  {Q : Exit → Act → World → Prop} {a0 : Act} {u0 : World} (hsz : a0.tmps.size = 314) (v11 : a0.tmps[11]? = some (.slice yw i cw)) (v13 : a0.tmps[13]? = some (.slice (some ⟨mb, mo + lo, none⟩) 4 (c5 - lo))) (hi : i ≤ 64) (hW0 : u0.drew.ownsRow wa.heap.size 63 1 (.slice yw i cw) (schedN BK i).length (kc .u32 (schedN BK i))) (HB23 : Hid (∀ u, u0.drew.grownBy u (Value.slice yw i cw).ownBlock → Below wa.heap.size wa u)) (HRW : Hid (∀ k, (Value.slice yw i cw).ownBlock = some k → k < u0.drew.heap.size))
    (HCB : Hid (∀ u, u0.drew.grownBy u (Value.slice yw i cw).ownBlock → u.cell? ⟨mb, mo + lo, none⟩ = some (.int .u8 (b0 : Int)) ∧ u.cell? ⟨mb, mo + lo + 1, none⟩ = some (.int .u8 (b1 : Int)) ∧ u.cell? ⟨mb, mo + lo + 2, none⟩ = some (.int .u8 (b2 : Int)) ∧ u.cell? ⟨mb, mo + lo + 3, none⟩ = some (.int .u8 (b3 : Int))))
    (q0 : IntKind.u32.wrap ((b0 : Int) * 256) = (t0 : Int)) (q1 : IntKind.u32.wrap ((t0 : Int) + (b1 : Int)) = (t1 : Int)) (q2 : IntKind.u32.wrap ((t1 : Int) * 256) = (t2 : Int)) (q3 : IntKind.u32.wrap ((t2 : Int) + (b2 : Int)) = (t3 : Int)) (q4 : IntKind.u32.wrap ((t3 : Int) * 256) = (t4 : Int)) (q5 : IntKind.u32.wrap ((t4 : Int) + (b3 : Int)) = (X : Int))
    (p0 : IntKind.u32.wrap (b0 : Int) = (b0 : Int)) (p1 : IntKind.u32.wrap (b1 : Int) = (b1 : Int)) (p2 : IntKind.u32.wrap (b2 : Int) = (b2 : Int)) (p3 : IntKind.u32.wrap (b3 : Int) = (b3 : Int)) (HLX : Hid (schedN BK i ++ [X] = schedN BK (i + 1)))
    (hfin : ∀ (vs : Nat → Value) u, (∀ ix d, ((semVO[ix]?).bind (fun x => Oper.dst x)) = some d → semV mb mo lo b0 b1 b2 b3 t0 t1 t2 t3 t4 X yw i cw c5 wa BK ix (vs ix) u) → u0.drew.grownBy u ((Value.slice yw i cw).ownBlock) → (∃ v, semV mb mo lo b0 b1 b2 b3 t0 t1 t2 t3 t4 X yw i cw c5 wa BK 24 v u) → Q .normal (putFrom vs a0 semVO.toList 0) u) : (Code.region 23 semVO true).wp Tryz.prog Q a0 u0 := by
  unfold semVO
  refine freeZ_walk (Sem := semV mb mo lo b0 b1 b2 b3 t0 t1 t2 t3 t4 X yw i cw c5 wa BK) (J := fun u => u.ownsRow wa.heap.size 63 1 (.slice yw i cw) (schedN BK i).length (kc .u32 (schedN BK i))) 24 (fun j => j == 24 || j == 25) ((Value.slice yw i cw).ownBlock) rfl (n := 314) (by kernel_rfl) hsz (by kernel_rfl) hW0 ?_ ?_ ?_ (fun _ _ h hb => ownsRow_later h hb) (by decide) ?_ ?_ (by decide) ?_
  · intro j hj
    simp only [Bool.or_eq_true, beq_iff_eq] at hj
    rcases hj with rfl | rfl
    · exact .inl rfl
    · exact .inr ⟨[], by kernel_rfl⟩
  · intro ix v u u' hl h hb
    match ix, h, hl with
    | 0, h, _ => exact h
    | 1, h, _ => exact h
    | 2, h, _ => exact h
    | 3, h, _ => exact h
    | 4, h, _ => exact h
    | 5, h, _ => exact h
    | 6, h, _ => exact h
    | 7, h, _ => exact h
    | 8, h, _ => exact h
    | 9, h, _ => exact h
    | 10, h, _ => exact h
    | 11, h, _ => exact h
    | 12, h, _ => exact h
    | 13, h, _ => exact h
    | 14, h, _ => exact h
    | 15, h, _ => exact h
    | 16, h, _ => exact h
    | 17, h, _ => exact h
    | 18, h, _ => exact h
    | 19, h, _ => exact h
    | 20, h, _ => exact h
    | 21, h, _ => exact h
    | 22, h, _ => exact h
    | 23, h, _ => exact by obtain ⟨g, h1, h2, h3, h4⟩ := h; exact ⟨g, h1, Nat.lt_of_lt_of_le h2 hb.size, h3, hb.cell h4 h3⟩
    | 24, _, hl => exact absurd hl (by decide)
    | 25, _, hl => exact absurd hl (by decide)
    | _ + 26, _, _ => exact trivial
  · intro ix v u u' hl h hb
    match ix, h, hl with
    | 0, _, hl => exact absurd hl (by decide)
    | 1, _, hl => exact absurd hl (by decide)
    | 2, _, hl => exact absurd hl (by decide)
    | 3, _, hl => exact absurd hl (by decide)
    | 4, _, hl => exact absurd hl (by decide)
    | 5, _, hl => exact absurd hl (by decide)
    | 6, _, hl => exact absurd hl (by decide)
    | 7, _, hl => exact absurd hl (by decide)
    | 8, _, hl => exact absurd hl (by decide)
    | 9, _, hl => exact absurd hl (by decide)
    | 10, _, hl => exact absurd hl (by decide)
    | 11, _, hl => exact absurd hl (by decide)
    | 12, _, hl => exact absurd hl (by decide)
    | 13, _, hl => exact absurd hl (by decide)
    | 14, _, hl => exact absurd hl (by decide)
    | 15, _, hl => exact absurd hl (by decide)
    | 16, _, hl => exact absurd hl (by decide)
    | 17, _, hl => exact absurd hl (by decide)
    | 18, _, hl => exact absurd hl (by decide)
    | 19, _, hl => exact absurd hl (by decide)
    | 20, _, hl => exact absurd hl (by decide)
    | 21, _, hl => exact absurd hl (by decide)
    | 22, _, hl => exact absurd hl (by decide)
    | 23, _, hl => exact absurd hl (by decide)
    | 24, h, _ => exact ownsRow_later h hb
    | 25, h, _ => exact ownsRow_later h hb
    | _ + 26, _, _ => exact trivial
  · intro ix o a u ho hne hF hbu hJ hW
    match ix, ho, hF, hJ, hne, hW with
    | 0, ho, hF, hJ, _, hW =>
      obtain rfl := Option.some.inj ho
      have h11 : a.tmps[11]? = some (.slice yw i cw) := (hW 25 11 [] rfl (by kernel_rfl)).trans v11
      refine free_step rfl (by rfl) (fun K' hK => ?_)
      go_simp
      exact hK.out _ _ rfl (Below.refl _ _)
    | 1, ho, hF, hJ, _, hW =>
      obtain rfl := Option.some.inj ho
      have h13 : a.tmps[13]? = some (.slice (some ⟨mb, mo + lo, none⟩) 4 (c5 - lo)) := (hF.out 13 rfl).trans v13
      refine free_step rfl (by rfl) (fun K' hK => ?_)
      go_simp
      exact hK.out _ _ rfl (Below.refl _ _)
    | 2, ho, hF, hJ, _, hW =>
      obtain rfl := Option.some.inj ho
      obtain ⟨v83, h83, s83⟩ := hF.dep 1 83 rfl rfl
      obtain rfl : v83 = .slice (some ⟨mb, mo + lo, none⟩) 4 (c5 - lo) := s83
      refine free_step rfl (by rfl) (fun K' hK => ?_)
      go_simp
      exact hK.out _ _ rfl (Below.refl _ _)
    | 3, ho, hF, hJ, _, hW =>
      obtain rfl := Option.some.inj ho
      obtain ⟨v84, h84, s84⟩ := hF.dep 2 84 rfl rfl
      obtain rfl : v84 = .pointer (some ⟨mb, mo + lo, none⟩) := s84
      have g0 := (HCB.out u hbu).1
      refine free_step rfl (by rfl) (fun K' hK => ?_)
      go_simp
      exact hK.out _ _ rfl (Below.refl _ _)
    | 4, ho, hF, hJ, _, hW =>
      obtain rfl := Option.some.inj ho
      obtain ⟨v85, h85, s85⟩ := hF.dep 3 85 rfl rfl
      obtain rfl : v85 = .int .u8 (b0 : Int) := s85
      refine free_step rfl (by rfl) (fun K' hK => ?_)
      go_simp
      exact hK.out _ _ rfl (Below.refl _ _)
    | 5, ho, hF, hJ, _, hW =>
      obtain rfl := Option.some.inj ho
      obtain ⟨v86, h86, s86⟩ := hF.dep 4 86 rfl rfl
      obtain rfl : v86 = .int .u32 (b0 : Int) := s86
      refine free_step rfl (by rfl) (fun K' hK => ?_)
      go_simp
      exact hK.out _ _ rfl (Below.refl _ _)
    | 6, ho, hF, hJ, _, hW =>
      obtain rfl := Option.some.inj ho
      have h13 : a.tmps[13]? = some (.slice (some ⟨mb, mo + lo, none⟩) 4 (c5 - lo)) := (hF.out 13 rfl).trans v13
      refine free_step rfl (by rfl) (fun K' hK => ?_)
      go_simp
      exact hK.out _ _ rfl (Below.refl _ _)
    | 7, ho, hF, hJ, _, hW =>
      obtain rfl := Option.some.inj ho
      obtain ⟨v88, h88, s88⟩ := hF.dep 6 88 rfl rfl
      obtain rfl : v88 = .slice (some ⟨mb, mo + lo, none⟩) 4 (c5 - lo) := s88
      refine free_step rfl (by rfl) (fun K' hK => ?_)
      go_simp
      exact hK.out _ _ rfl (Below.refl _ _)
    | 8, ho, hF, hJ, _, hW =>
      obtain rfl := Option.some.inj ho
      obtain ⟨v89, h89, s89⟩ := hF.dep 7 89 rfl rfl
      obtain rfl : v89 = .pointer (some ⟨mb, mo + lo + 1, none⟩) := s89
      have g0 := (HCB.out u hbu).2.1
      refine free_step rfl (by rfl) (fun K' hK => ?_)
      go_simp
      exact hK.out _ _ rfl (Below.refl _ _)
    | 9, ho, hF, hJ, _, hW =>
      obtain rfl := Option.some.inj ho
      obtain ⟨v90, h90, s90⟩ := hF.dep 8 90 rfl rfl
      obtain rfl : v90 = .int .u8 (b1 : Int) := s90
      refine free_step rfl (by rfl) (fun K' hK => ?_)
      go_simp
      exact hK.out _ _ rfl (Below.refl _ _)
    | 10, ho, hF, hJ, _, hW =>
      obtain rfl := Option.some.inj ho
      obtain ⟨v87, h87, s87⟩ := hF.dep 5 87 rfl rfl
      obtain rfl : v87 = .int .u32 (t0 : Int) := s87
      obtain ⟨v91, h91, s91⟩ := hF.dep 9 91 rfl rfl
      obtain rfl : v91 = .int .u32 (b1 : Int) := s91
      refine free_step rfl (by rfl) (fun K' hK => ?_)
      go_simp
      exact hK.out _ _ rfl (Below.refl _ _)
    | 11, ho, hF, hJ, _, hW =>
      obtain rfl := Option.some.inj ho
      obtain ⟨v92, h92, s92⟩ := hF.dep 10 92 rfl rfl
      obtain rfl : v92 = .int .u32 (t1 : Int) := s92
      refine free_step rfl (by rfl) (fun K' hK => ?_)
      go_simp
      exact hK.out _ _ rfl (Below.refl _ _)
    | 12, ho, hF, hJ, _, hW =>
      obtain rfl := Option.some.inj ho
      have h13 : a.tmps[13]? = some (.slice (some ⟨mb, mo + lo, none⟩) 4 (c5 - lo)) := (hF.out 13 rfl).trans v13
      refine free_step rfl (by rfl) (fun K' hK => ?_)
      go_simp
      exact hK.out _ _ rfl (Below.refl _ _)
    | 13, ho, hF, hJ, _, hW =>
      obtain rfl := Option.some.inj ho
      obtain ⟨v94, h94, s94⟩ := hF.dep 12 94 rfl rfl
      obtain rfl : v94 = .slice (some ⟨mb, mo + lo, none⟩) 4 (c5 - lo) := s94
      refine free_step rfl (by rfl) (fun K' hK => ?_)
      go_simp
      exact hK.out _ _ rfl (Below.refl _ _)
    | 14, ho, hF, hJ, _, hW =>
      obtain rfl := Option.some.inj ho
      obtain ⟨v95, h95, s95⟩ := hF.dep 13 95 rfl rfl
      obtain rfl : v95 = .pointer (some ⟨mb, mo + lo + 2, none⟩) := s95
      have g0 := (HCB.out u hbu).2.2.1
      refine free_step rfl (by rfl) (fun K' hK => ?_)
      go_simp
      exact hK.out _ _ rfl (Below.refl _ _)
    | 15, ho, hF, hJ, _, hW =>
      obtain rfl := Option.some.inj ho
      obtain ⟨v96, h96, s96⟩ := hF.dep 14 96 rfl rfl
      obtain rfl : v96 = .int .u8 (b2 : Int) := s96
      refine free_step rfl (by rfl) (fun K' hK => ?_)
      go_simp
      exact hK.out _ _ rfl (Below.refl _ _)
    | 16, ho, hF, hJ, _, hW =>
      obtain rfl := Option.some.inj ho
      obtain ⟨v93, h93, s93⟩ := hF.dep 11 93 rfl rfl
      obtain rfl : v93 = .int .u32 (t2 : Int) := s93
      obtain ⟨v97, h97, s97⟩ := hF.dep 15 97 rfl rfl
      obtain rfl : v97 = .int .u32 (b2 : Int) := s97
      refine free_step rfl (by rfl) (fun K' hK => ?_)
      go_simp
      exact hK.out _ _ rfl (Below.refl _ _)
    | 17, ho, hF, hJ, _, hW =>
      obtain rfl := Option.some.inj ho
      obtain ⟨v98, h98, s98⟩ := hF.dep 16 98 rfl rfl
      obtain rfl : v98 = .int .u32 (t3 : Int) := s98
      refine free_step rfl (by rfl) (fun K' hK => ?_)
      go_simp
      exact hK.out _ _ rfl (Below.refl _ _)
    | 18, ho, hF, hJ, _, hW =>
      obtain rfl := Option.some.inj ho
      have h13 : a.tmps[13]? = some (.slice (some ⟨mb, mo + lo, none⟩) 4 (c5 - lo)) := (hF.out 13 rfl).trans v13
      refine free_step rfl (by rfl) (fun K' hK => ?_)
      go_simp
      exact hK.out _ _ rfl (Below.refl _ _)
    | 19, ho, hF, hJ, _, hW =>
      obtain rfl := Option.some.inj ho
      obtain ⟨v100, h100, s100⟩ := hF.dep 18 100 rfl rfl
      obtain rfl : v100 = .slice (some ⟨mb, mo + lo, none⟩) 4 (c5 - lo) := s100
      refine free_step rfl (by rfl) (fun K' hK => ?_)
      go_simp
      exact hK.out _ _ rfl (Below.refl _ _)
    | 20, ho, hF, hJ, _, hW =>
      obtain rfl := Option.some.inj ho
      obtain ⟨v101, h101, s101⟩ := hF.dep 19 101 rfl rfl
      obtain rfl : v101 = .pointer (some ⟨mb, mo + lo + 3, none⟩) := s101
      have g0 := (HCB.out u hbu).2.2.2
      refine free_step rfl (by rfl) (fun K' hK => ?_)
      go_simp
      exact hK.out _ _ rfl (Below.refl _ _)
    | 21, ho, hF, hJ, _, hW =>
      obtain rfl := Option.some.inj ho
      obtain ⟨v102, h102, s102⟩ := hF.dep 20 102 rfl rfl
      obtain rfl : v102 = .int .u8 (b3 : Int) := s102
      refine free_step rfl (by rfl) (fun K' hK => ?_)
      go_simp
      exact hK.out _ _ rfl (Below.refl _ _)
    | 22, ho, hF, hJ, _, hW =>
      obtain rfl := Option.some.inj ho
      obtain ⟨v99, h99, s99⟩ := hF.dep 17 99 rfl rfl
      obtain rfl : v99 = .int .u32 (t4 : Int) := s99
      obtain ⟨v103, h103, s103⟩ := hF.dep 21 103 rfl rfl
      obtain rfl : v103 = .int .u32 (b3 : Int) := s103
      refine free_step rfl (by rfl) (fun K' hK => ?_)
      go_simp
      exact hK.out _ _ rfl (Below.refl _ _)
    | 23, ho, hF, hJ, _, hW =>
      obtain rfl := Option.some.inj ho
      obtain ⟨v104, h104, s104⟩ := hF.dep 22 104 rfl rfl
      obtain rfl : v104 = .int .u32 (X : Int) := s104
      refine free_step rfl (by rfl) (fun K' hK => ?_)
      go_simp
      refine hK.out _ _ ⟨u.heap.size, rfl, by simp, fun h => ?_, block_cell 0 (heap_push_at u _) rfl⟩ ((Below.refl _ u).alloc (Nat.le_refl _) _)
      exact absurd (Nat.lt_of_lt_of_le (HRW.out _ h.symm) hbu.size) (Nat.lt_irrefl _)
    | 24, _, _, _, hne, _ => exact absurd rfl hne
    | 25, ho, hF, hJ, _, hW =>
      obtain rfl := Option.some.inj ho
      obtain ⟨v106, h106, s106⟩ := hF.dep 24 106 rfl rfl
      replace s106 : u.ownsRow wa.heap.size 63 1 v106 (schedN BK (i + 1)).length (kc .u32 (schedN BK (i + 1))) := s106
      refine free_step rfl (by rfl) (fun K' hK => ?_)
      go_simp
      exact hK.out _ _ s106 (Below.refl _ _)
    | n + 26, ho, _, _, _, _ => exact absurd (Array.getElem?_eq_some_iff.1 ho).1 (by show ¬ n + 26 < 26; omega)
  · intro o a u ho hF hbu hJu hW
    obtain rfl := Option.some.inj ho
    obtain ⟨v82, h82, s82⟩ := hF.dep 0 82 rfl rfl
    obtain rfl : v82 = .slice yw i cw := s82
    obtain ⟨v105, h105, s105⟩ := hF.dep 23 105 rfl rfl
    replace s105 : ∃ g, v105 = .slice (some ⟨g, 0, none⟩) 1 1 ∧ g < u.heap.size ∧ some g ≠ (Value.slice yw i cw).ownBlock ∧ u.cell? ⟨g, 0, none⟩ = some (.int .u32 (X : Int)) := s105
    refine freeZ_step rfl (by rfl) (fun K' hK => ?_)
    obtain ⟨g, rfl, _, _, hgc⟩ := s105
    refine wp_append_one R32 _ _ rfl wa.heap.size (.slice yw i cw) _ (by simp [Act.eval, h82]) hJu g (by simp [Act.eval, h105]) X hgc _ HLX.out (by rw [schedN_length]; omega) (HB23.out u hbu).size ?_
    intro v' u' h1 h2
    exact hK.out _ _ h1 h2
  · intro vs u hS hbu hZ
    exact hfin vs u hS hbu hZ
end Go.Proofs.YtpcmpeeflnlkpaaGreatDoor
