/-
  
  
-/
import Derived.Test.YtpcmpeeflnlkpaaGreatDoorVWordsEtc
/-
  The document's Sum: one of its regions that draw.
-/
namespace Go.Proofs.YtpcmpeeflnlkpaaGreatDoor
open Go.RowKit Ch
set_option maxRecDepth 100000
def semXO : Array Oper := #[{ dst := some 240, op := Go.Op.move (Go.Operand.tmp 18), type := 63, pos := "ref.go:158", after := #[], guard := none }, { dst := some 241, op := Go.Op.move (Go.Operand.tmp 19), type := 63, pos := "ref.go:158", after := #[], guard := none }, { dst := some 242, op := Go.Op.binOp Go.BinOp.add 63 (Go.Operand.tmp 240) (Go.Operand.tmp 241) 63, type := 63, pos := "ref.go:158", after := #[{ on := 0, ground := Go.Ground.data }, { on := 1, ground := Go.Ground.data }], guard := none }, { dst := some 243, op := Go.Op.move (Go.Operand.tmp 16), type := 37, pos := "ref.go:158", after := #[], guard := none }, { dst := some 244, op := Go.Op.indexAddr 37 (Go.Operand.tmp 243) (Go.Operand.const (Go.Value.int Go.IntKind.i64 0)), type := 0, pos := "ref.go:158", after := #[{ on := 3, ground := Go.Ground.data }], guard := none }, { dst := some 245, op := Go.Op.load 63 (Go.Operand.tmp 244), type := 63, pos := "ref.go:158", after := #[{ on := 4, ground := Go.Ground.data }], guard := none }, { dst := some 246, op := Go.Op.move (Go.Operand.tmp 16), type := 37, pos := "ref.go:158", after := #[], guard := none }, { dst := some 247, op := Go.Op.indexAddr 37 (Go.Operand.tmp 246) (Go.Operand.const (Go.Value.int Go.IntKind.i64 1)), type := 0, pos := "ref.go:158", after := #[{ on := 6, ground := Go.Ground.data }], guard := none }, { dst := some 248, op := Go.Op.load 63 (Go.Operand.tmp 247), type := 63, pos := "ref.go:158", after := #[{ on := 7, ground := Go.Ground.data }], guard := none }, { dst := some 249, op := Go.Op.move (Go.Operand.tmp 16), type := 37, pos := "ref.go:158", after := #[], guard := none }, { dst := some 250, op := Go.Op.indexAddr 37 (Go.Operand.tmp 249) (Go.Operand.const (Go.Value.int Go.IntKind.i64 2)), type := 0, pos := "ref.go:158", after := #[{ on := 9, ground := Go.Ground.data }], guard := none }, { dst := some 251, op := Go.Op.load 63 (Go.Operand.tmp 250), type := 63, pos := "ref.go:158", after := #[{ on := 10, ground := Go.Ground.data }], guard := none }, { dst := some 252, op := Go.Op.move (Go.Operand.tmp 16), type := 37, pos := "ref.go:158", after := #[], guard := none }, { dst := some 253, op := Go.Op.indexAddr 37 (Go.Operand.tmp 252) (Go.Operand.const (Go.Value.int Go.IntKind.i64 3)), type := 0, pos := "ref.go:158", after := #[{ on := 12, ground := Go.Ground.data }], guard := none }, { dst := some 254, op := Go.Op.load 63 (Go.Operand.tmp 253), type := 63, pos := "ref.go:158", after := #[{ on := 13, ground := Go.Ground.data }], guard := none }, { dst := some 255, op := Go.Op.move (Go.Operand.tmp 18), type := 63, pos := "ref.go:158", after := #[], guard := none }, { dst := some 256, op := Go.Op.binOp Go.BinOp.add 63 (Go.Operand.tmp 254) (Go.Operand.tmp 255) 63, type := 63, pos := "ref.go:158", after := #[{ on := 14, ground := Go.Ground.data }, { on := 15, ground := Go.Ground.data }], guard := none }, { dst := some 257, op := Go.Op.move (Go.Operand.tmp 16), type := 37, pos := "ref.go:158", after := #[], guard := none }, { dst := some 258, op := Go.Op.indexAddr 37 (Go.Operand.tmp 257) (Go.Operand.const (Go.Value.int Go.IntKind.i64 4)), type := 0, pos := "ref.go:158", after := #[{ on := 17, ground := Go.Ground.data }], guard := none }, { dst := some 259, op := Go.Op.load 63 (Go.Operand.tmp 258), type := 63, pos := "ref.go:158", after := #[{ on := 18, ground := Go.Ground.data }], guard := none }, { dst := some 260, op := Go.Op.move (Go.Operand.tmp 16), type := 37, pos := "ref.go:158", after := #[], guard := none }, { dst := some 261, op := Go.Op.indexAddr 37 (Go.Operand.tmp 260) (Go.Operand.const (Go.Value.int Go.IntKind.i64 5)), type := 0, pos := "ref.go:158", after := #[{ on := 20, ground := Go.Ground.data }], guard := none }, { dst := some 262, op := Go.Op.load 63 (Go.Operand.tmp 261), type := 63, pos := "ref.go:158", after := #[{ on := 21, ground := Go.Ground.data }], guard := none }, { dst := some 263, op := Go.Op.move (Go.Operand.tmp 16), type := 37, pos := "ref.go:158", after := #[], guard := none }, { dst := some 264, op := Go.Op.indexAddr 37 (Go.Operand.tmp 263) (Go.Operand.const (Go.Value.int Go.IntKind.i64 6)), type := 0, pos := "ref.go:158", after := #[{ on := 23, ground := Go.Ground.data }], guard := none }, { dst := some 265, op := Go.Op.load 63 (Go.Operand.tmp 264), type := 63, pos := "ref.go:158", after := #[{ on := 24, ground := Go.Ground.data }], guard := none }, { dst := some 266, op := Go.Op.buildSlice 37 8 #[(0, Go.Operand.tmp 242), (1, Go.Operand.tmp 245), (2, Go.Operand.tmp 248), (3, Go.Operand.tmp 251), (4, Go.Operand.tmp 256), (5, Go.Operand.tmp 259), (6, Go.Operand.tmp 262), (7, Go.Operand.tmp 265)], type := 37, pos := "ref.go:158", after := #[{ on := 2, ground := Go.Ground.data }, { on := 5, ground := Go.Ground.data }, { on := 8, ground := Go.Ground.data }, { on := 11, ground := Go.Ground.data }, { on := 16, ground := Go.Ground.data }, { on := 19, ground := Go.Ground.data }, { on := 22, ground := Go.Ground.data }, { on := 25, ground := Go.Ground.data }], guard := none }, { dst := some 16, op := Go.Op.assign (Go.Operand.tmp 266), type := 37, pos := "ref.go:158", after := #[{ on := 26, ground := Go.Ground.data }, { on := 0, ground := Go.Ground.phase }, { on := 1, ground := Go.Ground.phase }, { on := 2, ground := Go.Ground.phase }, { on := 3, ground := Go.Ground.phase }, { on := 4, ground := Go.Ground.phase }, { on := 5, ground := Go.Ground.phase }, { on := 6, ground := Go.Ground.phase }, { on := 7, ground := Go.Ground.phase }, { on := 8, ground := Go.Ground.phase }, { on := 9, ground := Go.Ground.phase }, { on := 10, ground := Go.Ground.phase }, { on := 11, ground := Go.Ground.phase }, { on := 12, ground := Go.Ground.phase }, { on := 13, ground := Go.Ground.phase }, { on := 14, ground := Go.Ground.phase }, { on := 15, ground := Go.Ground.phase }, { on := 16, ground := Go.Ground.phase }, { on := 17, ground := Go.Ground.phase }, { on := 18, ground := Go.Ground.phase }, { on := 19, ground := Go.Ground.phase }, { on := 20, ground := Go.Ground.phase }, { on := 21, ground := Go.Ground.phase }, { on := 22, ground := Go.Ground.phase }, { on := 23, ground := Go.Ground.phase }, { on := 24, ground := Go.Ground.phase }, { on := 25, ground := Go.Ground.phase }, { on := 26, ground := Go.Ground.phase }], guard := none }]
def semX (A B C D E F G T1 T2 A1 E1 : Nat) (vg vo c8 bz : Nat) : Nat → Value → World → Prop := fun ix v u => match ix with
  | 0 => v = .int .u32 (T1 : Int)
  | 1 => v = .int .u32 (T2 : Int)
  | 2 => v = .int .u32 (A1 : Int)
  | 3 => v = .slice (some ⟨vg, vo, none⟩) 8 c8
  | 4 => v = .pointer (some ⟨vg, vo, none⟩)
  | 5 => v = .int .u32 (A : Int)
  | 6 => v = .slice (some ⟨vg, vo, none⟩) 8 c8
  | 7 => v = .pointer (some ⟨vg, vo + 1, none⟩)
  | 8 => v = .int .u32 (B : Int)
  | 9 => v = .slice (some ⟨vg, vo, none⟩) 8 c8
  | 10 => v = .pointer (some ⟨vg, vo + 2, none⟩)
  | 11 => v = .int .u32 (C : Int)
  | 12 => v = .slice (some ⟨vg, vo, none⟩) 8 c8
  | 13 => v = .pointer (some ⟨vg, vo + 3, none⟩)
  | 14 => v = .int .u32 (D : Int)
  | 15 => v = .int .u32 (T1 : Int)
  | 16 => v = .int .u32 (E1 : Int)
  | 17 => v = .slice (some ⟨vg, vo, none⟩) 8 c8
  | 18 => v = .pointer (some ⟨vg, vo + 4, none⟩)
  | 19 => v = .int .u32 (E : Int)
  | 20 => v = .slice (some ⟨vg, vo, none⟩) 8 c8
  | 21 => v = .pointer (some ⟨vg, vo + 5, none⟩)
  | 22 => v = .int .u32 (F : Int)
  | 23 => v = .slice (some ⟨vg, vo, none⟩) 8 c8
  | 24 => v = .pointer (some ⟨vg, vo + 6, none⟩)
  | 25 => v = .int .u32 (G : Int)
  | 26 => IsN .u32 u v [A1, A, B, C, E1, E, F, G] ∧ ∃ g, v = .slice (some ⟨g, 0, none⟩) 8 8 ∧ bz ≤ g
  | 27 => IsN .u32 u v [A1, A, B, C, E1, E, F, G] ∧ ∃ g, v = .slice (some ⟨g, 0, none⟩) 8 8 ∧ bz ≤ g
  | _ => True
set_option maxHeartbeats 2000000 in
theorem semXR (A B C D E F G T1 T2 A1 E1 : Nat) (vg vo c8 bz : Nat)  {Q : Exit → Act → World → Prop} {a0 : Act} {u0 : World} (hsz : a0.tmps.size = 314) (v16 : a0.tmps[16]? = some (.slice (some ⟨vg, vo, none⟩) 8 c8)) (v18 : a0.tmps[18]? = some (.int .u32 (T1 : Int))) (v19 : a0.tmps[19]? = some (.int .u32 (T2 : Int))) (HC : Hid (∀ u, u0.drew.grownBy u none → u.cell? ⟨vg, vo, none⟩ = some (.int .u32 (A : Int)) ∧ u.cell? ⟨vg, vo + 1, none⟩ = some (.int .u32 (B : Int)) ∧ u.cell? ⟨vg, vo + 2, none⟩ = some (.int .u32 (C : Int)) ∧ u.cell? ⟨vg, vo + 3, none⟩ = some (.int .u32 (D : Int)) ∧ u.cell? ⟨vg, vo + 4, none⟩ = some (.int .u32 (E : Int)) ∧ u.cell? ⟨vg, vo + 5, none⟩ = some (.int .u32 (F : Int)) ∧ u.cell? ⟨vg, vo + 6, none⟩ = some (.int .u32 (G : Int))))
    (q1 : IntKind.u32.wrap ((T1 : Int) + (T2 : Int)) = (A1 : Int)) (q2 : IntKind.u32.wrap ((D : Int) + (T1 : Int)) = (E1 : Int)) (hbz : bz ≤ u0.drew.heap.size)
    (hfin : ∀ (vs : Nat → Value) u, (∀ ix d, ((semXO[ix]?).bind (fun x => Oper.dst x)) = some d → semX A B C D E F G T1 T2 A1 E1 vg vo c8 bz ix (vs ix) u) → u0.drew.grownBy u (none) → (∃ v, semX A B C D E F G T1 T2 A1 E1 vg vo c8 bz 27 v u) → Q .normal (putFrom vs a0 semXO.toList 0) u) : (Code.region 33 semXO true).wp Tryz.prog Q a0 u0 := by
  unfold semXO
  refine freeZ_walk (Sem := semX A B C D E F G T1 T2 A1 E1 vg vo c8 bz) (J := fun _ => True) 27 (fun j => j == 27) (none) rfl (n := 314) (by kernel_rfl) hsz (by kernel_rfl) trivial ?_ ?_ ?_ (fun _ _ _ _ => trivial) (by decide) ?_ ?_ (by decide) ?_
  · intro j hj
    simp only [beq_iff_eq] at hj
    subst hj
    · exact .inl rfl
  · intro ix v u u' hl h hb
    match ix, h, hl with
    | 0, h, _ => exact h
    | 1, h, _ => exact h
    | 2, h, _ => exact h
    | 3, h, _ => exact h
    | 4, h, _ => exact h
    | 5, h, _ => exact h
    | 6, h, _ => exact h
    | 7, h, _ => exact h
    | 8, h, _ => exact h
    | 9, h, _ => exact h
    | 10, h, _ => exact h
    | 11, h, _ => exact h
    | 12, h, _ => exact h
    | 13, h, _ => exact h
    | 14, h, _ => exact h
    | 15, h, _ => exact h
    | 16, h, _ => exact h
    | 17, h, _ => exact h
    | 18, h, _ => exact h
    | 19, h, _ => exact h
    | 20, h, _ => exact h
    | 21, h, _ => exact h
    | 22, h, _ => exact h
    | 23, h, _ => exact h
    | 24, h, _ => exact h
    | 25, h, _ => exact h
    | 26, h, _ => exact ⟨IsN.later h.1 (grown_none hb), h.2⟩
    | 27, _, hl => exact absurd hl (by decide)
    | _ + 28, _, _ => exact trivial
  · intro ix v u u' hl h hb
    match ix, h, hl with
    | 0, _, hl => exact absurd hl (by decide)
    | 1, _, hl => exact absurd hl (by decide)
    | 2, _, hl => exact absurd hl (by decide)
    | 3, _, hl => exact absurd hl (by decide)
    | 4, _, hl => exact absurd hl (by decide)
    | 5, _, hl => exact absurd hl (by decide)
    | 6, _, hl => exact absurd hl (by decide)
    | 7, _, hl => exact absurd hl (by decide)
    | 8, _, hl => exact absurd hl (by decide)
    | 9, _, hl => exact absurd hl (by decide)
    | 10, _, hl => exact absurd hl (by decide)
    | 11, _, hl => exact absurd hl (by decide)
    | 12, _, hl => exact absurd hl (by decide)
    | 13, _, hl => exact absurd hl (by decide)
    | 14, _, hl => exact absurd hl (by decide)
    | 15, _, hl => exact absurd hl (by decide)
    | 16, _, hl => exact absurd hl (by decide)
    | 17, _, hl => exact absurd hl (by decide)
    | 18, _, hl => exact absurd hl (by decide)
    | 19, _, hl => exact absurd hl (by decide)
    | 20, _, hl => exact absurd hl (by decide)
    | 21, _, hl => exact absurd hl (by decide)
    | 22, _, hl => exact absurd hl (by decide)
    | 23, _, hl => exact absurd hl (by decide)
    | 24, _, hl => exact absurd hl (by decide)
    | 25, _, hl => exact absurd hl (by decide)
    | 26, _, hl => exact absurd hl (by decide)
    | 27, h, _ => exact ⟨IsN.later h.1 hb, h.2⟩
    | _ + 28, _, _ => exact trivial
  · intro ix o a u ho hne hF hbu hJ hW
    match ix, ho, hF, hJ, hne, hW with
    | 0, ho, hF, hJ, _, hW =>
      obtain rfl := Option.some.inj ho
      have h18 : a.tmps[18]? = some (.int .u32 (T1 : Int)) := (hF.out 18 rfl).trans v18
      refine free_step rfl (by rfl) (fun K' hK => ?_)
      go_simp
      exact hK.out _ _ rfl (Below.refl _ _)
    | 1, ho, hF, hJ, _, hW =>
      obtain rfl := Option.some.inj ho
      have h19 : a.tmps[19]? = some (.int .u32 (T2 : Int)) := (hF.out 19 rfl).trans v19
      refine free_step rfl (by rfl) (fun K' hK => ?_)
      go_simp
      exact hK.out _ _ rfl (Below.refl _ _)
    | 2, ho, hF, hJ, _, hW =>
      obtain rfl := Option.some.inj ho
      obtain ⟨v240, h240, s240⟩ := hF.dep 0 240 rfl rfl
      obtain rfl : v240 = .int .u32 (T1 : Int) := s240
      obtain ⟨v241, h241, s241⟩ := hF.dep 1 241 rfl rfl
      obtain rfl : v241 = .int .u32 (T2 : Int) := s241
      refine free_step rfl (by rfl) (fun K' hK => ?_)
      go_simp
      exact hK.out _ _ rfl (Below.refl _ _)
    | 3, ho, hF, hJ, _, hW =>
      obtain rfl := Option.some.inj ho
      have h16 : a.tmps[16]? = some (.slice (some ⟨vg, vo, none⟩) 8 c8) := (hW 27 16 [] rfl (by kernel_rfl)).trans v16
      refine free_step rfl (by rfl) (fun K' hK => ?_)
      go_simp
      exact hK.out _ _ rfl (Below.refl _ _)
    | 4, ho, hF, hJ, _, hW =>
      obtain rfl := Option.some.inj ho
      obtain ⟨v243, h243, s243⟩ := hF.dep 3 243 rfl rfl
      obtain rfl : v243 = .slice (some ⟨vg, vo, none⟩) 8 c8 := s243
      refine free_step rfl (by rfl) (fun K' hK => ?_)
      go_simp
      exact hK.out _ _ rfl (Below.refl _ _)
    | 5, ho, hF, hJ, _, hW =>
      obtain rfl := Option.some.inj ho
      obtain ⟨v244, h244, s244⟩ := hF.dep 4 244 rfl rfl
      obtain rfl : v244 = .pointer (some ⟨vg, vo, none⟩) := s244
      have gx := (HC.out u hbu).1
      refine free_step rfl (by rfl) (fun K' hK => ?_)
      go_simp
      exact hK.out _ _ rfl (Below.refl _ _)
    | 6, ho, hF, hJ, _, hW =>
      obtain rfl := Option.some.inj ho
      have h16 : a.tmps[16]? = some (.slice (some ⟨vg, vo, none⟩) 8 c8) := (hW 27 16 [] rfl (by kernel_rfl)).trans v16
      refine free_step rfl (by rfl) (fun K' hK => ?_)
      go_simp
      exact hK.out _ _ rfl (Below.refl _ _)
    | 7, ho, hF, hJ, _, hW =>
      obtain rfl := Option.some.inj ho
      obtain ⟨v246, h246, s246⟩ := hF.dep 6 246 rfl rfl
      obtain rfl : v246 = .slice (some ⟨vg, vo, none⟩) 8 c8 := s246
      refine free_step rfl (by rfl) (fun K' hK => ?_)
      go_simp
      exact hK.out _ _ rfl (Below.refl _ _)
    | 8, ho, hF, hJ, _, hW =>
      obtain rfl := Option.some.inj ho
      obtain ⟨v247, h247, s247⟩ := hF.dep 7 247 rfl rfl
      obtain rfl : v247 = .pointer (some ⟨vg, vo + 1, none⟩) := s247
      have gx := (HC.out u hbu).2.1
      refine free_step rfl (by rfl) (fun K' hK => ?_)
      go_simp
      exact hK.out _ _ rfl (Below.refl _ _)
    | 9, ho, hF, hJ, _, hW =>
      obtain rfl := Option.some.inj ho
      have h16 : a.tmps[16]? = some (.slice (some ⟨vg, vo, none⟩) 8 c8) := (hW 27 16 [] rfl (by kernel_rfl)).trans v16
      refine free_step rfl (by rfl) (fun K' hK => ?_)
      go_simp
      exact hK.out _ _ rfl (Below.refl _ _)
    | 10, ho, hF, hJ, _, hW =>
      obtain rfl := Option.some.inj ho
      obtain ⟨v249, h249, s249⟩ := hF.dep 9 249 rfl rfl
      obtain rfl : v249 = .slice (some ⟨vg, vo, none⟩) 8 c8 := s249
      refine free_step rfl (by rfl) (fun K' hK => ?_)
      go_simp
      exact hK.out _ _ rfl (Below.refl _ _)
    | 11, ho, hF, hJ, _, hW =>
      obtain rfl := Option.some.inj ho
      obtain ⟨v250, h250, s250⟩ := hF.dep 10 250 rfl rfl
      obtain rfl : v250 = .pointer (some ⟨vg, vo + 2, none⟩) := s250
      have gx := (HC.out u hbu).2.2.1
      refine free_step rfl (by rfl) (fun K' hK => ?_)
      go_simp
      exact hK.out _ _ rfl (Below.refl _ _)
    | 12, ho, hF, hJ, _, hW =>
      obtain rfl := Option.some.inj ho
      have h16 : a.tmps[16]? = some (.slice (some ⟨vg, vo, none⟩) 8 c8) := (hW 27 16 [] rfl (by kernel_rfl)).trans v16
      refine free_step rfl (by rfl) (fun K' hK => ?_)
      go_simp
      exact hK.out _ _ rfl (Below.refl _ _)
    | 13, ho, hF, hJ, _, hW =>
      obtain rfl := Option.some.inj ho
      obtain ⟨v252, h252, s252⟩ := hF.dep 12 252 rfl rfl
      obtain rfl : v252 = .slice (some ⟨vg, vo, none⟩) 8 c8 := s252
      refine free_step rfl (by rfl) (fun K' hK => ?_)
      go_simp
      exact hK.out _ _ rfl (Below.refl _ _)
    | 14, ho, hF, hJ, _, hW =>
      obtain rfl := Option.some.inj ho
      obtain ⟨v253, h253, s253⟩ := hF.dep 13 253 rfl rfl
      obtain rfl : v253 = .pointer (some ⟨vg, vo + 3, none⟩) := s253
      have gx := (HC.out u hbu).2.2.2.1
      refine free_step rfl (by rfl) (fun K' hK => ?_)
      go_simp
      exact hK.out _ _ rfl (Below.refl _ _)
    | 15, ho, hF, hJ, _, hW =>
      obtain rfl := Option.some.inj ho
      have h18 : a.tmps[18]? = some (.int .u32 (T1 : Int)) := (hF.out 18 rfl).trans v18
      refine free_step rfl (by rfl) (fun K' hK => ?_)
      go_simp
      exact hK.out _ _ rfl (Below.refl _ _)
    | 16, ho, hF, hJ, _, hW =>
      obtain rfl := Option.some.inj ho
      obtain ⟨v254, h254, s254⟩ := hF.dep 14 254 rfl rfl
      obtain rfl : v254 = .int .u32 (D : Int) := s254
      obtain ⟨v255, h255, s255⟩ := hF.dep 15 255 rfl rfl
      obtain rfl : v255 = .int .u32 (T1 : Int) := s255
      refine free_step rfl (by rfl) (fun K' hK => ?_)
      go_simp
      exact hK.out _ _ rfl (Below.refl _ _)
    | 17, ho, hF, hJ, _, hW =>
      obtain rfl := Option.some.inj ho
      have h16 : a.tmps[16]? = some (.slice (some ⟨vg, vo, none⟩) 8 c8) := (hW 27 16 [] rfl (by kernel_rfl)).trans v16
      refine free_step rfl (by rfl) (fun K' hK => ?_)
      go_simp
      exact hK.out _ _ rfl (Below.refl _ _)
    | 18, ho, hF, hJ, _, hW =>
      obtain rfl := Option.some.inj ho
      obtain ⟨v257, h257, s257⟩ := hF.dep 17 257 rfl rfl
      obtain rfl : v257 = .slice (some ⟨vg, vo, none⟩) 8 c8 := s257
      refine free_step rfl (by rfl) (fun K' hK => ?_)
      go_simp
      exact hK.out _ _ rfl (Below.refl _ _)
    | 19, ho, hF, hJ, _, hW =>
      obtain rfl := Option.some.inj ho
      obtain ⟨v258, h258, s258⟩ := hF.dep 18 258 rfl rfl
      obtain rfl : v258 = .pointer (some ⟨vg, vo + 4, none⟩) := s258
      have gx := (HC.out u hbu).2.2.2.2.1
      refine free_step rfl (by rfl) (fun K' hK => ?_)
      go_simp
      exact hK.out _ _ rfl (Below.refl _ _)
    | 20, ho, hF, hJ, _, hW =>
      obtain rfl := Option.some.inj ho
      have h16 : a.tmps[16]? = some (.slice (some ⟨vg, vo, none⟩) 8 c8) := (hW 27 16 [] rfl (by kernel_rfl)).trans v16
      refine free_step rfl (by rfl) (fun K' hK => ?_)
      go_simp
      exact hK.out _ _ rfl (Below.refl _ _)
    | 21, ho, hF, hJ, _, hW =>
      obtain rfl := Option.some.inj ho
      obtain ⟨v260, h260, s260⟩ := hF.dep 20 260 rfl rfl
      obtain rfl : v260 = .slice (some ⟨vg, vo, none⟩) 8 c8 := s260
      refine free_step rfl (by rfl) (fun K' hK => ?_)
      go_simp
      exact hK.out _ _ rfl (Below.refl _ _)
    | 22, ho, hF, hJ, _, hW =>
      obtain rfl := Option.some.inj ho
      obtain ⟨v261, h261, s261⟩ := hF.dep 21 261 rfl rfl
      obtain rfl : v261 = .pointer (some ⟨vg, vo + 5, none⟩) := s261
      have gx := (HC.out u hbu).2.2.2.2.2.1
      refine free_step rfl (by rfl) (fun K' hK => ?_)
      go_simp
      exact hK.out _ _ rfl (Below.refl _ _)
    | 23, ho, hF, hJ, _, hW =>
      obtain rfl := Option.some.inj ho
      have h16 : a.tmps[16]? = some (.slice (some ⟨vg, vo, none⟩) 8 c8) := (hW 27 16 [] rfl (by kernel_rfl)).trans v16
      refine free_step rfl (by rfl) (fun K' hK => ?_)
      go_simp
      exact hK.out _ _ rfl (Below.refl _ _)
    | 24, ho, hF, hJ, _, hW =>
      obtain rfl := Option.some.inj ho
      obtain ⟨v263, h263, s263⟩ := hF.dep 23 263 rfl rfl
      obtain rfl : v263 = .slice (some ⟨vg, vo, none⟩) 8 c8 := s263
      refine free_step rfl (by rfl) (fun K' hK => ?_)
      go_simp
      exact hK.out _ _ rfl (Below.refl _ _)
    | 25, ho, hF, hJ, _, hW =>
      obtain rfl := Option.some.inj ho
      obtain ⟨v264, h264, s264⟩ := hF.dep 24 264 rfl rfl
      obtain rfl : v264 = .pointer (some ⟨vg, vo + 6, none⟩) := s264
      have gx := (HC.out u hbu).2.2.2.2.2.2
      refine free_step rfl (by rfl) (fun K' hK => ?_)
      go_simp
      exact hK.out _ _ rfl (Below.refl _ _)
    | 26, ho, hF, hJ, _, hW =>
      obtain rfl := Option.some.inj ho
      obtain ⟨v242, h242, s242⟩ := hF.dep 2 242 rfl rfl
      obtain rfl : v242 = .int .u32 (A1 : Int) := s242
      obtain ⟨v245, h245, s245⟩ := hF.dep 5 245 rfl rfl
      obtain rfl : v245 = .int .u32 (A : Int) := s245
      obtain ⟨v248, h248, s248⟩ := hF.dep 8 248 rfl rfl
      obtain rfl : v248 = .int .u32 (B : Int) := s248
      obtain ⟨v251, h251, s251⟩ := hF.dep 11 251 rfl rfl
      obtain rfl : v251 = .int .u32 (C : Int) := s251
      obtain ⟨v256, h256, s256⟩ := hF.dep 16 256 rfl rfl
      obtain rfl : v256 = .int .u32 (E1 : Int) := s256
      obtain ⟨v259, h259, s259⟩ := hF.dep 19 259 rfl rfl
      obtain rfl : v259 = .int .u32 (E : Int) := s259
      obtain ⟨v262, h262, s262⟩ := hF.dep 22 262 rfl rfl
      obtain rfl : v262 = .int .u32 (F : Int) := s262
      obtain ⟨v265, h265, s265⟩ := hF.dep 25 265 rfl rfl
      obtain rfl : v265 = .int .u32 (G : Int) := s265
      refine free_step rfl (by rfl) (fun K' hK => ?_)
      go_simp
      exact hK.out _ _ ⟨isN_lit u [A1, A, B, C, E1, E, F, G] (by simp), u.heap.size, rfl, Nat.le_trans hbz hbu.size⟩ ((Below.refl _ u).alloc (Nat.le_refl _) _)
    | 27, _, _, _, hne, _ => exact absurd rfl hne
    | n + 28, ho, _, _, _, _ => exact absurd (Array.getElem?_eq_some_iff.1 ho).1 (by show ¬ n + 28 < 28; omega)
  · intro o a u ho hF hbu hJu hW
    obtain rfl := Option.some.inj ho
    obtain ⟨v266, h266, s266⟩ := hF.dep 26 266 rfl rfl
    replace s266 : IsN .u32 u v266 [A1, A, B, C, E1, E, F, G] ∧ ∃ g, v266 = .slice (some ⟨g, 0, none⟩) 8 8 ∧ bz ≤ g := s266
    refine freeZ_step rfl (by rfl) (fun K' hK => ?_)
    go_simp
    exact hK.out _ _ s266 (grown_refl _ _)
  · intro vs u hS hbu hZ
    exact hfin vs u hS hbu hZ
end Go.Proofs.YtpcmpeeflnlkpaaGreatDoor

/-
  The document's Sum: one of its regions that draw.
-/
namespace Go.Proofs.YtpcmpeeflnlkpaaGreatDoor
open Go.RowKit Ch
set_option maxRecDepth 100000
def semYO : Array Oper := #[{ dst := some 271, op := Go.Op.move (Go.Operand.tmp 9), type := 37, pos := "ref.go:161", after := #[], guard := none }, { dst := some 272, op := Go.Op.move (Go.Operand.tmp 20), type := 3, pos := "ref.go:161", after := #[], guard := none }, { dst := some 273, op := Go.Op.move (Go.Operand.tmp 9), type := 37, pos := "ref.go:161", after := #[], guard := none }, { dst := some 274, op := Go.Op.move (Go.Operand.tmp 20), type := 3, pos := "ref.go:161", after := #[], guard := none }, { dst := some 275, op := Go.Op.indexAddr 37 (Go.Operand.tmp 273) (Go.Operand.tmp 274), type := 0, pos := "ref.go:161", after := #[{ on := 2, ground := Go.Ground.data }, { on := 3, ground := Go.Ground.data }], guard := none }, { dst := some 276, op := Go.Op.load 63 (Go.Operand.tmp 275), type := 63, pos := "ref.go:161", after := #[{ on := 4, ground := Go.Ground.data }], guard := none }, { dst := some 277, op := Go.Op.move (Go.Operand.tmp 16), type := 37, pos := "ref.go:161", after := #[], guard := none }, { dst := some 278, op := Go.Op.move (Go.Operand.tmp 20), type := 3, pos := "ref.go:161", after := #[], guard := none }, { dst := some 279, op := Go.Op.indexAddr 37 (Go.Operand.tmp 277) (Go.Operand.tmp 278), type := 0, pos := "ref.go:161", after := #[{ on := 6, ground := Go.Ground.data }, { on := 7, ground := Go.Ground.data }], guard := none }, { dst := some 280, op := Go.Op.load 63 (Go.Operand.tmp 279), type := 63, pos := "ref.go:161", after := #[{ on := 8, ground := Go.Ground.data }], guard := none }, { dst := some 281, op := Go.Op.binOp Go.BinOp.add 63 (Go.Operand.tmp 276) (Go.Operand.tmp 280) 63, type := 63, pos := "ref.go:161", after := #[{ on := 5, ground := Go.Ground.data }, { on := 9, ground := Go.Ground.data }], guard := none }, { dst := some 282, op := Go.Op.indexAddr 37 (Go.Operand.tmp 271) (Go.Operand.tmp 272), type := 0, pos := "ref.go:161", after := #[{ on := 0, ground := Go.Ground.data }, { on := 1, ground := Go.Ground.data }, { on := 0, ground := Go.Ground.phase }, { on := 1, ground := Go.Ground.phase }, { on := 2, ground := Go.Ground.phase }, { on := 3, ground := Go.Ground.phase }, { on := 4, ground := Go.Ground.phase }, { on := 5, ground := Go.Ground.phase }, { on := 6, ground := Go.Ground.phase }, { on := 7, ground := Go.Ground.phase }, { on := 8, ground := Go.Ground.phase }, { on := 9, ground := Go.Ground.phase }, { on := 10, ground := Go.Ground.phase }], guard := none }, { dst := none, op := Go.Op.store 63 (Go.Operand.tmp 282) (Go.Operand.tmp 281), type := 0, pos := "ref.go:161", after := #[{ on := 11, ground := Go.Ground.data }, { on := 10, ground := Go.Ground.data }, { on := 0, ground := Go.Ground.phase }, { on := 1, ground := Go.Ground.phase }, { on := 2, ground := Go.Ground.phase }, { on := 3, ground := Go.Ground.phase }, { on := 4, ground := Go.Ground.phase }, { on := 5, ground := Go.Ground.phase }, { on := 6, ground := Go.Ground.phase }, { on := 7, ground := Go.Ground.phase }, { on := 8, ground := Go.Ground.phase }, { on := 9, ground := Go.Ground.phase }, { on := 10, ground := Go.Ground.phase }], guard := none }]
def semY (Hk Vk S k g6 c6 vg vo c8 bh : Nat) (L : List Nat) : Nat → Value → World → Prop := fun ix v u => match ix with
  | 0 => v = .slice (some ⟨g6, 0, none⟩) 8 c6
  | 1 => v = .int .i64 (k : Int)
  | 2 => v = .slice (some ⟨g6, 0, none⟩) 8 c6
  | 3 => v = .int .i64 (k : Int)
  | 4 => v = .pointer (some ⟨g6, k, none⟩)
  | 5 => v = .int .u32 (Hk : Int)
  | 6 => v = .slice (some ⟨vg, vo, none⟩) 8 c8
  | 7 => v = .int .i64 (k : Int)
  | 8 => v = .pointer (some ⟨vg, vo + k, none⟩)
  | 9 => v = .int .u32 (Vk : Int)
  | 10 => v = .int .u32 (S : Int)
  | 11 => v = .pointer (some ⟨g6, k, none⟩)
  | 12 => u.ownsRow bh 63 1 (.slice (some ⟨g6, 0, none⟩) 8 c6) (L.set k S).length (kc .u32 (L.set k S)) ∧ v = v
  | _ => True
set_option maxHeartbeats 2000000 in
theorem semYR (Hk Vk S k g6 c6 vg vo c8 bh : Nat) (L : List Nat)  {Q : Exit → Act → World → Prop} {a0 : Act} {u0 : World} (hsz : a0.tmps.size = 314) (v9 : a0.tmps[9]? = some (.slice (some ⟨g6, 0, none⟩) 8 c6)) (v16 : a0.tmps[16]? = some (.slice (some ⟨vg, vo, none⟩) 8 c8)) (v20 : a0.tmps[20]? = some (.int .i64 (k : Int))) (hk : (k : Int) < 8) (hJ0 : u0.drew.ownsRow bh 63 1 (.slice (some ⟨g6, 0, none⟩) 8 c6) L.length (kc .u32 L)) (hLk : L[k]? = some Hk) (HC : Hid (∀ u, u0.drew.grownBy u (some g6) → u.cell? ⟨vg, vo + k, none⟩ = some (.int .u32 (Vk : Int)))) (q1 : IntKind.u32.wrap ((Hk : Int) + (Vk : Int)) = (S : Int))
    (hfin : ∀ (vs : Nat → Value) u, (∀ ix d, ((semYO[ix]?).bind (fun x => Oper.dst x)) = some d → semY Hk Vk S k g6 c6 vg vo c8 bh L ix (vs ix) u) → u0.drew.grownBy u (some g6) → (∃ v, semY Hk Vk S k g6 c6 vg vo c8 bh L 12 v u) → Q .normal (putFrom vs a0 semYO.toList 0) u) : (Code.region 37 semYO true).wp Tryz.prog Q a0 u0 := by
  unfold semYO
  refine freeZ_walk (Sem := semY Hk Vk S k g6 c6 vg vo c8 bh L) (J := fun u => u.ownsRow bh 63 1 (.slice (some ⟨g6, 0, none⟩) 8 c6) L.length (kc .u32 L)) 12 (fun j => j == 12) (some g6) rfl (n := 314) (by kernel_rfl) hsz (by kernel_rfl) hJ0 ?_ ?_ ?_ (fun _ _ h hb => ownsRow_later h hb) (by decide) ?_ ?_ (by decide) ?_
  · intro j hj
    simp only [beq_iff_eq] at hj
    subst hj
    · exact .inl rfl
  · intro ix v u u' hl h hb
    match ix, h, hl with
    | 0, h, _ => exact h
    | 1, h, _ => exact h
    | 2, h, _ => exact h
    | 3, h, _ => exact h
    | 4, h, _ => exact h
    | 5, h, _ => exact h
    | 6, h, _ => exact h
    | 7, h, _ => exact h
    | 8, h, _ => exact h
    | 9, h, _ => exact h
    | 10, h, _ => exact h
    | 11, h, _ => exact h
    | 12, _, hl => exact absurd hl (by decide)
    | _ + 13, _, _ => exact trivial
  · intro ix v u u' hl h hb
    match ix, h, hl with
    | 0, _, hl => exact absurd hl (by decide)
    | 1, _, hl => exact absurd hl (by decide)
    | 2, _, hl => exact absurd hl (by decide)
    | 3, _, hl => exact absurd hl (by decide)
    | 4, _, hl => exact absurd hl (by decide)
    | 5, _, hl => exact absurd hl (by decide)
    | 6, _, hl => exact absurd hl (by decide)
    | 7, _, hl => exact absurd hl (by decide)
    | 8, _, hl => exact absurd hl (by decide)
    | 9, _, hl => exact absurd hl (by decide)
    | 10, _, hl => exact absurd hl (by decide)
    | 11, _, hl => exact absurd hl (by decide)
    | 12, h, _ => exact ⟨ownsRow_later h.1 hb, rfl⟩
    | _ + 13, _, _ => exact trivial
  · intro ix o a u ho hne hF hbu hJ hW
    match ix, ho, hF, hJ, hne, hW with
    | 0, ho, hF, hJ, _, hW =>
      obtain rfl := Option.some.inj ho
      have h9 : a.tmps[9]? = some (.slice (some ⟨g6, 0, none⟩) 8 c6) := (hF.out 9 rfl).trans v9
      refine free_step rfl (by rfl) (fun K' hK => ?_)
      go_simp
      exact hK.out _ _ rfl (Below.refl _ _)
    | 1, ho, hF, hJ, _, hW =>
      obtain rfl := Option.some.inj ho
      have h20 : a.tmps[20]? = some (.int .i64 (k : Int)) := (hF.out 20 rfl).trans v20
      refine free_step rfl (by rfl) (fun K' hK => ?_)
      go_simp
      exact hK.out _ _ rfl (Below.refl _ _)
    | 2, ho, hF, hJ, _, hW =>
      obtain rfl := Option.some.inj ho
      have h9 : a.tmps[9]? = some (.slice (some ⟨g6, 0, none⟩) 8 c6) := (hF.out 9 rfl).trans v9
      refine free_step rfl (by rfl) (fun K' hK => ?_)
      go_simp
      exact hK.out _ _ rfl (Below.refl _ _)
    | 3, ho, hF, hJ, _, hW =>
      obtain rfl := Option.some.inj ho
      have h20 : a.tmps[20]? = some (.int .i64 (k : Int)) := (hF.out 20 rfl).trans v20
      refine free_step rfl (by rfl) (fun K' hK => ?_)
      go_simp
      exact hK.out _ _ rfl (Below.refl _ _)
    | 4, ho, hF, hJ, _, hW =>
      obtain rfl := Option.some.inj ho
      obtain ⟨v273, h273, s273⟩ := hF.dep 2 273 rfl rfl
      obtain rfl : v273 = .slice (some ⟨g6, 0, none⟩) 8 c6 := s273
      obtain ⟨v274, h274, s274⟩ := hF.dep 3 274 rfl rfl
      obtain rfl : v274 = .int .i64 (k : Int) := s274
      refine free_step rfl (by rfl) (fun K' hK => ?_)
      go_simp
      exact hK.out _ _ rfl (Below.refl _ _)
    | 5, ho, hF, hJ, _, hW =>
      have hJu := hJ [] (by kernel_rfl)
      obtain rfl := Option.some.inj ho
      obtain ⟨v275, h275, s275⟩ := hF.dep 4 275 rfl rfl
      obtain rfl : v275 = .pointer (some ⟨g6, k, none⟩) := s275
      have gx := (own_setG hJu hLk).2.2.2.2.1
      refine free_step rfl (by rfl) (fun K' hK => ?_)
      go_simp
      exact hK.out _ _ rfl (Below.refl _ _)
    | 6, ho, hF, hJ, _, hW =>
      obtain rfl := Option.some.inj ho
      have h16 : a.tmps[16]? = some (.slice (some ⟨vg, vo, none⟩) 8 c8) := (hF.out 16 rfl).trans v16
      refine free_step rfl (by rfl) (fun K' hK => ?_)
      go_simp
      exact hK.out _ _ rfl (Below.refl _ _)
    | 7, ho, hF, hJ, _, hW =>
      obtain rfl := Option.some.inj ho
      have h20 : a.tmps[20]? = some (.int .i64 (k : Int)) := (hF.out 20 rfl).trans v20
      refine free_step rfl (by rfl) (fun K' hK => ?_)
      go_simp
      exact hK.out _ _ rfl (Below.refl _ _)
    | 8, ho, hF, hJ, _, hW =>
      obtain rfl := Option.some.inj ho
      obtain ⟨v277, h277, s277⟩ := hF.dep 6 277 rfl rfl
      obtain rfl : v277 = .slice (some ⟨vg, vo, none⟩) 8 c8 := s277
      obtain ⟨v278, h278, s278⟩ := hF.dep 7 278 rfl rfl
      obtain rfl : v278 = .int .i64 (k : Int) := s278
      refine free_step rfl (by rfl) (fun K' hK => ?_)
      go_simp
      exact hK.out _ _ rfl (Below.refl _ _)
    | 9, ho, hF, hJ, _, hW =>
      obtain rfl := Option.some.inj ho
      obtain ⟨v279, h279, s279⟩ := hF.dep 8 279 rfl rfl
      obtain rfl : v279 = .pointer (some ⟨vg, vo + k, none⟩) := s279
      have gx := HC.out u hbu
      refine free_step rfl (by rfl) (fun K' hK => ?_)
      go_simp
      exact hK.out _ _ rfl (Below.refl _ _)
    | 10, ho, hF, hJ, _, hW =>
      obtain rfl := Option.some.inj ho
      obtain ⟨v276, h276, s276⟩ := hF.dep 5 276 rfl rfl
      obtain rfl : v276 = .int .u32 (Hk : Int) := s276
      obtain ⟨v280, h280, s280⟩ := hF.dep 9 280 rfl rfl
      obtain rfl : v280 = .int .u32 (Vk : Int) := s280
      refine free_step rfl (by rfl) (fun K' hK => ?_)
      go_simp
      exact hK.out _ _ rfl (Below.refl _ _)
    | 11, ho, hF, hJ, _, hW =>
      obtain rfl := Option.some.inj ho
      obtain ⟨v271, h271, s271⟩ := hF.dep 0 271 rfl rfl
      obtain rfl : v271 = .slice (some ⟨g6, 0, none⟩) 8 c6 := s271
      obtain ⟨v272, h272, s272⟩ := hF.dep 1 272 rfl rfl
      obtain rfl : v272 = .int .i64 (k : Int) := s272
      refine free_step rfl (by rfl) (fun K' hK => ?_)
      go_simp
      exact hK.out _ _ rfl (Below.refl _ _)
    | 12, _, _, _, hne, _ => exact absurd rfl hne
    | n + 13, ho, _, _, _, _ => exact absurd (Array.getElem?_eq_some_iff.1 ho).1 (by show ¬ n + 13 < 13; omega)
  · intro o a u ho hF hbu hJu hW
    obtain rfl := Option.some.inj ho
    obtain ⟨v282, h282, s282⟩ := hF.dep 11 282 rfl rfl
    obtain rfl : v282 = .pointer (some ⟨g6, k, none⟩) := s282
    obtain ⟨v281, h281, s281⟩ := hF.dep 10 281 rfl rfl
    obtain rfl : v281 = .int .u32 (S : Int) := s281
    refine freeZ_step rfl (by rfl) (fun K' hK => ?_)
    have gc := (own_setG hJu hLk).2.2.2.2.1
    have gf := (own_setG hJu hLk).2.2.2.2.2.1
    have gs := (own_setG hJu hLk).2.2.2.2.2.2 S
    go_simp
    exact hK.out undef _ ⟨gs, rfl⟩ (grown_setCell u ⟨g6, k, none⟩ _)
  · intro vs u hS hbu hZ
    exact hfin vs u hS hbu hZ
end Go.Proofs.YtpcmpeeflnlkpaaGreatDoor
