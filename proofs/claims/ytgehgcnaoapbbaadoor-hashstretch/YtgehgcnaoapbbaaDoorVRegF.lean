/-
  The document's Sum: one of its regions that draw.
-/
import Derived.Test.YtgehgcnaoapbbaaDoorVRegs
namespace Go.Proofs.YtgehgcnaoapbbaaDoor
open Go.RowKit Ch
set_option maxRecDepth 100000
def semYO : Array Oper := #[{ dst := some 271, op := Go.Op.move (Go.Operand.tmp 9), type := 28, pos := "ref.go:161", after := #[], guard := none }, { dst := some 272, op := Go.Op.move (Go.Operand.tmp 20), type := 3, pos := "ref.go:161", after := #[], guard := none }, { dst := some 273, op := Go.Op.move (Go.Operand.tmp 9), type := 28, pos := "ref.go:161", after := #[], guard := none }, { dst := some 274, op := Go.Op.move (Go.Operand.tmp 20), type := 3, pos := "ref.go:161", after := #[], guard := none }, { dst := some 275, op := Go.Op.indexAddr 28 (Go.Operand.tmp 273) (Go.Operand.tmp 274), type := 0, pos := "ref.go:161", after := #[{ on := 2, ground := Go.Ground.data }, { on := 3, ground := Go.Ground.data }], guard := none }, { dst := some 276, op := Go.Op.load 46 (Go.Operand.tmp 275), type := 46, pos := "ref.go:161", after := #[{ on := 4, ground := Go.Ground.data }], guard := none }, { dst := some 277, op := Go.Op.move (Go.Operand.tmp 16), type := 28, pos := "ref.go:161", after := #[], guard := none }, { dst := some 278, op := Go.Op.move (Go.Operand.tmp 20), type := 3, pos := "ref.go:161", after := #[], guard := none }, { dst := some 279, op := Go.Op.indexAddr 28 (Go.Operand.tmp 277) (Go.Operand.tmp 278), type := 0, pos := "ref.go:161", after := #[{ on := 6, ground := Go.Ground.data }, { on := 7, ground := Go.Ground.data }], guard := none }, { dst := some 280, op := Go.Op.load 46 (Go.Operand.tmp 279), type := 46, pos := "ref.go:161", after := #[{ on := 8, ground := Go.Ground.data }], guard := none }, { dst := some 281, op := Go.Op.binOp Go.BinOp.add 46 (Go.Operand.tmp 276) (Go.Operand.tmp 280) 46, type := 46, pos := "ref.go:161", after := #[{ on := 5, ground := Go.Ground.data }, { on := 9, ground := Go.Ground.data }], guard := none }, { dst := some 282, op := Go.Op.indexAddr 28 (Go.Operand.tmp 271) (Go.Operand.tmp 272), type := 0, pos := "ref.go:161", after := #[{ on := 0, ground := Go.Ground.data }, { on := 1, ground := Go.Ground.data }, { on := 0, ground := Go.Ground.phase }, { on := 1, ground := Go.Ground.phase }, { on := 2, ground := Go.Ground.phase }, { on := 3, ground := Go.Ground.phase }, { on := 4, ground := Go.Ground.phase }, { on := 5, ground := Go.Ground.phase }, { on := 6, ground := Go.Ground.phase }, { on := 7, ground := Go.Ground.phase }, { on := 8, ground := Go.Ground.phase }, { on := 9, ground := Go.Ground.phase }, { on := 10, ground := Go.Ground.phase }], guard := none }, { dst := none, op := Go.Op.store 46 (Go.Operand.tmp 282) (Go.Operand.tmp 281), type := 0, pos := "ref.go:161", after := #[{ on := 11, ground := Go.Ground.data }, { on := 10, ground := Go.Ground.data }, { on := 0, ground := Go.Ground.phase }, { on := 1, ground := Go.Ground.phase }, { on := 2, ground := Go.Ground.phase }, { on := 3, ground := Go.Ground.phase }, { on := 4, ground := Go.Ground.phase }, { on := 5, ground := Go.Ground.phase }, { on := 6, ground := Go.Ground.phase }, { on := 7, ground := Go.Ground.phase }, { on := 8, ground := Go.Ground.phase }, { on := 9, ground := Go.Ground.phase }, { on := 10, ground := Go.Ground.phase }], guard := none }]
def semY (Hk Vk S k g6 c6 vg vo c8 bh : Nat) (L : List Nat) : Nat → Value → World → Prop := fun ix v u => match ix with
  | 0 => v = .slice (some ⟨g6, 0, none⟩) 8 c6
  | 1 => v = .int .i64 (k : Int)
  | 2 => v = .slice (some ⟨g6, 0, none⟩) 8 c6
  | 3 => v = .int .i64 (k : Int)
  | 4 => v = .pointer (some ⟨g6, k, none⟩)
  | 5 => v = .int .u32 (Hk : Int)
  | 6 => v = .slice (some ⟨vg, vo, none⟩) 8 c8
  | 7 => v = .int .i64 (k : Int)
  | 8 => v = .pointer (some ⟨vg, vo + k, none⟩)
  | 9 => v = .int .u32 (Vk : Int)
  | 10 => v = .int .u32 (S : Int)
  | 11 => v = .pointer (some ⟨g6, k, none⟩)
  | 12 => u.ownsRow bh 46 1 (.slice (some ⟨g6, 0, none⟩) 8 c6) (L.set k S).length (kc .u32 (L.set k S)) ∧ v = v
  | _ => True
set_option maxHeartbeats 2000000 in
theorem semYR (Hk Vk S k g6 c6 vg vo c8 bh : Nat) (L : List Nat) {Q : Exit → Act → World → Prop} {a0 : Act} {u0 : World} (hsz : a0.tmps.size = 314) (v9 : a0.tmps[9]? = some (.slice (some ⟨g6, 0, none⟩) 8 c6)) (v16 : a0.tmps[16]? = some (.slice (some ⟨vg, vo, none⟩) 8 c8)) (v20 : a0.tmps[20]? = some (.int .i64 (k : Int))) (hk : (k : Int) < 8) (hJ0 : u0.drew.ownsRow bh 46 1 (.slice (some ⟨g6, 0, none⟩) 8 c6) L.length (kc .u32 L)) (hLk : L[k]? = some Hk) (HC : Hid (∀ u, u0.drew.grownBy u (some g6) → u.cell? ⟨vg, vo + k, none⟩ = some (.int .u32 (Vk : Int)))) (q1 : IntKind.u32.wrap ((Hk : Int) + (Vk : Int)) = (S : Int))
    (hfin : ∀ (vs : Nat → Value) u, (∀ ix d, ((semYO[ix]?).bind (fun x => Oper.dst x)) = some d → semY Hk Vk S k g6 c6 vg vo c8 bh L ix (vs ix) u) → u0.drew.grownBy u (some g6) → (∃ v, semY Hk Vk S k g6 c6 vg vo c8 bh L 12 v u) → Q .normal (putFrom vs a0 semYO.toList 0) u) : (Code.region 37 semYO true).wp Tryd.prog Q a0 u0 := by
  unfold semYO
  refine freeZ_walk (Sem := semY Hk Vk S k g6 c6 vg vo c8 bh L) (J := fun u => u.ownsRow bh 46 1 (.slice (some ⟨g6, 0, none⟩) 8 c6) L.length (kc .u32 L)) 12 (fun j => j == 12) (some g6) rfl (n := 314) (by kernel_rfl) hsz (by kernel_rfl) hJ0 ?_ ?_ ?_ (fun _ _ h hb => ownsRow_later h hb) (by decide) ?_ ?_ (by decide) ?_
  · intro j hj
    simp only [beq_iff_eq] at hj
    subst hj
    · exact .inl rfl
  · intro ix v u u' hl h hb
    match ix, h, hl with
    | 0, h, _ => exact h
    | 1, h, _ => exact h
    | 2, h, _ => exact h
    | 3, h, _ => exact h
    | 4, h, _ => exact h
    | 5, h, _ => exact h
    | 6, h, _ => exact h
    | 7, h, _ => exact h
    | 8, h, _ => exact h
    | 9, h, _ => exact h
    | 10, h, _ => exact h
    | 11, h, _ => exact h
    | 12, _, hl => exact absurd hl (by decide)
    | _ + 13, _, _ => exact trivial
  · intro ix v u u' hl h hb
    match ix, h, hl with
    | 0, _, hl => exact absurd hl (by decide)
    | 1, _, hl => exact absurd hl (by decide)
    | 2, _, hl => exact absurd hl (by decide)
    | 3, _, hl => exact absurd hl (by decide)
    | 4, _, hl => exact absurd hl (by decide)
    | 5, _, hl => exact absurd hl (by decide)
    | 6, _, hl => exact absurd hl (by decide)
    | 7, _, hl => exact absurd hl (by decide)
    | 8, _, hl => exact absurd hl (by decide)
    | 9, _, hl => exact absurd hl (by decide)
    | 10, _, hl => exact absurd hl (by decide)
    | 11, _, hl => exact absurd hl (by decide)
    | 12, h, _ => exact ⟨ownsRow_later h.1 hb, rfl⟩
    | _ + 13, _, _ => exact trivial
  · intro ix o a u ho hne hF hbu hJ hW
    match ix, ho, hF, hJ, hne, hW with
    | 0, ho, hF, hJ, _, hW =>
      obtain rfl := Option.some.inj ho
      have h9 : a.tmps[9]? = some (.slice (some ⟨g6, 0, none⟩) 8 c6) := (hF.out 9 rfl).trans v9
      refine free_step rfl (by rfl) (fun K' hK => ?_)
      go_simp
      exact hK.out _ _ rfl (Below.refl _ _)
    | 1, ho, hF, hJ, _, hW =>
      obtain rfl := Option.some.inj ho
      have h20 : a.tmps[20]? = some (.int .i64 (k : Int)) := (hF.out 20 rfl).trans v20
      refine free_step rfl (by rfl) (fun K' hK => ?_)
      go_simp
      exact hK.out _ _ rfl (Below.refl _ _)
    | 2, ho, hF, hJ, _, hW =>
      obtain rfl := Option.some.inj ho
      have h9 : a.tmps[9]? = some (.slice (some ⟨g6, 0, none⟩) 8 c6) := (hF.out 9 rfl).trans v9
      refine free_step rfl (by rfl) (fun K' hK => ?_)
      go_simp
      exact hK.out _ _ rfl (Below.refl _ _)
    | 3, ho, hF, hJ, _, hW =>
      obtain rfl := Option.some.inj ho
      have h20 : a.tmps[20]? = some (.int .i64 (k : Int)) := (hF.out 20 rfl).trans v20
      refine free_step rfl (by rfl) (fun K' hK => ?_)
      go_simp
      exact hK.out _ _ rfl (Below.refl _ _)
    | 4, ho, hF, hJ, _, hW =>
      obtain rfl := Option.some.inj ho
      obtain ⟨v273, h273, s273⟩ := hF.dep 2 273 rfl rfl
      obtain rfl : v273 = .slice (some ⟨g6, 0, none⟩) 8 c6 := s273
      obtain ⟨v274, h274, s274⟩ := hF.dep 3 274 rfl rfl
      obtain rfl : v274 = .int .i64 (k : Int) := s274
      refine free_step rfl (by rfl) (fun K' hK => ?_)
      go_simp
      exact hK.out _ _ rfl (Below.refl _ _)
    | 5, ho, hF, hJ, _, hW =>
      have hJu := hJ [] (by kernel_rfl)
      obtain rfl := Option.some.inj ho
      obtain ⟨v275, h275, s275⟩ := hF.dep 4 275 rfl rfl
      obtain rfl : v275 = .pointer (some ⟨g6, k, none⟩) := s275
      have gx := (own_setG hJu hLk).2.2.2.2.1
      refine free_step rfl (by rfl) (fun K' hK => ?_)
      go_simp
      exact hK.out _ _ rfl (Below.refl _ _)
    | 6, ho, hF, hJ, _, hW =>
      obtain rfl := Option.some.inj ho
      have h16 : a.tmps[16]? = some (.slice (some ⟨vg, vo, none⟩) 8 c8) := (hF.out 16 rfl).trans v16
      refine free_step rfl (by rfl) (fun K' hK => ?_)
      go_simp
      exact hK.out _ _ rfl (Below.refl _ _)
    | 7, ho, hF, hJ, _, hW =>
      obtain rfl := Option.some.inj ho
      have h20 : a.tmps[20]? = some (.int .i64 (k : Int)) := (hF.out 20 rfl).trans v20
      refine free_step rfl (by rfl) (fun K' hK => ?_)
      go_simp
      exact hK.out _ _ rfl (Below.refl _ _)
    | 8, ho, hF, hJ, _, hW =>
      obtain rfl := Option.some.inj ho
      obtain ⟨v277, h277, s277⟩ := hF.dep 6 277 rfl rfl
      obtain rfl : v277 = .slice (some ⟨vg, vo, none⟩) 8 c8 := s277
      obtain ⟨v278, h278, s278⟩ := hF.dep 7 278 rfl rfl
      obtain rfl : v278 = .int .i64 (k : Int) := s278
      refine free_step rfl (by rfl) (fun K' hK => ?_)
      go_simp
      exact hK.out _ _ rfl (Below.refl _ _)
    | 9, ho, hF, hJ, _, hW =>
      obtain rfl := Option.some.inj ho
      obtain ⟨v279, h279, s279⟩ := hF.dep 8 279 rfl rfl
      obtain rfl : v279 = .pointer (some ⟨vg, vo + k, none⟩) := s279
      have gx := HC.out u hbu
      refine free_step rfl (by rfl) (fun K' hK => ?_)
      go_simp
      exact hK.out _ _ rfl (Below.refl _ _)
    | 10, ho, hF, hJ, _, hW =>
      obtain rfl := Option.some.inj ho
      obtain ⟨v276, h276, s276⟩ := hF.dep 5 276 rfl rfl
      obtain rfl : v276 = .int .u32 (Hk : Int) := s276
      obtain ⟨v280, h280, s280⟩ := hF.dep 9 280 rfl rfl
      obtain rfl : v280 = .int .u32 (Vk : Int) := s280
      refine free_step rfl (by rfl) (fun K' hK => ?_)
      go_simp
      exact hK.out _ _ rfl (Below.refl _ _)
    | 11, ho, hF, hJ, _, hW =>
      obtain rfl := Option.some.inj ho
      obtain ⟨v271, h271, s271⟩ := hF.dep 0 271 rfl rfl
      obtain rfl : v271 = .slice (some ⟨g6, 0, none⟩) 8 c6 := s271
      obtain ⟨v272, h272, s272⟩ := hF.dep 1 272 rfl rfl
      obtain rfl : v272 = .int .i64 (k : Int) := s272
      refine free_step rfl (by rfl) (fun K' hK => ?_)
      go_simp
      exact hK.out _ _ rfl (Below.refl _ _)
    | 12, _, _, _, hne, _ => exact absurd rfl hne
    | n + 13, ho, _, _, _, _ => exact absurd (Array.getElem?_eq_some_iff.1 ho).1 (by show ¬ n + 13 < 13; omega)
  · intro o a u ho hF hbu hJu hW
    obtain rfl := Option.some.inj ho
    obtain ⟨v282, h282, s282⟩ := hF.dep 11 282 rfl rfl
    obtain rfl : v282 = .pointer (some ⟨g6, k, none⟩) := s282
    obtain ⟨v281, h281, s281⟩ := hF.dep 10 281 rfl rfl
    obtain rfl : v281 = .int .u32 (S : Int) := s281
    refine freeZ_step rfl (by rfl) (fun K' hK => ?_)
    have gc := (own_setG hJu hLk).2.2.2.2.1
    have gf := (own_setG hJu hLk).2.2.2.2.2.1
    have gs := (own_setG hJu hLk).2.2.2.2.2.2 S
    go_simp
    exact hK.out undef _ ⟨gs, rfl⟩ (grown_setCell u ⟨g6, k, none⟩ _)
  · intro vs u hS hbu hZ
    exact hfin vs u hS hbu hZ
end Go.Proofs.YtgehgcnaoapbbaaDoor
