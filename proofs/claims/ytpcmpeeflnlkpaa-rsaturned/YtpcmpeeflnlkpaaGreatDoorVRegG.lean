
/-
  The document's Sum: one of its regions that draw.
-/
import Derived.Test.YtpcmpeeflnlkpaaGreatDoorVWordsEtc
namespace Go.Proofs.YtpcmpeeflnlkpaaGreatDoor
open Go.RowKit Ch
set_option maxRecDepth 100000
def semZO : Array Oper := #[{ dst := some 287, op := Go.Op.move (Go.Operand.tmp 21), type := 22, pos := "ref.go:166", after := #[], guard := none }, { dst := some 288, op := Go.Op.move (Go.Operand.tmp 9), type := 37, pos := "ref.go:166", after := #[], guard := none }, { dst := some 289, op := Go.Op.move (Go.Operand.tmp 22), type := 3, pos := "ref.go:166", after := #[], guard := none }, { dst := some 290, op := Go.Op.indexAddr 37 (Go.Operand.tmp 288) (Go.Operand.tmp 289), type := 0, pos := "ref.go:166", after := #[{ on := 1, ground := Go.Ground.data }, { on := 2, ground := Go.Ground.data }], guard := none }, { dst := some 291, op := Go.Op.load 63 (Go.Operand.tmp 290), type := 63, pos := "ref.go:166", after := #[{ on := 3, ground := Go.Ground.data }], guard := none }, { dst := some 292, op := Go.Op.binOp Go.BinOp.quo 63 (Go.Operand.tmp 291) (Go.Operand.const (Go.Value.int Go.IntKind.u32 16777216)) 63, type := 63, pos := "ref.go:166", after := #[{ on := 4, ground := Go.Ground.data }], guard := none }, { dst := some 293, op := Go.Op.convert 63 5 (Go.Operand.tmp 292), type := 5, pos := "ref.go:166", after := #[{ on := 5, ground := Go.Ground.data }], guard := none }, { dst := some 294, op := Go.Op.move (Go.Operand.tmp 9), type := 37, pos := "ref.go:166", after := #[], guard := none }, { dst := some 295, op := Go.Op.move (Go.Operand.tmp 22), type := 3, pos := "ref.go:166", after := #[], guard := none }, { dst := some 296, op := Go.Op.indexAddr 37 (Go.Operand.tmp 294) (Go.Operand.tmp 295), type := 0, pos := "ref.go:166", after := #[{ on := 7, ground := Go.Ground.data }, { on := 8, ground := Go.Ground.data }], guard := none }, { dst := some 297, op := Go.Op.load 63 (Go.Operand.tmp 296), type := 63, pos := "ref.go:166", after := #[{ on := 9, ground := Go.Ground.data }], guard := none }, { dst := some 298, op := Go.Op.binOp Go.BinOp.quo 63 (Go.Operand.tmp 297) (Go.Operand.const (Go.Value.int Go.IntKind.u32 65536)) 63, type := 63, pos := "ref.go:166", after := #[{ on := 10, ground := Go.Ground.data }], guard := none }, { dst := some 299, op := Go.Op.convert 63 5 (Go.Operand.tmp 298), type := 5, pos := "ref.go:166", after := #[{ on := 11, ground := Go.Ground.data }], guard := none }, { dst := some 300, op := Go.Op.move (Go.Operand.tmp 9), type := 37, pos := "ref.go:166", after := #[], guard := none }, { dst := some 301, op := Go.Op.move (Go.Operand.tmp 22), type := 3, pos := "ref.go:166", after := #[], guard := none }, { dst := some 302, op := Go.Op.indexAddr 37 (Go.Operand.tmp 300) (Go.Operand.tmp 301), type := 0, pos := "ref.go:166", after := #[{ on := 13, ground := Go.Ground.data }, { on := 14, ground := Go.Ground.data }], guard := none }, { dst := some 303, op := Go.Op.load 63 (Go.Operand.tmp 302), type := 63, pos := "ref.go:166", after := #[{ on := 15, ground := Go.Ground.data }], guard := none }, { dst := some 304, op := Go.Op.binOp Go.BinOp.quo 63 (Go.Operand.tmp 303) (Go.Operand.const (Go.Value.int Go.IntKind.u32 256)) 63, type := 63, pos := "ref.go:166", after := #[{ on := 16, ground := Go.Ground.data }], guard := none }, { dst := some 305, op := Go.Op.convert 63 5 (Go.Operand.tmp 304), type := 5, pos := "ref.go:166", after := #[{ on := 17, ground := Go.Ground.data }], guard := none }, { dst := some 306, op := Go.Op.move (Go.Operand.tmp 9), type := 37, pos := "ref.go:166", after := #[], guard := none }, { dst := some 307, op := Go.Op.move (Go.Operand.tmp 22), type := 3, pos := "ref.go:166", after := #[], guard := none }, { dst := some 308, op := Go.Op.indexAddr 37 (Go.Operand.tmp 306) (Go.Operand.tmp 307), type := 0, pos := "ref.go:166", after := #[{ on := 19, ground := Go.Ground.data }, { on := 20, ground := Go.Ground.data }], guard := none }, { dst := some 309, op := Go.Op.load 63 (Go.Operand.tmp 308), type := 63, pos := "ref.go:166", after := #[{ on := 21, ground := Go.Ground.data }], guard := none }, { dst := some 310, op := Go.Op.convert 63 5 (Go.Operand.tmp 309), type := 5, pos := "ref.go:166", after := #[{ on := 22, ground := Go.Ground.data }], guard := none }, { dst := some 311, op := Go.Op.buildSlice 22 4 #[(0, Go.Operand.tmp 293), (1, Go.Operand.tmp 299), (2, Go.Operand.tmp 305), (3, Go.Operand.tmp 310)], type := 22, pos := "ref.go:166", after := #[{ on := 6, ground := Go.Ground.data }, { on := 12, ground := Go.Ground.data }, { on := 18, ground := Go.Ground.data }, { on := 23, ground := Go.Ground.data }], guard := none }, { dst := some 312, op := Go.Op.call { callee := Go.Callee.builtin Go.Builtin.append, args := #[Go.Operand.tmp 287, Go.Operand.tmp 311], argTypes := #[22, 22] }, type := 22, pos := "ref.go:166", after := #[{ on := 0, ground := Go.Ground.data }, { on := 24, ground := Go.Ground.data }], guard := none }, { dst := some 21, op := Go.Op.assign (Go.Operand.tmp 312), type := 22, pos := "ref.go:166", after := #[{ on := 25, ground := Go.Ground.data }, { on := 25, ground := Go.Ground.chain }, { on := 0, ground := Go.Ground.phase }, { on := 1, ground := Go.Ground.phase }, { on := 2, ground := Go.Ground.phase }, { on := 3, ground := Go.Ground.phase }, { on := 4, ground := Go.Ground.phase }, { on := 5, ground := Go.Ground.phase }, { on := 6, ground := Go.Ground.phase }, { on := 7, ground := Go.Ground.phase }, { on := 8, ground := Go.Ground.phase }, { on := 9, ground := Go.Ground.phase }, { on := 10, ground := Go.Ground.phase }, { on := 11, ground := Go.Ground.phase }, { on := 12, ground := Go.Ground.phase }, { on := 13, ground := Go.Ground.phase }, { on := 14, ground := Go.Ground.phase }, { on := 15, ground := Go.Ground.phase }, { on := 16, ground := Go.Ground.phase }, { on := 17, ground := Go.Ground.phase }, { on := 18, ground := Go.Ground.phase }, { on := 19, ground := Go.Ground.phase }, { on := 20, ground := Go.Ground.phase }, { on := 21, ground := Go.Ground.phase }, { on := 22, ground := Go.Ground.phase }, { on := 23, ground := Go.Ground.phase }, { on := 24, ground := Go.Ground.phase }, { on := 25, ground := Go.Ground.phase }], guard := none }]
def semZ (X d0 d1 d2 c0 c1 c2 c3 k g6 c6 mo co bo : Nat) (yo : Option Addr) (R : List UInt8) : Nat → Value → World → Prop := fun ix v u => match ix with
  | 0 => v = .slice yo mo co
  | 1 => v = .slice (some ⟨g6, 0, none⟩) 8 c6
  | 2 => v = .int .i64 (k : Int)
  | 3 => v = .pointer (some ⟨g6, k, none⟩)
  | 4 => v = .int .u32 (X : Int)
  | 5 => v = .int .u32 (d0 : Int)
  | 6 => v = .int .u8 (c0 : Int)
  | 7 => v = .slice (some ⟨g6, 0, none⟩) 8 c6
  | 8 => v = .int .i64 (k : Int)
  | 9 => v = .pointer (some ⟨g6, k, none⟩)
  | 10 => v = .int .u32 (X : Int)
  | 11 => v = .int .u32 (d1 : Int)
  | 12 => v = .int .u8 (c1 : Int)
  | 13 => v = .slice (some ⟨g6, 0, none⟩) 8 c6
  | 14 => v = .int .i64 (k : Int)
  | 15 => v = .pointer (some ⟨g6, k, none⟩)
  | 16 => v = .int .u32 (X : Int)
  | 17 => v = .int .u32 (d2 : Int)
  | 18 => v = .int .u8 (c2 : Int)
  | 19 => v = .slice (some ⟨g6, 0, none⟩) 8 c6
  | 20 => v = .int .i64 (k : Int)
  | 21 => v = .pointer (some ⟨g6, k, none⟩)
  | 22 => v = .int .u32 (X : Int)
  | 23 => v = .int .u8 (c3 : Int)
  | 24 => ∃ g, v = .slice (some ⟨g, 0, none⟩) 4 4 ∧ g < u.heap.size ∧ some g ≠ (Value.slice yo mo co).ownBlock ∧ u.cell? ⟨g, 0, none⟩ = some (.int .u8 (c0 : Int)) ∧ u.cell? ⟨g, 1, none⟩ = some (.int .u8 (c1 : Int)) ∧ u.cell? ⟨g, 2, none⟩ = some (.int .u8 (c2 : Int)) ∧ u.cell? ⟨g, 3, none⟩ = some (.int .u8 (c3 : Int))
  | 25 => u.ownsRow bo 5 1 v R.length (Lib.byteCells R)
  | 26 => u.ownsRow bo 5 1 v R.length (Lib.byteCells R)
  | _ => True
set_option maxHeartbeats 2000000 in
theorem semZR (X d0 d1 d2 c0 c1 c2 c3 k g6 c6 mo co bo : Nat) (yo : Option Addr) (R : List UInt8)  {Q : Exit → Act → World → Prop} {a0 : Act} {u0 : World} (hsz : a0.tmps.size = 314) (v9 : a0.tmps[9]? = some (.slice (some ⟨g6, 0, none⟩) 8 c6)) (v21 : a0.tmps[21]? = some (.slice yo mo co)) (v22 : a0.tmps[22]? = some (.int .i64 (k : Int))) (L : List UInt8) (hk : (k : Int) < 8) (w0 : IntKind.u32.wrap (d0 : Int) = (d0 : Int)) (w1 : IntKind.u32.wrap (d1 : Int) = (d1 : Int)) (w2 : IntKind.u32.wrap (d2 : Int) = (d2 : Int)) (hW0 : u0.drew.ownsRow bo 5 1 (.slice yo mo co) L.length (Lib.byteCells L)) (HRW : Hid (∀ k, (Value.slice yo mo co).ownBlock = some k → k < u0.drew.heap.size)) (hbo : bo ≤ u0.drew.heap.size) (hLl : L.length ≤ 1000)
    (HC : Hid (∀ u, u0.drew.grownBy u (Value.slice yo mo co).ownBlock → u.cell? ⟨g6, k, none⟩ = some (.int .u32 (X : Int)))) (q0 : (X : Int).tdiv 16777216 = (d0 : Int)) (q1 : (X : Int).tdiv 65536 = (d1 : Int)) (q2 : (X : Int).tdiv 256 = (d2 : Int)) (p0 : IntKind.u8.wrap (d0 : Int) = (c0 : Int)) (p1 : IntKind.u8.wrap (d1 : Int) = (c1 : Int)) (p2 : IntKind.u8.wrap (d2 : Int) = (c2 : Int)) (p3 : IntKind.u8.wrap (X : Int) = (c3 : Int))
    (HR : Hid (Lib.byteCells R = Lib.byteCells L ++ [.int .u8 (c0 : Int), .int .u8 (c1 : Int), .int .u8 (c2 : Int), .int .u8 (c3 : Int)] ∧ R.length = L.length + 4))
    (hfin : ∀ (vs : Nat → Value) u, (∀ ix d, ((semZO[ix]?).bind (fun x => Oper.dst x)) = some d → semZ X d0 d1 d2 c0 c1 c2 c3 k g6 c6 mo co bo yo R ix (vs ix) u) → u0.drew.grownBy u ((Value.slice yo mo co).ownBlock) → (∃ v, semZ X d0 d1 d2 c0 c1 c2 c3 k g6 c6 mo co bo yo R 25 v u) → Q .normal (putFrom vs a0 semZO.toList 0) u) : (Code.region 42 semZO true).wp Tryz.prog Q a0 u0 := by
  unfold semZO
  refine freeZ_walk (Sem := semZ X d0 d1 d2 c0 c1 c2 c3 k g6 c6 mo co bo yo R) (J := fun u => u.ownsRow bo 5 1 (.slice yo mo co) L.length (Lib.byteCells L)) 25 (fun j => j == 25 || j == 26) ((Value.slice yo mo co).ownBlock) rfl (n := 314) (by kernel_rfl) hsz (by kernel_rfl) hW0 ?_ ?_ ?_ (fun _ _ h hb => ownsRow_later h hb) (by decide) ?_ ?_ (by decide) ?_
  · intro j hj
    simp only [Bool.or_eq_true, beq_iff_eq] at hj
    rcases hj with rfl | rfl
    · exact .inl rfl
    · exact .inr ⟨[], by kernel_rfl⟩
  · intro ix v u u' hl h hb
    match ix, h, hl with
    | 0, h, _ => exact h
    | 1, h, _ => exact h
    | 2, h, _ => exact h
    | 3, h, _ => exact h
    | 4, h, _ => exact h
    | 5, h, _ => exact h
    | 6, h, _ => exact h
    | 7, h, _ => exact h
    | 8, h, _ => exact h
    | 9, h, _ => exact h
    | 10, h, _ => exact h
    | 11, h, _ => exact h
    | 12, h, _ => exact h
    | 13, h, _ => exact h
    | 14, h, _ => exact h
    | 15, h, _ => exact h
    | 16, h, _ => exact h
    | 17, h, _ => exact h
    | 18, h, _ => exact h
    | 19, h, _ => exact h
    | 20, h, _ => exact h
    | 21, h, _ => exact h
    | 22, h, _ => exact h
    | 23, h, _ => exact h
    | 24, h, _ => exact by obtain ⟨g, h1, h2, h3, h4, h5, h6, h7⟩ := h; exact ⟨g, h1, Nat.lt_of_lt_of_le h2 hb.size, h3, hb.cell h4 h3, hb.cell h5 h3, hb.cell h6 h3, hb.cell h7 h3⟩
    | 25, _, hl => exact absurd hl (by decide)
    | 26, _, hl => exact absurd hl (by decide)
    | _ + 27, _, _ => exact trivial
  · intro ix v u u' hl h hb
    match ix, h, hl with
    | 0, _, hl => exact absurd hl (by decide)
    | 1, _, hl => exact absurd hl (by decide)
    | 2, _, hl => exact absurd hl (by decide)
    | 3, _, hl => exact absurd hl (by decide)
    | 4, _, hl => exact absurd hl (by decide)
    | 5, _, hl => exact absurd hl (by decide)
    | 6, _, hl => exact absurd hl (by decide)
    | 7, _, hl => exact absurd hl (by decide)
    | 8, _, hl => exact absurd hl (by decide)
    | 9, _, hl => exact absurd hl (by decide)
    | 10, _, hl => exact absurd hl (by decide)
    | 11, _, hl => exact absurd hl (by decide)
    | 12, _, hl => exact absurd hl (by decide)
    | 13, _, hl => exact absurd hl (by decide)
    | 14, _, hl => exact absurd hl (by decide)
    | 15, _, hl => exact absurd hl (by decide)
    | 16, _, hl => exact absurd hl (by decide)
    | 17, _, hl => exact absurd hl (by decide)
    | 18, _, hl => exact absurd hl (by decide)
    | 19, _, hl => exact absurd hl (by decide)
    | 20, _, hl => exact absurd hl (by decide)
    | 21, _, hl => exact absurd hl (by decide)
    | 22, _, hl => exact absurd hl (by decide)
    | 23, _, hl => exact absurd hl (by decide)
    | 24, _, hl => exact absurd hl (by decide)
    | 25, h, _ => exact ownsRow_later h hb
    | 26, h, _ => exact ownsRow_later h hb
    | _ + 27, _, _ => exact trivial
  · intro ix o a u ho hne hF hbu hJ hW
    match ix, ho, hF, hJ, hne, hW with
    | 0, ho, hF, hJ, _, hW =>
      obtain rfl := Option.some.inj ho
      have h21 : a.tmps[21]? = some (.slice yo mo co) := (hW 26 21 [] rfl (by kernel_rfl)).trans v21
      refine free_step rfl (by rfl) (fun K' hK => ?_)
      go_simp
      exact hK.out _ _ rfl (Below.refl _ _)
    | 1, ho, hF, hJ, _, hW =>
      obtain rfl := Option.some.inj ho
      have h9 : a.tmps[9]? = some (.slice (some ⟨g6, 0, none⟩) 8 c6) := (hF.out 9 rfl).trans v9
      refine free_step rfl (by rfl) (fun K' hK => ?_)
      go_simp
      exact hK.out _ _ rfl (Below.refl _ _)
    | 2, ho, hF, hJ, _, hW =>
      obtain rfl := Option.some.inj ho
      have h22 : a.tmps[22]? = some (.int .i64 (k : Int)) := (hF.out 22 rfl).trans v22
      refine free_step rfl (by rfl) (fun K' hK => ?_)
      go_simp
      exact hK.out _ _ rfl (Below.refl _ _)
    | 3, ho, hF, hJ, _, hW =>
      obtain rfl := Option.some.inj ho
      obtain ⟨v288, h288, s288⟩ := hF.dep 1 288 rfl rfl
      obtain rfl : v288 = .slice (some ⟨g6, 0, none⟩) 8 c6 := s288
      obtain ⟨v289, h289, s289⟩ := hF.dep 2 289 rfl rfl
      obtain rfl : v289 = .int .i64 (k : Int) := s289
      refine free_step rfl (by rfl) (fun K' hK => ?_)
      go_simp
      exact hK.out _ _ rfl (Below.refl _ _)
    | 4, ho, hF, hJ, _, hW =>
      obtain rfl := Option.some.inj ho
      obtain ⟨v290, h290, s290⟩ := hF.dep 3 290 rfl rfl
      obtain rfl : v290 = .pointer (some ⟨g6, k, none⟩) := s290
      have gx := HC.out u hbu
      refine free_step rfl (by rfl) (fun K' hK => ?_)
      go_simp
      exact hK.out _ _ rfl (Below.refl _ _)
    | 5, ho, hF, hJ, _, hW =>
      obtain rfl := Option.some.inj ho
      obtain ⟨v291, h291, s291⟩ := hF.dep 4 291 rfl rfl
      obtain rfl : v291 = .int .u32 (X : Int) := s291
      refine free_step rfl (by rfl) (fun K' hK => ?_)
      go_simp
      exact hK.out _ _ rfl (Below.refl _ _)
    | 6, ho, hF, hJ, _, hW =>
      obtain rfl := Option.some.inj ho
      obtain ⟨v292, h292, s292⟩ := hF.dep 5 292 rfl rfl
      obtain rfl : v292 = .int .u32 (d0 : Int) := s292
      refine free_step rfl (by rfl) (fun K' hK => ?_)
      go_simp
      exact hK.out _ _ rfl (Below.refl _ _)
    | 7, ho, hF, hJ, _, hW =>
      obtain rfl := Option.some.inj ho
      have h9 : a.tmps[9]? = some (.slice (some ⟨g6, 0, none⟩) 8 c6) := (hF.out 9 rfl).trans v9
      refine free_step rfl (by rfl) (fun K' hK => ?_)
      go_simp
      exact hK.out _ _ rfl (Below.refl _ _)
    | 8, ho, hF, hJ, _, hW =>
      obtain rfl := Option.some.inj ho
      have h22 : a.tmps[22]? = some (.int .i64 (k : Int)) := (hF.out 22 rfl).trans v22
      refine free_step rfl (by rfl) (fun K' hK => ?_)
      go_simp
      exact hK.out _ _ rfl (Below.refl _ _)
    | 9, ho, hF, hJ, _, hW =>
      obtain rfl := Option.some.inj ho
      obtain ⟨v294, h294, s294⟩ := hF.dep 7 294 rfl rfl
      obtain rfl : v294 = .slice (some ⟨g6, 0, none⟩) 8 c6 := s294
      obtain ⟨v295, h295, s295⟩ := hF.dep 8 295 rfl rfl
      obtain rfl : v295 = .int .i64 (k : Int) := s295
      refine free_step rfl (by rfl) (fun K' hK => ?_)
      go_simp
      exact hK.out _ _ rfl (Below.refl _ _)
    | 10, ho, hF, hJ, _, hW =>
      obtain rfl := Option.some.inj ho
      obtain ⟨v296, h296, s296⟩ := hF.dep 9 296 rfl rfl
      obtain rfl : v296 = .pointer (some ⟨g6, k, none⟩) := s296
      have gx := HC.out u hbu
      refine free_step rfl (by rfl) (fun K' hK => ?_)
      go_simp
      exact hK.out _ _ rfl (Below.refl _ _)
    | 11, ho, hF, hJ, _, hW =>
      obtain rfl := Option.some.inj ho
      obtain ⟨v297, h297, s297⟩ := hF.dep 10 297 rfl rfl
      obtain rfl : v297 = .int .u32 (X : Int) := s297
      refine free_step rfl (by rfl) (fun K' hK => ?_)
      go_simp
      exact hK.out _ _ rfl (Below.refl _ _)
    | 12, ho, hF, hJ, _, hW =>
      obtain rfl := Option.some.inj ho
      obtain ⟨v298, h298, s298⟩ := hF.dep 11 298 rfl rfl
      obtain rfl : v298 = .int .u32 (d1 : Int) := s298
      refine free_step rfl (by rfl) (fun K' hK => ?_)
      go_simp
      exact hK.out _ _ rfl (Below.refl _ _)
    | 13, ho, hF, hJ, _, hW =>
      obtain rfl := Option.some.inj ho
      have h9 : a.tmps[9]? = some (.slice (some ⟨g6, 0, none⟩) 8 c6) := (hF.out 9 rfl).trans v9
      refine free_step rfl (by rfl) (fun K' hK => ?_)
      go_simp
      exact hK.out _ _ rfl (Below.refl _ _)
    | 14, ho, hF, hJ, _, hW =>
      obtain rfl := Option.some.inj ho
      have h22 : a.tmps[22]? = some (.int .i64 (k : Int)) := (hF.out 22 rfl).trans v22
      refine free_step rfl (by rfl) (fun K' hK => ?_)
      go_simp
      exact hK.out _ _ rfl (Below.refl _ _)
    | 15, ho, hF, hJ, _, hW =>
      obtain rfl := Option.some.inj ho
      obtain ⟨v300, h300, s300⟩ := hF.dep 13 300 rfl rfl
      obtain rfl : v300 = .slice (some ⟨g6, 0, none⟩) 8 c6 := s300
      obtain ⟨v301, h301, s301⟩ := hF.dep 14 301 rfl rfl
      obtain rfl : v301 = .int .i64 (k : Int) := s301
      refine free_step rfl (by rfl) (fun K' hK => ?_)
      go_simp
      exact hK.out _ _ rfl (Below.refl _ _)
    | 16, ho, hF, hJ, _, hW =>
      obtain rfl := Option.some.inj ho
      obtain ⟨v302, h302, s302⟩ := hF.dep 15 302 rfl rfl
      obtain rfl : v302 = .pointer (some ⟨g6, k, none⟩) := s302
      have gx := HC.out u hbu
      refine free_step rfl (by rfl) (fun K' hK => ?_)
      go_simp
      exact hK.out _ _ rfl (Below.refl _ _)
    | 17, ho, hF, hJ, _, hW =>
      obtain rfl := Option.some.inj ho
      obtain ⟨v303, h303, s303⟩ := hF.dep 16 303 rfl rfl
      obtain rfl : v303 = .int .u32 (X : Int) := s303
      refine free_step rfl (by rfl) (fun K' hK => ?_)
      go_simp
      exact hK.out _ _ rfl (Below.refl _ _)
    | 18, ho, hF, hJ, _, hW =>
      obtain rfl := Option.some.inj ho
      obtain ⟨v304, h304, s304⟩ := hF.dep 17 304 rfl rfl
      obtain rfl : v304 = .int .u32 (d2 : Int) := s304
      refine free_step rfl (by rfl) (fun K' hK => ?_)
      go_simp
      exact hK.out _ _ rfl (Below.refl _ _)
    | 19, ho, hF, hJ, _, hW =>
      obtain rfl := Option.some.inj ho
      have h9 : a.tmps[9]? = some (.slice (some ⟨g6, 0, none⟩) 8 c6) := (hF.out 9 rfl).trans v9
      refine free_step rfl (by rfl) (fun K' hK => ?_)
      go_simp
      exact hK.out _ _ rfl (Below.refl _ _)
    | 20, ho, hF, hJ, _, hW =>
      obtain rfl := Option.some.inj ho
      have h22 : a.tmps[22]? = some (.int .i64 (k : Int)) := (hF.out 22 rfl).trans v22
      refine free_step rfl (by rfl) (fun K' hK => ?_)
      go_simp
      exact hK.out _ _ rfl (Below.refl _ _)
    | 21, ho, hF, hJ, _, hW =>
      obtain rfl := Option.some.inj ho
      obtain ⟨v306, h306, s306⟩ := hF.dep 19 306 rfl rfl
      obtain rfl : v306 = .slice (some ⟨g6, 0, none⟩) 8 c6 := s306
      obtain ⟨v307, h307, s307⟩ := hF.dep 20 307 rfl rfl
      obtain rfl : v307 = .int .i64 (k : Int) := s307
      refine free_step rfl (by rfl) (fun K' hK => ?_)
      go_simp
      exact hK.out _ _ rfl (Below.refl _ _)
    | 22, ho, hF, hJ, _, hW =>
      obtain rfl := Option.some.inj ho
      obtain ⟨v308, h308, s308⟩ := hF.dep 21 308 rfl rfl
      obtain rfl : v308 = .pointer (some ⟨g6, k, none⟩) := s308
      have gx := HC.out u hbu
      refine free_step rfl (by rfl) (fun K' hK => ?_)
      go_simp
      exact hK.out _ _ rfl (Below.refl _ _)
    | 23, ho, hF, hJ, _, hW =>
      obtain rfl := Option.some.inj ho
      obtain ⟨v309, h309, s309⟩ := hF.dep 22 309 rfl rfl
      obtain rfl : v309 = .int .u32 (X : Int) := s309
      refine free_step rfl (by rfl) (fun K' hK => ?_)
      go_simp
      exact hK.out _ _ rfl (Below.refl _ _)
    | 24, ho, hF, hJ, _, hW =>
      obtain rfl := Option.some.inj ho
      obtain ⟨v293, h293, s293⟩ := hF.dep 6 293 rfl rfl
      obtain rfl : v293 = .int .u8 (c0 : Int) := s293
      obtain ⟨v299, h299, s299⟩ := hF.dep 12 299 rfl rfl
      obtain rfl : v299 = .int .u8 (c1 : Int) := s299
      obtain ⟨v305, h305, s305⟩ := hF.dep 18 305 rfl rfl
      obtain rfl : v305 = .int .u8 (c2 : Int) := s305
      obtain ⟨v310, h310, s310⟩ := hF.dep 23 310 rfl rfl
      obtain rfl : v310 = .int .u8 (c3 : Int) := s310
      refine free_step rfl (by rfl) (fun K' hK => ?_)
      go_simp
      refine hK.out _ _ ⟨u.heap.size, rfl, by simp, fun h => ?_, block_cell 0 (heap_push_at u _) rfl, block_cell 1 (heap_push_at u _) rfl, block_cell 2 (heap_push_at u _) rfl, block_cell 3 (heap_push_at u _) rfl⟩ ((Below.refl _ u).alloc (Nat.le_refl _) _)
      exact absurd (Nat.lt_of_lt_of_le (HRW.out _ h.symm) hbu.size) (Nat.lt_irrefl _)
    | 25, _, _, _, hne, _ => exact absurd rfl hne
    | 26, ho, hF, hJ, _, hW =>
      obtain rfl := Option.some.inj ho
      obtain ⟨v312, h312, s312⟩ := hF.dep 25 312 rfl rfl
      replace s312 : u.ownsRow bo 5 1 v312 R.length (Lib.byteCells R) := s312
      refine free_step rfl (by rfl) (fun K' hK => ?_)
      go_simp
      exact hK.out _ _ s312 (Below.refl _ _)
    | n + 27, ho, _, _, _, _ => exact absurd (Array.getElem?_eq_some_iff.1 ho).1 (by show ¬ n + 27 < 27; omega)
  · intro o a u ho hF hbu hJu hW
    obtain rfl := Option.some.inj ho
    obtain ⟨v287, h287, s287⟩ := hF.dep 0 287 rfl rfl
    obtain rfl : v287 = .slice yo mo co := s287
    obtain ⟨v311, h311, s311⟩ := hF.dep 24 311 rfl rfl
    replace s311 : ∃ g, v311 = .slice (some ⟨g, 0, none⟩) 4 4 ∧ g < u.heap.size ∧ some g ≠ (Value.slice yo mo co).ownBlock ∧ u.cell? ⟨g, 0, none⟩ = some (.int .u8 (c0 : Int)) ∧ u.cell? ⟨g, 1, none⟩ = some (.int .u8 (c1 : Int)) ∧ u.cell? ⟨g, 2, none⟩ = some (.int .u8 (c2 : Int)) ∧ u.cell? ⟨g, 3, none⟩ = some (.int .u8 (c3 : Int)) := s311
    refine freeZ_step rfl (by rfl) (fun K' hK => ?_)
    obtain ⟨g, rfl, _, _, hg0, hg1, hg2, hg3⟩ := s311
    refine wp_append_four _ _ rfl bo (.slice yo mo co) L (by simp [Act.eval, h287]) hJu g (by simp [Act.eval, h311]) c0 c1 c2 c3 hg0 hg1 hg2 hg3 R HR.out.1 HR.out.2 hLl (Nat.le_trans hbo hbu.size) ?_
    intro v' u' h1 h2
    exact hK.out _ _ h1 h2
  · intro vs u hS hbu hZ
    exact hfin vs u hS hbu hZ
end Go.Proofs.YtpcmpeeflnlkpaaGreatDoor
