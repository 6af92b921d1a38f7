/-
  Package nat: the regions that draw of shiftUp, shiftDown and fromBytes: a word of a row, or'ed with another.
-/
import Derived.Test.YtpcmpeeflnlkpaaDoorHFreeZEtc
namespace Go.Proofs.YtpcmpeeflnlkpaaDoor
open Go.RowKit Ch
set_option maxRecDepth 100000
def semSuO : Array Oper := #[{ dst := some 19, op := Go.Op.move (Go.Operand.tmp 5), type := 61, pos := "words.go:155", after := #[], guard := none }, { dst := some 20, op := Go.Op.move (Go.Operand.tmp 6), type := 3, pos := "words.go:155", after := #[], guard := none }, { dst := some 21, op := Go.Op.indexAddr 61 (Go.Operand.tmp 19) (Go.Operand.tmp 20), type := 0, pos := "words.go:155", after := #[{ on := 0, ground := Go.Ground.data }, { on := 1, ground := Go.Ground.data }], guard := none }, { dst := some 22, op := Go.Op.load 69 (Go.Operand.tmp 21), type := 69, pos := "words.go:155", after := #[{ on := 2, ground := Go.Ground.data }], guard := none }, { dst := some 23, op := Go.Op.move (Go.Operand.tmp 7), type := 69, pos := "words.go:155", after := #[], guard := none }, { dst := some 24, op := Go.Op.move (Go.Operand.tmp 1), type := 3, pos := "words.go:155", after := #[], guard := none }, { dst := some 25, op := Go.Op.binOp Go.BinOp.shl 69 (Go.Operand.tmp 23) (Go.Operand.tmp 24) 3, type := 69, pos := "words.go:155", after := #[{ on := 4, ground := Go.Ground.data }, { on := 5, ground := Go.Ground.data }], guard := none }, { dst := some 26, op := Go.Op.binOp Go.BinOp.or 69 (Go.Operand.tmp 22) (Go.Operand.tmp 25) 69, type := 69, pos := "words.go:155", after := #[{ on := 3, ground := Go.Ground.data }, { on := 6, ground := Go.Ground.data }], guard := none }, { dst := some 27, op := Go.Op.indexAddr 61 (Go.Operand.tmp 19) (Go.Operand.tmp 20), type := 0, pos := "words.go:155", after := #[{ on := 0, ground := Go.Ground.data }, { on := 1, ground := Go.Ground.data }, { on := 0, ground := Go.Ground.phase }, { on := 1, ground := Go.Ground.phase }, { on := 2, ground := Go.Ground.phase }, { on := 3, ground := Go.Ground.phase }, { on := 4, ground := Go.Ground.phase }, { on := 5, ground := Go.Ground.phase }, { on := 6, ground := Go.Ground.phase }, { on := 7, ground := Go.Ground.phase }], guard := none }, { dst := none, op := Go.Op.store 69 (Go.Operand.tmp 27) (Go.Operand.tmp 26), type := 0, pos := "words.go:155", after := #[{ on := 8, ground := Go.Ground.data }, { on := 7, ground := Go.Ground.data }, { on := 0, ground := Go.Ground.phase }, { on := 1, ground := Go.Ground.phase }, { on := 2, ground := Go.Ground.phase }, { on := 3, ground := Go.Ground.phase }, { on := 4, ground := Go.Ground.phase }, { on := 5, ground := Go.Ground.phase }, { on := 6, ground := Go.Ground.phase }, { on := 7, ground := Go.Ground.phase }], guard := none }]
def semSu (x t p s q i g n : Nat) (L : List Nat) : Nat → Value → World → Prop := fun ix v u => match ix with
  | 0 => v = .slice (some ⟨g, 0, none⟩) n n
  | 1 => v = .int .i64 (i : Int)
  | 2 => v = .pointer (some ⟨g, i, none⟩)
  | 3 => v = .int .u64 (p : Int)
  | 4 => v = .int .u64 (x : Int)
  | 5 => v = .int .i64 (t : Int)
  | 6 => v = .int .u64 (s : Int)
  | 7 => v = .int .u64 (q : Int)
  | 8 => v = .pointer (some ⟨g, i, none⟩)
  | 9 => RowN .u64 u g (L.set i q) ∧ v = v
  | _ => True
set_option maxHeartbeats 2000000 in
theorem semSuR (x t p s q i g n : Nat) (L : List Nat)  {Q : Exit → Act → World → Prop} {a0 : Act} {u0 : World} (hsz : a0.tmps.size = 38) (v1 : a0.tmps[1]? = some (.int .i64 (t : Int))) (v5 : a0.tmps[5]? = some (.slice (some ⟨g, 0, none⟩) n n)) (v6 : a0.tmps[6]? = some (.int .i64 (i : Int))) (v7 : a0.tmps[7]? = some (.int .u64 (x : Int))) (hin : (i : Int) < (n : Int)) (ht : (t : Int) ≤ 64) (hsh : IntKind.u64.wrap ((x : Int) * 2 ^ t) = (s : Int)) (hJ0 : RowN .u64 u0.drew g L) (hLi : L[i]? = some p) (hor : bits .or .u64 (p : Int) (s : Int) = (q : Int))
    (hfin : ∀ (vs : Nat → Value) u, (∀ ix d, ((semSuO[ix]?).bind (fun x => Oper.dst x)) = some d → semSu x t p s q i g n L ix (vs ix) u) → u0.drew.grownBy u (some g) → (∃ v, semSu x t p s q i g n L 9 v u) → Q .normal (putFrom vs a0 semSuO.toList 0) u) : (Code.region 5 semSuO true).wp Tryd.prog Q a0 u0 := by
  unfold semSuO
  refine freeZ_walk (Sem := semSu x t p s q i g n L) (J := fun u => RowN .u64 u g L) 9 (fun j => j == 9) (some g) rfl (n := 38) (by kernel_rfl) hsz (by kernel_rfl) hJ0 ?_ ?_ ?_ (fun _ _ h hb => RowN.later h hb) (by decide) ?_ ?_ (by decide) ?_
  · intro j hj
    simp only [beq_iff_eq] at hj
    subst hj
    · exact .inl rfl
  · intro ix v u u' hl h hb
    match ix, h, hl with
    | 0, h, _ => exact h
    | 1, h, _ => exact h
    | 2, h, _ => exact h
    | 3, h, _ => exact h
    | 4, h, _ => exact h
    | 5, h, _ => exact h
    | 6, h, _ => exact h
    | 7, h, _ => exact h
    | 8, h, _ => exact h
    | 9, _, hl => exact absurd hl (by decide)
    | _ + 10, _, _ => exact trivial
  · intro ix v u u' hl h hb
    match ix, h, hl with
    | 0, _, hl => exact absurd hl (by decide)
    | 1, _, hl => exact absurd hl (by decide)
    | 2, _, hl => exact absurd hl (by decide)
    | 3, _, hl => exact absurd hl (by decide)
    | 4, _, hl => exact absurd hl (by decide)
    | 5, _, hl => exact absurd hl (by decide)
    | 6, _, hl => exact absurd hl (by decide)
    | 7, _, hl => exact absurd hl (by decide)
    | 8, _, hl => exact absurd hl (by decide)
    | 9, h, _ => exact ⟨RowN.later h.1 hb, rfl⟩
    | _ + 10, _, _ => exact trivial
  · intro ix o a u ho hne hF hbu hJ hW
    match ix, ho, hF, hJ, hne, hW with
    | 0, ho, hF, hJ, _, hW =>
      obtain rfl := Option.some.inj ho
      have h5 : a.tmps[5]? = some (.slice (some ⟨g, 0, none⟩) n n) := (hF.out 5 rfl).trans v5
      refine free_step rfl (by rfl) (fun K' hK => ?_)
      go_simp
      exact hK.out _ _ rfl (Below.refl _ _)
    | 1, ho, hF, hJ, _, hW =>
      obtain rfl := Option.some.inj ho
      have h6 : a.tmps[6]? = some (.int .i64 (i : Int)) := (hF.out 6 rfl).trans v6
      refine free_step rfl (by rfl) (fun K' hK => ?_)
      go_simp
      exact hK.out _ _ rfl (Below.refl _ _)
    | 2, ho, hF, hJ, _, hW =>
      obtain rfl := Option.some.inj ho
      obtain ⟨v19, h19, s19⟩ := hF.dep 0 19 rfl rfl
      obtain rfl : v19 = .slice (some ⟨g, 0, none⟩) n n := s19
      obtain ⟨v20, h20, s20⟩ := hF.dep 1 20 rfl rfl
      obtain rfl : v20 = .int .i64 (i : Int) := s20
      refine free_step rfl (by rfl) (fun K' hK => ?_)
      go_simp
      exact hK.out _ _ rfl (Below.refl _ _)
    | 3, ho, hF, hJ, _, hW =>
      have hJu := hJ [] (by kernel_rfl)
      obtain rfl := Option.some.inj ho
      obtain ⟨v21, h21, s21⟩ := hF.dep 2 21 rfl rfl
      obtain rfl : v21 = .pointer (some ⟨g, i, none⟩) := s21
      have gx := hJu.cell hLi
      refine free_step rfl (by rfl) (fun K' hK => ?_)
      go_simp
      exact hK.out _ _ rfl (Below.refl _ _)
    | 4, ho, hF, hJ, _, hW =>
      obtain rfl := Option.some.inj ho
      have h7 : a.tmps[7]? = some (.int .u64 (x : Int)) := (hF.out 7 rfl).trans v7
      refine free_step rfl (by rfl) (fun K' hK => ?_)
      go_simp
      exact hK.out _ _ rfl (Below.refl _ _)
    | 5, ho, hF, hJ, _, hW =>
      obtain rfl := Option.some.inj ho
      have h1 : a.tmps[1]? = some (.int .i64 (t : Int)) := (hF.out 1 rfl).trans v1
      refine free_step rfl (by rfl) (fun K' hK => ?_)
      go_simp
      exact hK.out _ _ rfl (Below.refl _ _)
    | 6, ho, hF, hJ, _, hW =>
      obtain rfl := Option.some.inj ho
      obtain ⟨v23, h23, s23⟩ := hF.dep 4 23 rfl rfl
      obtain rfl : v23 = .int .u64 (x : Int) := s23
      obtain ⟨v24, h24, s24⟩ := hF.dep 5 24 rfl rfl
      obtain rfl : v24 = .int .i64 (t : Int) := s24
      refine free_step rfl (by rfl) (fun K' hK => ?_)
      go_simp
      exact hK.out _ _ rfl (Below.refl _ _)
    | 7, ho, hF, hJ, _, hW =>
      obtain rfl := Option.some.inj ho
      obtain ⟨v22, h22, s22⟩ := hF.dep 3 22 rfl rfl
      obtain rfl : v22 = .int .u64 (p : Int) := s22
      obtain ⟨v25, h25, s25⟩ := hF.dep 6 25 rfl rfl
      obtain rfl : v25 = .int .u64 (s : Int) := s25
      refine free_step rfl (by rfl) (fun K' hK => ?_)
      go_simp
      exact hK.out _ _ rfl (Below.refl _ _)
    | 8, ho, hF, hJ, _, hW =>
      obtain rfl := Option.some.inj ho
      obtain ⟨v19, h19, s19⟩ := hF.dep 0 19 rfl rfl
      obtain rfl : v19 = .slice (some ⟨g, 0, none⟩) n n := s19
      obtain ⟨v20, h20, s20⟩ := hF.dep 1 20 rfl rfl
      obtain rfl : v20 = .int .i64 (i : Int) := s20
      refine free_step rfl (by rfl) (fun K' hK => ?_)
      go_simp
      exact hK.out _ _ rfl (Below.refl _ _)
    | 9, _, _, _, hne, _ => exact absurd rfl hne
    | n + 10, ho, _, _, _, _ => exact absurd (Array.getElem?_eq_some_iff.1 ho).1 (by show ¬ n + 10 < 10; omega)
  · intro o a u ho hF hbu hJu hW
    obtain rfl := Option.some.inj ho
    obtain ⟨v27, h27, s27⟩ := hF.dep 8 27 rfl rfl
    obtain rfl : v27 = .pointer (some ⟨g, i, none⟩) := s27
    obtain ⟨v26, h26, s26⟩ := hF.dep 7 26 rfl rfl
    obtain rfl : v26 = .int .u64 (q : Int) := s26
    refine freeZ_step rfl (by rfl) (fun K' hK => ?_)
    have gc := hJu.cell hLi
    have gf := hJu.free i
    go_simp
    exact hK.out undef _ ⟨hJu.set hLi q, rfl⟩ (grown_cell u ⟨g, i, none⟩ _)
  · intro vs u hS hbu hZ
    exact hfin vs u hS hbu hZ
def semSdO : Array Oper := #[{ dst := some 26, op := Go.Op.move (Go.Operand.tmp 5), type := 61, pos := "words.go:167", after := #[], guard := none }, { dst := some 27, op := Go.Op.move (Go.Operand.tmp 6), type := 3, pos := "words.go:167", after := #[], guard := none }, { dst := some 28, op := Go.Op.binOp Go.BinOp.sub 3 (Go.Operand.tmp 27) (Go.Operand.const (Go.Value.int Go.IntKind.i64 1)) 3, type := 3, pos := "words.go:167", after := #[{ on := 1, ground := Go.Ground.data }], guard := none }, { dst := some 29, op := Go.Op.indexAddr 61 (Go.Operand.tmp 26) (Go.Operand.tmp 28), type := 0, pos := "words.go:167", after := #[{ on := 0, ground := Go.Ground.data }, { on := 2, ground := Go.Ground.data }], guard := none }, { dst := some 30, op := Go.Op.load 69 (Go.Operand.tmp 29), type := 69, pos := "words.go:167", after := #[{ on := 3, ground := Go.Ground.data }], guard := none }, { dst := some 31, op := Go.Op.move (Go.Operand.tmp 7), type := 69, pos := "words.go:167", after := #[], guard := none }, { dst := some 32, op := Go.Op.move (Go.Operand.tmp 1), type := 3, pos := "words.go:167", after := #[], guard := none }, { dst := some 33, op := Go.Op.binOp Go.BinOp.sub 3 (Go.Operand.const (Go.Value.int Go.IntKind.i64 64)) (Go.Operand.tmp 32) 3, type := 3, pos := "words.go:167", after := #[{ on := 6, ground := Go.Ground.data }], guard := none }, { dst := some 34, op := Go.Op.binOp Go.BinOp.shl 69 (Go.Operand.tmp 31) (Go.Operand.tmp 33) 3, type := 69, pos := "words.go:167", after := #[{ on := 5, ground := Go.Ground.data }, { on := 7, ground := Go.Ground.data }], guard := none }, { dst := some 35, op := Go.Op.binOp Go.BinOp.or 69 (Go.Operand.tmp 30) (Go.Operand.tmp 34) 69, type := 69, pos := "words.go:167", after := #[{ on := 4, ground := Go.Ground.data }, { on := 8, ground := Go.Ground.data }], guard := none }, { dst := some 36, op := Go.Op.indexAddr 61 (Go.Operand.tmp 26) (Go.Operand.tmp 28), type := 0, pos := "words.go:167", after := #[{ on := 0, ground := Go.Ground.data }, { on := 2, ground := Go.Ground.data }, { on := 0, ground := Go.Ground.phase }, { on := 1, ground := Go.Ground.phase }, { on := 2, ground := Go.Ground.phase }, { on := 3, ground := Go.Ground.phase }, { on := 4, ground := Go.Ground.phase }, { on := 5, ground := Go.Ground.phase }, { on := 6, ground := Go.Ground.phase }, { on := 7, ground := Go.Ground.phase }, { on := 8, ground := Go.Ground.phase }, { on := 9, ground := Go.Ground.phase }], guard := none }, { dst := none, op := Go.Op.store 69 (Go.Operand.tmp 36) (Go.Operand.tmp 35), type := 0, pos := "words.go:167", after := #[{ on := 10, ground := Go.Ground.data }, { on := 9, ground := Go.Ground.data }, { on := 0, ground := Go.Ground.phase }, { on := 1, ground := Go.Ground.phase }, { on := 2, ground := Go.Ground.phase }, { on := 3, ground := Go.Ground.phase }, { on := 4, ground := Go.Ground.phase }, { on := 5, ground := Go.Ground.phase }, { on := 6, ground := Go.Ground.phase }, { on := 7, ground := Go.Ground.phase }, { on := 8, ground := Go.Ground.phase }, { on := 9, ground := Go.Ground.phase }], guard := none }]
def semSd (x t t1 p s q i k g n : Nat) (L : List Nat) : Nat → Value → World → Prop := fun ix v u => match ix with
  | 0 => v = .slice (some ⟨g, 0, none⟩) n n
  | 1 => v = .int .i64 (i : Int)
  | 2 => v = .int .i64 (k : Int)
  | 3 => v = .pointer (some ⟨g, k, none⟩)
  | 4 => v = .int .u64 (p : Int)
  | 5 => v = .int .u64 (x : Int)
  | 6 => v = .int .i64 (t : Int)
  | 7 => v = .int .i64 (t1 : Int)
  | 8 => v = .int .u64 (s : Int)
  | 9 => v = .int .u64 (q : Int)
  | 10 => v = .pointer (some ⟨g, k, none⟩)
  | 11 => RowN .u64 u g (L.set k q) ∧ v = v
  | _ => True
set_option maxHeartbeats 2000000 in
theorem semSdR (x t t1 p s q i k g n : Nat) (L : List Nat)  {Q : Exit → Act → World → Prop} {a0 : Act} {u0 : World} (hsz : a0.tmps.size = 39) (v1 : a0.tmps[1]? = some (.int .i64 (t : Int))) (v5 : a0.tmps[5]? = some (.slice (some ⟨g, 0, none⟩) n n)) (v6 : a0.tmps[6]? = some (.int .i64 (i : Int))) (v7 : a0.tmps[7]? = some (.int .u64 (x : Int))) (hin : (k : Int) < (n : Int)) (hk : (i : Int) - 1 = (k : Int)) (hkw : IntKind.i64.wrap (k : Int) = (k : Int)) (ht1 : (64 : Int) - (t : Int) = (t1 : Int)) (ht1w : IntKind.i64.wrap (t1 : Int) = (t1 : Int)) (hsh : IntKind.u64.wrap ((x : Int) * 2 ^ t1) = (s : Int)) (hJ0 : RowN .u64 u0.drew g L) (hLi : L[k]? = some p) (hor : bits .or .u64 (p : Int) (s : Int) = (q : Int))
    (hfin : ∀ (vs : Nat → Value) u, (∀ ix d, ((semSdO[ix]?).bind (fun x => Oper.dst x)) = some d → semSd x t t1 p s q i k g n L ix (vs ix) u) → u0.drew.grownBy u (some g) → (∃ v, semSd x t t1 p s q i k g n L 11 v u) → Q .normal (putFrom vs a0 semSdO.toList 0) u) : (Code.region 7 semSdO true).wp Tryd.prog Q a0 u0 := by
  unfold semSdO
  refine freeZ_walk (Sem := semSd x t t1 p s q i k g n L) (J := fun u => RowN .u64 u g L) 11 (fun j => j == 11) (some g) rfl (n := 39) (by kernel_rfl) hsz (by kernel_rfl) hJ0 ?_ ?_ ?_ (fun _ _ h hb => RowN.later h hb) (by decide) ?_ ?_ (by decide) ?_
  · intro j hj
    simp only [beq_iff_eq] at hj
    subst hj
    · exact .inl rfl
  · intro ix v u u' hl h hb
    match ix, h, hl with
    | 0, h, _ => exact h
    | 1, h, _ => exact h
    | 2, h, _ => exact h
    | 3, h, _ => exact h
    | 4, h, _ => exact h
    | 5, h, _ => exact h
    | 6, h, _ => exact h
    | 7, h, _ => exact h
    | 8, h, _ => exact h
    | 9, h, _ => exact h
    | 10, h, _ => exact h
    | 11, _, hl => exact absurd hl (by decide)
    | _ + 12, _, _ => exact trivial
  · intro ix v u u' hl h hb
    match ix, h, hl with
    | 0, _, hl => exact absurd hl (by decide)
    | 1, _, hl => exact absurd hl (by decide)
    | 2, _, hl => exact absurd hl (by decide)
    | 3, _, hl => exact absurd hl (by decide)
    | 4, _, hl => exact absurd hl (by decide)
    | 5, _, hl => exact absurd hl (by decide)
    | 6, _, hl => exact absurd hl (by decide)
    | 7, _, hl => exact absurd hl (by decide)
    | 8, _, hl => exact absurd hl (by decide)
    | 9, _, hl => exact absurd hl (by decide)
    | 10, _, hl => exact absurd hl (by decide)
    | 11, h, _ => exact ⟨RowN.later h.1 hb, rfl⟩
    | _ + 12, _, _ => exact trivial
  · intro ix o a u ho hne hF hbu hJ hW
    match ix, ho, hF, hJ, hne, hW with
    | 0, ho, hF, hJ, _, hW =>
      obtain rfl := Option.some.inj ho
      have h5 : a.tmps[5]? = some (.slice (some ⟨g, 0, none⟩) n n) := (hF.out 5 rfl).trans v5
      refine free_step rfl (by rfl) (fun K' hK => ?_)
      go_simp
      exact hK.out _ _ rfl (Below.refl _ _)
    | 1, ho, hF, hJ, _, hW =>
      obtain rfl := Option.some.inj ho
      have h6 : a.tmps[6]? = some (.int .i64 (i : Int)) := (hF.out 6 rfl).trans v6
      refine free_step rfl (by rfl) (fun K' hK => ?_)
      go_simp
      exact hK.out _ _ rfl (Below.refl _ _)
    | 2, ho, hF, hJ, _, hW =>
      obtain rfl := Option.some.inj ho
      obtain ⟨v27, h27, s27⟩ := hF.dep 1 27 rfl rfl
      obtain rfl : v27 = .int .i64 (i : Int) := s27
      refine free_step rfl (by rfl) (fun K' hK => ?_)
      go_simp
      exact hK.out _ _ rfl (Below.refl _ _)
    | 3, ho, hF, hJ, _, hW =>
      obtain rfl := Option.some.inj ho
      obtain ⟨v26, h26, s26⟩ := hF.dep 0 26 rfl rfl
      obtain rfl : v26 = .slice (some ⟨g, 0, none⟩) n n := s26
      obtain ⟨v28, h28, s28⟩ := hF.dep 2 28 rfl rfl
      obtain rfl : v28 = .int .i64 (k : Int) := s28
      refine free_step rfl (by rfl) (fun K' hK => ?_)
      go_simp
      exact hK.out _ _ rfl (Below.refl _ _)
    | 4, ho, hF, hJ, _, hW =>
      have hJu := hJ [] (by kernel_rfl)
      obtain rfl := Option.some.inj ho
      obtain ⟨v29, h29, s29⟩ := hF.dep 3 29 rfl rfl
      obtain rfl : v29 = .pointer (some ⟨g, k, none⟩) := s29
      have gx := hJu.cell hLi
      refine free_step rfl (by rfl) (fun K' hK => ?_)
      go_simp
      exact hK.out _ _ rfl (Below.refl _ _)
    | 5, ho, hF, hJ, _, hW =>
      obtain rfl := Option.some.inj ho
      have h7 : a.tmps[7]? = some (.int .u64 (x : Int)) := (hF.out 7 rfl).trans v7
      refine free_step rfl (by rfl) (fun K' hK => ?_)
      go_simp
      exact hK.out _ _ rfl (Below.refl _ _)
    | 6, ho, hF, hJ, _, hW =>
      obtain rfl := Option.some.inj ho
      have h1 : a.tmps[1]? = some (.int .i64 (t : Int)) := (hF.out 1 rfl).trans v1
      refine free_step rfl (by rfl) (fun K' hK => ?_)
      go_simp
      exact hK.out _ _ rfl (Below.refl _ _)
    | 7, ho, hF, hJ, _, hW =>
      obtain rfl := Option.some.inj ho
      obtain ⟨v32, h32, s32⟩ := hF.dep 6 32 rfl rfl
      obtain rfl : v32 = .int .i64 (t : Int) := s32
      refine free_step rfl (by rfl) (fun K' hK => ?_)
      go_simp
      exact hK.out _ _ rfl (Below.refl _ _)
    | 8, ho, hF, hJ, _, hW =>
      obtain rfl := Option.some.inj ho
      obtain ⟨v31, h31, s31⟩ := hF.dep 5 31 rfl rfl
      obtain rfl : v31 = .int .u64 (x : Int) := s31
      obtain ⟨v33, h33, s33⟩ := hF.dep 7 33 rfl rfl
      obtain rfl : v33 = .int .i64 (t1 : Int) := s33
      refine free_step rfl (by rfl) (fun K' hK => ?_)
      go_simp
      exact hK.out _ _ rfl (Below.refl _ _)
    | 9, ho, hF, hJ, _, hW =>
      obtain rfl := Option.some.inj ho
      obtain ⟨v30, h30, s30⟩ := hF.dep 4 30 rfl rfl
      obtain rfl : v30 = .int .u64 (p : Int) := s30
      obtain ⟨v34, h34, s34⟩ := hF.dep 8 34 rfl rfl
      obtain rfl : v34 = .int .u64 (s : Int) := s34
      refine free_step rfl (by rfl) (fun K' hK => ?_)
      go_simp
      exact hK.out _ _ rfl (Below.refl _ _)
    | 10, ho, hF, hJ, _, hW =>
      obtain rfl := Option.some.inj ho
      obtain ⟨v26, h26, s26⟩ := hF.dep 0 26 rfl rfl
      obtain rfl : v26 = .slice (some ⟨g, 0, none⟩) n n := s26
      obtain ⟨v28, h28, s28⟩ := hF.dep 2 28 rfl rfl
      obtain rfl : v28 = .int .i64 (k : Int) := s28
      refine free_step rfl (by rfl) (fun K' hK => ?_)
      go_simp
      exact hK.out _ _ rfl (Below.refl _ _)
    | 11, _, _, _, hne, _ => exact absurd rfl hne
    | n + 12, ho, _, _, _, _ => exact absurd (Array.getElem?_eq_some_iff.1 ho).1 (by show ¬ n + 12 < 12; omega)
  · intro o a u ho hF hbu hJu hW
    obtain rfl := Option.some.inj ho
    obtain ⟨v36, h36, s36⟩ := hF.dep 10 36 rfl rfl
    obtain rfl : v36 = .pointer (some ⟨g, k, none⟩) := s36
    obtain ⟨v35, h35, s35⟩ := hF.dep 9 35 rfl rfl
    obtain rfl : v35 = .int .u64 (q : Int) := s35
    refine freeZ_step rfl (by rfl) (fun K' hK => ?_)
    have gc := hJu.cell hLi
    have gf := hJu.free k
    go_simp
    exact hK.out undef _ ⟨hJu.set hLi q, rfl⟩ (grown_cell u ⟨g, k, none⟩ _)
  · intro vs u hS hbu hZ
    exact hfin vs u hS hbu hZ
def semFrO : Array Oper := #[{ dst := some 27, op := Go.Op.move (Go.Operand.tmp 3), type := 61, pos := "words.go:24", after := #[], guard := none }, { dst := some 28, op := Go.Op.move (Go.Operand.tmp 6), type := 3, pos := "words.go:24", after := #[], guard := none }, { dst := some 29, op := Go.Op.binOp Go.BinOp.quo 3 (Go.Operand.tmp 28) (Go.Operand.const (Go.Value.int Go.IntKind.i64 8)) 3, type := 3, pos := "words.go:24", after := #[{ on := 1, ground := Go.Ground.data }], guard := none }, { dst := some 30, op := Go.Op.indexAddr 61 (Go.Operand.tmp 27) (Go.Operand.tmp 29), type := 0, pos := "words.go:24", after := #[{ on := 0, ground := Go.Ground.data }, { on := 2, ground := Go.Ground.data }], guard := none }, { dst := some 31, op := Go.Op.load 69 (Go.Operand.tmp 30), type := 69, pos := "words.go:24", after := #[{ on := 3, ground := Go.Ground.data }], guard := none }, { dst := some 32, op := Go.Op.move (Go.Operand.tmp 5), type := 5, pos := "words.go:24", after := #[], guard := none }, { dst := some 33, op := Go.Op.convert 5 69 (Go.Operand.tmp 32), type := 69, pos := "words.go:24", after := #[{ on := 5, ground := Go.Ground.data }], guard := none }, { dst := some 34, op := Go.Op.move (Go.Operand.tmp 6), type := 3, pos := "words.go:24", after := #[], guard := none }, { dst := some 35, op := Go.Op.binOp Go.BinOp.rem 3 (Go.Operand.tmp 34) (Go.Operand.const (Go.Value.int Go.IntKind.i64 8)) 3, type := 3, pos := "words.go:24", after := #[{ on := 7, ground := Go.Ground.data }], guard := none }, { dst := some 36, op := Go.Op.binOp Go.BinOp.mul 3 (Go.Operand.tmp 35) (Go.Operand.const (Go.Value.int Go.IntKind.i64 8)) 3, type := 3, pos := "words.go:24", after := #[{ on := 8, ground := Go.Ground.data }], guard := none }, { dst := some 37, op := Go.Op.binOp Go.BinOp.shl 69 (Go.Operand.tmp 33) (Go.Operand.tmp 36) 3, type := 69, pos := "words.go:24", after := #[{ on := 6, ground := Go.Ground.data }, { on := 9, ground := Go.Ground.data }], guard := none }, { dst := some 38, op := Go.Op.binOp Go.BinOp.or 69 (Go.Operand.tmp 31) (Go.Operand.tmp 37) 69, type := 69, pos := "words.go:24", after := #[{ on := 4, ground := Go.Ground.data }, { on := 10, ground := Go.Ground.data }], guard := none }, { dst := some 39, op := Go.Op.indexAddr 61 (Go.Operand.tmp 27) (Go.Operand.tmp 29), type := 0, pos := "words.go:24", after := #[{ on := 0, ground := Go.Ground.data }, { on := 2, ground := Go.Ground.data }, { on := 0, ground := Go.Ground.phase }, { on := 1, ground := Go.Ground.phase }, { on := 2, ground := Go.Ground.phase }, { on := 3, ground := Go.Ground.phase }, { on := 4, ground := Go.Ground.phase }, { on := 5, ground := Go.Ground.phase }, { on := 6, ground := Go.Ground.phase }, { on := 7, ground := Go.Ground.phase }, { on := 8, ground := Go.Ground.phase }, { on := 9, ground := Go.Ground.phase }, { on := 10, ground := Go.Ground.phase }, { on := 11, ground := Go.Ground.phase }], guard := none }, { dst := none, op := Go.Op.store 69 (Go.Operand.tmp 39) (Go.Operand.tmp 38), type := 0, pos := "words.go:24", after := #[{ on := 12, ground := Go.Ground.data }, { on := 11, ground := Go.Ground.data }, { on := 0, ground := Go.Ground.phase }, { on := 1, ground := Go.Ground.phase }, { on := 2, ground := Go.Ground.phase }, { on := 3, ground := Go.Ground.phase }, { on := 4, ground := Go.Ground.phase }, { on := 5, ground := Go.Ground.phase }, { on := 6, ground := Go.Ground.phase }, { on := 7, ground := Go.Ground.phase }, { on := 8, ground := Go.Ground.phase }, { on := 9, ground := Go.Ground.phase }, { on := 10, ground := Go.Ground.phase }, { on := 11, ground := Go.Ground.phase }], guard := none }]
def semFr (pl c r r8 p s q k g n : Nat) (L : List Nat) : Nat → Value → World → Prop := fun ix v u => match ix with
  | 0 => v = .slice (some ⟨g, 0, none⟩) n n
  | 1 => v = .int .i64 (pl : Int)
  | 2 => v = .int .i64 (k : Int)
  | 3 => v = .pointer (some ⟨g, k, none⟩)
  | 4 => v = .int .u64 (p : Int)
  | 5 => v = .int .u8 (c : Int)
  | 6 => v = .int .u64 (c : Int)
  | 7 => v = .int .i64 (pl : Int)
  | 8 => v = .int .i64 (r : Int)
  | 9 => v = .int .i64 (r8 : Int)
  | 10 => v = .int .u64 (s : Int)
  | 11 => v = .int .u64 (q : Int)
  | 12 => v = .pointer (some ⟨g, k, none⟩)
  | 13 => RowN .u64 u g (L.set k q) ∧ v = v
  | _ => True
set_option maxHeartbeats 2000000 in
theorem semFrR (pl c r r8 p s q k g n : Nat) (L : List Nat)  {Q : Exit → Act → World → Prop} {a0 : Act} {u0 : World} (hsz : a0.tmps.size = 42) (v3 : a0.tmps[3]? = some (.slice (some ⟨g, 0, none⟩) n n)) (v5 : a0.tmps[5]? = some (.int .u8 (c : Int))) (v6 : a0.tmps[6]? = some (.int .i64 (pl : Int))) (hin : (k : Int) < (n : Int)) (hk : (pl : Int).tdiv 8 = (k : Int)) (hkw : IntKind.i64.wrap (k : Int) = (k : Int)) (hr : (pl : Int).tmod 8 = (r : Int)) (hrw : IntKind.i64.wrap (r : Int) = (r : Int)) (hr8 : (r : Int) * 8 = (r8 : Int)) (hr8w : IntKind.i64.wrap (r8 : Int) = (r8 : Int)) (ht : (r8 : Int) ≤ 64) (hcw : IntKind.u64.wrap (c : Int) = (c : Int)) (hsh : IntKind.u64.wrap ((c : Int) * 2 ^ r8) = (s : Int)) (hJ0 : RowN .u64 u0.drew g L) (hLi : L[k]? = some p) (hor : bits .or .u64 (p : Int) (s : Int) = (q : Int))
    (hfin : ∀ (vs : Nat → Value) u, (∀ ix d, ((semFrO[ix]?).bind (fun x => Oper.dst x)) = some d → semFr pl c r r8 p s q k g n L ix (vs ix) u) → u0.drew.grownBy u (some g) → (∃ v, semFr pl c r r8 p s q k g n L 13 v u) → Q .normal (putFrom vs a0 semFrO.toList 0) u) : (Code.region 7 semFrO true).wp Tryd.prog Q a0 u0 := by
  unfold semFrO
  refine freeZ_walk (Sem := semFr pl c r r8 p s q k g n L) (J := fun u => RowN .u64 u g L) 13 (fun j => j == 13) (some g) rfl (n := 42) (by kernel_rfl) hsz (by kernel_rfl) hJ0 ?_ ?_ ?_ (fun _ _ h hb => RowN.later h hb) (by decide) ?_ ?_ (by decide) ?_
  · intro j hj
    simp only [beq_iff_eq] at hj
    subst hj
    · exact .inl rfl
  · intro ix v u u' hl h hb
    match ix, h, hl with
    | 0, h, _ => exact h
    | 1, h, _ => exact h
    | 2, h, _ => exact h
    | 3, h, _ => exact h
    | 4, h, _ => exact h
    | 5, h, _ => exact h
    | 6, h, _ => exact h
    | 7, h, _ => exact h
    | 8, h, _ => exact h
    | 9, h, _ => exact h
    | 10, h, _ => exact h
    | 11, h, _ => exact h
    | 12, h, _ => exact h
    | 13, _, hl => exact absurd hl (by decide)
    | _ + 14, _, _ => exact trivial
  · intro ix v u u' hl h hb
    match ix, h, hl with
    | 0, _, hl => exact absurd hl (by decide)
    | 1, _, hl => exact absurd hl (by decide)
    | 2, _, hl => exact absurd hl (by decide)
    | 3, _, hl => exact absurd hl (by decide)
    | 4, _, hl => exact absurd hl (by decide)
    | 5, _, hl => exact absurd hl (by decide)
    | 6, _, hl => exact absurd hl (by decide)
    | 7, _, hl => exact absurd hl (by decide)
    | 8, _, hl => exact absurd hl (by decide)
    | 9, _, hl => exact absurd hl (by decide)
    | 10, _, hl => exact absurd hl (by decide)
    | 11, _, hl => exact absurd hl (by decide)
    | 12, _, hl => exact absurd hl (by decide)
    | 13, h, _ => exact ⟨RowN.later h.1 hb, rfl⟩
    | _ + 14, _, _ => exact trivial
  · intro ix o a u ho hne hF hbu hJ hW
    match ix, ho, hF, hJ, hne, hW with
    | 0, ho, hF, hJ, _, hW =>
      obtain rfl := Option.some.inj ho
      have h3 : a.tmps[3]? = some (.slice (some ⟨g, 0, none⟩) n n) := (hF.out 3 rfl).trans v3
      refine free_step rfl (by rfl) (fun K' hK => ?_)
      go_simp
      exact hK.out _ _ rfl (Below.refl _ _)
    | 1, ho, hF, hJ, _, hW =>
      obtain rfl := Option.some.inj ho
      have h6 : a.tmps[6]? = some (.int .i64 (pl : Int)) := (hF.out 6 rfl).trans v6
      refine free_step rfl (by rfl) (fun K' hK => ?_)
      go_simp
      exact hK.out _ _ rfl (Below.refl _ _)
    | 2, ho, hF, hJ, _, hW =>
      obtain rfl := Option.some.inj ho
      obtain ⟨v28, h28, s28⟩ := hF.dep 1 28 rfl rfl
      obtain rfl : v28 = .int .i64 (pl : Int) := s28
      refine free_step rfl (by rfl) (fun K' hK => ?_)
      go_simp
      exact hK.out _ _ rfl (Below.refl _ _)
    | 3, ho, hF, hJ, _, hW =>
      obtain rfl := Option.some.inj ho
      obtain ⟨v27, h27, s27⟩ := hF.dep 0 27 rfl rfl
      obtain rfl : v27 = .slice (some ⟨g, 0, none⟩) n n := s27
      obtain ⟨v29, h29, s29⟩ := hF.dep 2 29 rfl rfl
      obtain rfl : v29 = .int .i64 (k : Int) := s29
      refine free_step rfl (by rfl) (fun K' hK => ?_)
      go_simp
      exact hK.out _ _ rfl (Below.refl _ _)
    | 4, ho, hF, hJ, _, hW =>
      have hJu := hJ [] (by kernel_rfl)
      obtain rfl := Option.some.inj ho
      obtain ⟨v30, h30, s30⟩ := hF.dep 3 30 rfl rfl
      obtain rfl : v30 = .pointer (some ⟨g, k, none⟩) := s30
      have gx := hJu.cell hLi
      refine free_step rfl (by rfl) (fun K' hK => ?_)
      go_simp
      exact hK.out _ _ rfl (Below.refl _ _)
    | 5, ho, hF, hJ, _, hW =>
      obtain rfl := Option.some.inj ho
      have h5 : a.tmps[5]? = some (.int .u8 (c : Int)) := (hF.out 5 rfl).trans v5
      refine free_step rfl (by rfl) (fun K' hK => ?_)
      go_simp
      exact hK.out _ _ rfl (Below.refl _ _)
    | 6, ho, hF, hJ, _, hW =>
      obtain rfl := Option.some.inj ho
      obtain ⟨v32, h32, s32⟩ := hF.dep 5 32 rfl rfl
      obtain rfl : v32 = .int .u8 (c : Int) := s32
      refine free_step rfl (by rfl) (fun K' hK => ?_)
      go_simp
      exact hK.out _ _ rfl (Below.refl _ _)
    | 7, ho, hF, hJ, _, hW =>
      obtain rfl := Option.some.inj ho
      have h6 : a.tmps[6]? = some (.int .i64 (pl : Int)) := (hF.out 6 rfl).trans v6
      refine free_step rfl (by rfl) (fun K' hK => ?_)
      go_simp
      exact hK.out _ _ rfl (Below.refl _ _)
    | 8, ho, hF, hJ, _, hW =>
      obtain rfl := Option.some.inj ho
      obtain ⟨v34, h34, s34⟩ := hF.dep 7 34 rfl rfl
      obtain rfl : v34 = .int .i64 (pl : Int) := s34
      refine free_step rfl (by rfl) (fun K' hK => ?_)
      go_simp
      exact hK.out _ _ rfl (Below.refl _ _)
    | 9, ho, hF, hJ, _, hW =>
      obtain rfl := Option.some.inj ho
      obtain ⟨v35, h35, s35⟩ := hF.dep 8 35 rfl rfl
      obtain rfl : v35 = .int .i64 (r : Int) := s35
      refine free_step rfl (by rfl) (fun K' hK => ?_)
      go_simp
      exact hK.out _ _ rfl (Below.refl _ _)
    | 10, ho, hF, hJ, _, hW =>
      obtain rfl := Option.some.inj ho
      obtain ⟨v33, h33, s33⟩ := hF.dep 6 33 rfl rfl
      obtain rfl : v33 = .int .u64 (c : Int) := s33
      obtain ⟨v36, h36, s36⟩ := hF.dep 9 36 rfl rfl
      obtain rfl : v36 = .int .i64 (r8 : Int) := s36
      refine free_step rfl (by rfl) (fun K' hK => ?_)
      go_simp
      exact hK.out _ _ rfl (Below.refl _ _)
    | 11, ho, hF, hJ, _, hW =>
      obtain rfl := Option.some.inj ho
      obtain ⟨v31, h31, s31⟩ := hF.dep 4 31 rfl rfl
      obtain rfl : v31 = .int .u64 (p : Int) := s31
      obtain ⟨v37, h37, s37⟩ := hF.dep 10 37 rfl rfl
      obtain rfl : v37 = .int .u64 (s : Int) := s37
      refine free_step rfl (by rfl) (fun K' hK => ?_)
      go_simp
      exact hK.out _ _ rfl (Below.refl _ _)
    | 12, ho, hF, hJ, _, hW =>
      obtain rfl := Option.some.inj ho
      obtain ⟨v27, h27, s27⟩ := hF.dep 0 27 rfl rfl
      obtain rfl : v27 = .slice (some ⟨g, 0, none⟩) n n := s27
      obtain ⟨v29, h29, s29⟩ := hF.dep 2 29 rfl rfl
      obtain rfl : v29 = .int .i64 (k : Int) := s29
      refine free_step rfl (by rfl) (fun K' hK => ?_)
      go_simp
      exact hK.out _ _ rfl (Below.refl _ _)
    | 13, _, _, _, hne, _ => exact absurd rfl hne
    | n + 14, ho, _, _, _, _ => exact absurd (Array.getElem?_eq_some_iff.1 ho).1 (by show ¬ n + 14 < 14; omega)
  · intro o a u ho hF hbu hJu hW
    obtain rfl := Option.some.inj ho
    obtain ⟨v39, h39, s39⟩ := hF.dep 12 39 rfl rfl
    obtain rfl : v39 = .pointer (some ⟨g, k, none⟩) := s39
    obtain ⟨v38, h38, s38⟩ := hF.dep 11 38 rfl rfl
    obtain rfl : v38 = .int .u64 (q : Int) := s38
    refine freeZ_step rfl (by rfl) (fun K' hK => ?_)
    have gc := hJu.cell hLi
    have gf := hJu.free k
    go_simp
    exact hK.out undef _ ⟨hJu.set hLi q, rfl⟩ (grown_cell u ⟨g, k, none⟩ _)
  · intro vs u hS hbu hZ
    exact hfin vs u hS hbu hZ
end Go.Proofs.YtpcmpeeflnlkpaaDoor
