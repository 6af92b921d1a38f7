/-
  math/bits.Div64, whole.
-/
import Derived.Test.YtpcmpeeflnlkpaaDoorNDiv64
import Derived.Test.YtpcmpeeflnlkpaaDoorHFree
namespace Go.Proofs.YtpcmpeeflnlkpaaDoor
open Go.RowKit Ch
set_option maxRecDepth 100000
def semDzO : Array Oper := #[{ dst := some 28, op := Go.Op.move (Go.Operand.tmp 1), type := 69, pos := "bits.go:528", after := #[], guard := none }, { dst := some 29, op := Go.Op.move (Go.Operand.tmp 2), type := 69, pos := "bits.go:528", after := #[], guard := none }, { dst := some 30, op := Go.Op.binOp Go.BinOp.quo 69 (Go.Operand.tmp 28) (Go.Operand.tmp 29) 69, type := 69, pos := "bits.go:528", after := #[{ on := 0, ground := Go.Ground.data }, { on := 1, ground := Go.Ground.data }], guard := none }, { dst := some 31, op := Go.Op.move (Go.Operand.tmp 1), type := 69, pos := "bits.go:528", after := #[{ on := 6, ground := Go.Ground.gcOnly Go.Departure.lateStores }], guard := none }, { dst := some 32, op := Go.Op.move (Go.Operand.tmp 2), type := 69, pos := "bits.go:528", after := #[{ on := 6, ground := Go.Ground.gcOnly Go.Departure.lateStores }], guard := none }, { dst := some 33, op := Go.Op.binOp Go.BinOp.rem 69 (Go.Operand.tmp 31) (Go.Operand.tmp 32) 69, type := 69, pos := "bits.go:528", after := #[{ on := 3, ground := Go.Ground.data }, { on := 4, ground := Go.Ground.data }, { on := 6, ground := Go.Ground.gcOnly Go.Departure.lateStores }], guard := none }, { dst := some 6, op := Go.Op.assign (Go.Operand.tmp 30), type := 69, pos := "bits.go:528", after := #[{ on := 2, ground := Go.Ground.data }, { on := 0, ground := Go.Ground.phase }, { on := 1, ground := Go.Ground.phase }, { on := 2, ground := Go.Ground.phase }, { on := 3, ground := Go.Ground.textOnly Go.Departure.lateStores }, { on := 4, ground := Go.Ground.textOnly Go.Departure.lateStores }, { on := 5, ground := Go.Ground.textOnly Go.Departure.lateStores }], guard := none }, { dst := some 7, op := Go.Op.assign (Go.Operand.tmp 33), type := 69, pos := "bits.go:528", after := #[{ on := 5, ground := Go.Ground.data }, { on := 6, ground := Go.Ground.chain }, { on := 0, ground := Go.Ground.phase }, { on := 1, ground := Go.Ground.phase }, { on := 2, ground := Go.Ground.phase }, { on := 3, ground := Go.Ground.phase }, { on := 4, ground := Go.Ground.phase }, { on := 5, ground := Go.Ground.phase }, { on := 6, ground := Go.Ground.phase }], guard := none }]
def semDz (lo y QQ rem : Nat) : Nat → Value → World → Prop := fun ix v _ => match ix with
  | 0 => v = .int .u64 (lo : Int)
  | 1 => v = .int .u64 (y : Int)
  | 2 => v = .int .u64 (QQ : Int)
  | 3 => v = .int .u64 (lo : Int)
  | 4 => v = .int .u64 (y : Int)
  | 5 => v = .int .u64 (rem : Int)
  | 6 => v = .int .u64 (QQ : Int)
  | 7 => v = .int .u64 (rem : Int)
  | _ => True
set_option maxHeartbeats 2000000 in
theorem semDzR (lo y QQ rem : Nat)  {Q : Exit → Act → World → Prop} {a0 : Act} {u0 : World} (hsz : a0.tmps.size = 135) (v1 : a0.tmps[1]? = some (.int .u64 (lo : Int))) (v2 : a0.tmps[2]? = some (.int .u64 (y : Int))) (hy : 0 < y) (hq : (lo : Int) / (y : Int) = (QQ : Int)) (hqw : IntKind.u64.wrap (QQ : Int) = (QQ : Int)) (hr : (lo : Int).tmod (y : Int) = (rem : Int))
    (hfin : ∀ (vs : Nat → Value) u, (∀ ix d, ((semDzO[ix]?).bind (fun x => Oper.dst x)) = some d → semDz lo y QQ rem ix (vs ix) u) → Below u0.drew.heap.size u0.drew u → Q .normal (putFrom vs a0 semDzO.toList 0) u) : (Code.region 6 semDzO true).wp Tryd.prog Q a0 u0 := by
  unfold semDzO
  refine free_walk (Sem := semDz lo y QQ rem) rfl (n := 135) (by kernel_rfl) hsz (by kernel_rfl) ?_ ?_ ?_
  · intro ix v u u' h hb
    match ix, h with
    | 0, h => exact h
    | 1, h => exact h
    | 2, h => exact h
    | 3, h => exact h
    | 4, h => exact h
    | 5, h => exact h
    | 6, h => exact h
    | 7, h => exact h
    | _ + 8, _ => exact trivial
  · intro ix o a u ho hF hbu
    match ix, ho, hF with
    | 0, ho, hF =>
      obtain rfl := Option.some.inj ho
      have h1 : a.tmps[1]? = some (.int .u64 (lo : Int)) := (hF.out 1 rfl).trans v1
      refine free_step rfl (by rfl) (fun K' hK => ?_)
      go_simp
      exact hK.out _ _ rfl (Below.refl _ _)
    | 1, ho, hF =>
      obtain rfl := Option.some.inj ho
      have h2 : a.tmps[2]? = some (.int .u64 (y : Int)) := (hF.out 2 rfl).trans v2
      refine free_step rfl (by rfl) (fun K' hK => ?_)
      go_simp
      exact hK.out _ _ rfl (Below.refl _ _)
    | 2, ho, hF =>
      obtain rfl := Option.some.inj ho
      obtain ⟨v28, h28, s28⟩ := hF.dep 0 28 rfl rfl
      obtain rfl : v28 = .int .u64 (lo : Int) := s28
      obtain ⟨v29, h29, s29⟩ := hF.dep 1 29 rfl rfl
      obtain rfl : v29 = .int .u64 (y : Int) := s29
      have hne : ¬ y = 0 := by omega
      refine free_step rfl (by rfl) (fun K' hK => ?_)
      go_simp
      exact hK.out _ _ rfl (Below.refl _ _)
    | 3, ho, hF =>
      obtain rfl := Option.some.inj ho
      have h1 : a.tmps[1]? = some (.int .u64 (lo : Int)) := (hF.out 1 rfl).trans v1
      refine free_step rfl (by rfl) (fun K' hK => ?_)
      go_simp
      exact hK.out _ _ rfl (Below.refl _ _)
    | 4, ho, hF =>
      obtain rfl := Option.some.inj ho
      have h2 : a.tmps[2]? = some (.int .u64 (y : Int)) := (hF.out 2 rfl).trans v2
      refine free_step rfl (by rfl) (fun K' hK => ?_)
      go_simp
      exact hK.out _ _ rfl (Below.refl _ _)
    | 5, ho, hF =>
      obtain rfl := Option.some.inj ho
      obtain ⟨v31, h31, s31⟩ := hF.dep 3 31 rfl rfl
      obtain rfl : v31 = .int .u64 (lo : Int) := s31
      obtain ⟨v32, h32, s32⟩ := hF.dep 4 32 rfl rfl
      obtain rfl : v32 = .int .u64 (y : Int) := s32
      have hne : ¬ y = 0 := by omega
      refine free_step rfl (by rfl) (fun K' hK => ?_)
      go_simp
      exact hK.out _ _ rfl (Below.refl _ _)
    | 6, ho, hF =>
      obtain rfl := Option.some.inj ho
      obtain ⟨v30, h30, s30⟩ := hF.dep 2 30 rfl rfl
      obtain rfl : v30 = .int .u64 (QQ : Int) := s30
      refine free_step rfl (by rfl) (fun K' hK => ?_)
      go_simp
      exact hK.out _ _ rfl (Below.refl _ _)
    | 7, ho, hF =>
      obtain rfl := Option.some.inj ho
      obtain ⟨v33, h33, s33⟩ := hF.dep 5 33 rfl rfl
      obtain rfl : v33 = .int .u64 (rem : Int) := s33
      refine free_step rfl (by rfl) (fun K' hK => ?_)
      go_simp
      exact hK.out _ _ rfl (Below.refl _ _)
    | n + 8, ho, _ => exact absurd (Array.getElem?_eq_some_iff.1 ho).1 (by show ¬ n + 8 < 8; omega)
  · intro vs u hS hbu
    exact hfin vs u hS hbu
set_option maxHeartbeats 4000000 in
theorem bDiv_any (hi lo y : Nat) (w : World) (hhi : hi < y) (hlo : lo < 18446744073709551616) (hy : y < 18446744073709551616) :
    Calls Tryd.prog 81 #[.int .u64 (hi : Int), .int .u64 (lo : Int), .int .u64 (y : Int)] w fun e w' => e = .returned (.tuple #[.int .u64 (((hi * 18446744073709551616 + lo) / y : Nat) : Int), .int .u64 (((hi * 18446744073709551616 + lo) % y : Nat) : Int)]) ∧ Below w.heap.size w w' := by
  by_cases h0 : hi = 0
  · subst h0
    rw [Nat.zero_mul, Nat.zero_add]
    obtain ⟨QQ, hQQ⟩ : ∃ a, lo / y = a := ⟨_, rfl⟩
    obtain ⟨rem, hrem⟩ : ∃ a, lo % y = a := ⟨_, rfl⟩
    have hQ : (lo : Int) / (y : Int) = (QQ : Int) := by rw [← hQQ]; simp
    have hR : (lo : Int).tmod (y : Int) = (rem : Int) := by rw [Int.tmod_eq_emod_of_nonneg (by omega), ← hrem]; simp
    have hQl : QQ ≤ lo := by rw [← hQQ]; exact Nat.div_le_self _ _
    have wQ : IntKind.u64.wrap (QQ : Int) = (QQ : Int) := by rw [IntKind.wrap_u64]; omega
    rw [hQQ, hrem]
    clear hQQ hrem
    have c1 : ((y : Int) == 0) = false := by simp; omega
    have c2 : ¬ (y : Int) ≤ 0 := by omega
    go_enter Tryd.func81, Tryd.ntmps81
    go_wp2_with fail
    refine semDzR lo y QQ rem rfl rfl rfl hhi hQ wQ hR ?_
    intro vs u hS hbu
    have e6 : vs 6 = .int .u64 (QQ : Int) := hS 6 6 rfl
    have e7 : vs 7 = .int .u64 (rem : Int) := hS 7 7 rfl
    unfold semDzO
    simp only [putFrom, Act.put, List.setIfInBounds_toArray, List.set_cons_succ, List.set_cons_zero, Nat.reduceAdd]
    rw [e6, e7]
    clear hS
    generalize vs 0 = qq0
    generalize vs 1 = qq1
    generalize vs 2 = qq2
    generalize vs 3 = qq3
    generalize vs 4 = qq4
    generalize vs 5 = qq5
    go_wp2_with fail
    go_ret2
    exact ⟨rfl, ((Below.refl w.heap.size w).drew).trans hbu⟩
  · refine (bDiv_big hi lo y w hhi hlo hy h0).mono ?_
    rintro e w' ⟨rfl, rfl⟩
    exact ⟨rfl, Below.refl _ _⟩
end Go.Proofs.YtpcmpeeflnlkpaaDoor
