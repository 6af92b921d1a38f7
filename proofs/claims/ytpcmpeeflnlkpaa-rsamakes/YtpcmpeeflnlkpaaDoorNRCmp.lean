/-
  The document's Cmp.
-/
import Derived.Test.YtpcmpeeflnlkpaaDoorNRefEtc
namespace Go.Proofs.YtpcmpeeflnlkpaaDoor
open Go.RowKit Ch
set_option maxRecDepth 100000

theorem below_drew {w wr u : World} (hb : Below w.heap.size w wr) (hbu : Below wr.drew.heap.size wr.drew u) : Below w.heap.size w u := by
  have h1 : Below wr.heap.size wr wr.drew := (Below.refl _ _).drew
  exact hb.trans ((h1.trans (hbu.mono h1.size)).mono hb.size)
def semClO : Array Oper := #[{ dst := some 23, op := Go.Op.move (Go.Operand.tmp 0), type := 29, pos := "ref.go:39", after := #[], guard := none }, { dst := some 24, op := Go.Op.move (Go.Operand.tmp 5), type := 3, pos := "ref.go:39", after := #[], guard := none }, { dst := some 25, op := Go.Op.indexAddr 29 (Go.Operand.tmp 23) (Go.Operand.tmp 24), type := 0, pos := "ref.go:39", after := #[{ on := 0, ground := Go.Ground.data }, { on := 1, ground := Go.Ground.data }], guard := none }, { dst := some 26, op := Go.Op.load 3 (Go.Operand.tmp 25), type := 3, pos := "ref.go:39", after := #[{ on := 2, ground := Go.Ground.data }], guard := none }, { dst := some 27, op := Go.Op.move (Go.Operand.tmp 1), type := 29, pos := "ref.go:39", after := #[], guard := none }, { dst := some 28, op := Go.Op.move (Go.Operand.tmp 5), type := 3, pos := "ref.go:39", after := #[], guard := none }, { dst := some 29, op := Go.Op.indexAddr 29 (Go.Operand.tmp 27) (Go.Operand.tmp 28), type := 0, pos := "ref.go:39", after := #[{ on := 4, ground := Go.Ground.data }, { on := 5, ground := Go.Ground.data }], guard := none }, { dst := some 30, op := Go.Op.load 3 (Go.Operand.tmp 29), type := 3, pos := "ref.go:39", after := #[{ on := 6, ground := Go.Ground.data }], guard := none }, { dst := some 31, op := Go.Op.binOp Go.BinOp.lss 3 (Go.Operand.tmp 26) (Go.Operand.tmp 30) 3, type := 4, pos := "ref.go:39", after := #[{ on := 3, ground := Go.Ground.data }, { on := 7, ground := Go.Ground.data }], guard := none }]
def semCl (b b2 o o2 n m k p q cx cy : Nat) : Nat → Value → World → Prop := fun ix v _ => match ix with
  | 0 => v = .slice (some ⟨b, o, none⟩) n cx
  | 1 => v = .int .i64 (k : Int)
  | 2 => v = .pointer (some ⟨b, o + k, none⟩)
  | 3 => v = .int .i64 (p : Int)
  | 4 => v = .slice (some ⟨b2, o2, none⟩) m cy
  | 5 => v = .int .i64 (k : Int)
  | 6 => v = .pointer (some ⟨b2, o2 + k, none⟩)
  | 7 => v = .int .i64 (q : Int)
  | 8 => v = .bool (decide (p < q))
  | _ => True
set_option maxHeartbeats 2000000 in
theorem semClR (b b2 o o2 n m k p q cx cy : Nat)  {Q : Exit → Act → World → Prop} {a0 : Act} {u0 : World} (hsz : a0.tmps.size = 41) (v0 : a0.tmps[0]? = some (.slice (some ⟨b, o, none⟩) n cx)) (v1 : a0.tmps[1]? = some (.slice (some ⟨b2, o2, none⟩) m cy)) (v5 : a0.tmps[5]? = some (.int .i64 (k : Int))) (hk : (k : Int) < (n : Int)) (hk2 : (k : Int) < (m : Int)) (hk0 : (0 : Int) ≤ (k : Int)) (HC : Hid (∀ u, Below u0.drew.heap.size u0.drew u → u.cell? ⟨b, o + k, none⟩ = some (.int .i64 (p : Int)) ∧ u.cell? ⟨b2, o2 + k, none⟩ = some (.int .i64 (q : Int))))
    (hfin : ∀ (vs : Nat → Value) u, (∀ ix d, ((semClO[ix]?).bind (fun x => Oper.dst x)) = some d → semCl b b2 o o2 n m k p q cx cy ix (vs ix) u) → Below u0.drew.heap.size u0.drew u → Q .normal (putFrom vs a0 semClO.toList 0) u) : (Code.region 8 semClO true).wp Tryd.prog Q a0 u0 := by
  unfold semClO
  refine free_walk (Sem := semCl b b2 o o2 n m k p q cx cy) rfl (n := 41) (by kernel_rfl) hsz (by kernel_rfl) ?_ ?_ ?_
  · intro ix v u u' h hb
    match ix, h with
    | 0, h => exact h
    | 1, h => exact h
    | 2, h => exact h
    | 3, h => exact h
    | 4, h => exact h
    | 5, h => exact h
    | 6, h => exact h
    | 7, h => exact h
    | 8, h => exact h
    | _ + 9, _ => exact trivial
  · intro ix o a u ho hF hbu
    match ix, ho, hF with
    | 0, ho, hF =>
      obtain rfl := Option.some.inj ho
      have h0 : a.tmps[0]? = some (.slice (some ⟨b, o, none⟩) n cx) := (hF.out 0 rfl).trans v0
      refine free_step rfl (by rfl) (fun K' hK => ?_)
      go_simp
      exact hK.out _ _ rfl (Below.refl _ _)
    | 1, ho, hF =>
      obtain rfl := Option.some.inj ho
      have h5 : a.tmps[5]? = some (.int .i64 (k : Int)) := (hF.out 5 rfl).trans v5
      refine free_step rfl (by rfl) (fun K' hK => ?_)
      go_simp
      exact hK.out _ _ rfl (Below.refl _ _)
    | 2, ho, hF =>
      obtain rfl := Option.some.inj ho
      obtain ⟨v23, h23, s23⟩ := hF.dep 0 23 rfl rfl
      obtain rfl : v23 = .slice (some ⟨b, o, none⟩) n cx := s23
      obtain ⟨v24, h24, s24⟩ := hF.dep 1 24 rfl rfl
      obtain rfl : v24 = .int .i64 (k : Int) := s24
      refine free_step rfl (by rfl) (fun K' hK => ?_)
      go_simp
      exact hK.out _ _ rfl (Below.refl _ _)
    | 3, ho, hF =>
      obtain rfl := Option.some.inj ho
      obtain ⟨v25, h25, s25⟩ := hF.dep 2 25 rfl rfl
      obtain rfl : v25 = .pointer (some ⟨b, o + k, none⟩) := s25
      have gx := (HC.out u hbu).1
      refine free_step rfl (by rfl) (fun K' hK => ?_)
      go_simp
      exact hK.out _ _ rfl (Below.refl _ _)
    | 4, ho, hF =>
      obtain rfl := Option.some.inj ho
      have h1 : a.tmps[1]? = some (.slice (some ⟨b2, o2, none⟩) m cy) := (hF.out 1 rfl).trans v1
      refine free_step rfl (by rfl) (fun K' hK => ?_)
      go_simp
      exact hK.out _ _ rfl (Below.refl _ _)
    | 5, ho, hF =>
      obtain rfl := Option.some.inj ho
      have h5 : a.tmps[5]? = some (.int .i64 (k : Int)) := (hF.out 5 rfl).trans v5
      refine free_step rfl (by rfl) (fun K' hK => ?_)
      go_simp
      exact hK.out _ _ rfl (Below.refl _ _)
    | 6, ho, hF =>
      obtain rfl := Option.some.inj ho
      obtain ⟨v27, h27, s27⟩ := hF.dep 4 27 rfl rfl
      obtain rfl : v27 = .slice (some ⟨b2, o2, none⟩) m cy := s27
      obtain ⟨v28, h28, s28⟩ := hF.dep 5 28 rfl rfl
      obtain rfl : v28 = .int .i64 (k : Int) := s28
      refine free_step rfl (by rfl) (fun K' hK => ?_)
      go_simp
      exact hK.out _ _ rfl (Below.refl _ _)
    | 7, ho, hF =>
      obtain rfl := Option.some.inj ho
      obtain ⟨v29, h29, s29⟩ := hF.dep 6 29 rfl rfl
      obtain rfl : v29 = .pointer (some ⟨b2, o2 + k, none⟩) := s29
      have gx := (HC.out u hbu).2
      refine free_step rfl (by rfl) (fun K' hK => ?_)
      go_simp
      exact hK.out _ _ rfl (Below.refl _ _)
    | 8, ho, hF =>
      obtain rfl := Option.some.inj ho
      obtain ⟨v26, h26, s26⟩ := hF.dep 3 26 rfl rfl
      obtain rfl : v26 = .int .i64 (p : Int) := s26
      obtain ⟨v30, h30, s30⟩ := hF.dep 7 30 rfl rfl
      obtain rfl : v30 = .int .i64 (q : Int) := s30
      refine free_step rfl (by rfl) (fun K' hK => ?_)
      go_simp
      exact hK.out _ _ rfl (Below.refl _ _)
    | n + 9, ho, _ => exact absurd (Array.getElem?_eq_some_iff.1 ho).1 (by show ¬ n + 9 < 9; omega)
  · intro vs u hS hbu
    exact hfin vs u hS hbu
def semCgO : Array Oper := #[{ dst := some 32, op := Go.Op.move (Go.Operand.tmp 0), type := 29, pos := "ref.go:42", after := #[], guard := none }, { dst := some 33, op := Go.Op.move (Go.Operand.tmp 5), type := 3, pos := "ref.go:42", after := #[], guard := none }, { dst := some 34, op := Go.Op.indexAddr 29 (Go.Operand.tmp 32) (Go.Operand.tmp 33), type := 0, pos := "ref.go:42", after := #[{ on := 0, ground := Go.Ground.data }, { on := 1, ground := Go.Ground.data }], guard := none }, { dst := some 35, op := Go.Op.load 3 (Go.Operand.tmp 34), type := 3, pos := "ref.go:42", after := #[{ on := 2, ground := Go.Ground.data }], guard := none }, { dst := some 36, op := Go.Op.move (Go.Operand.tmp 1), type := 29, pos := "ref.go:42", after := #[], guard := none }, { dst := some 37, op := Go.Op.move (Go.Operand.tmp 5), type := 3, pos := "ref.go:42", after := #[], guard := none }, { dst := some 38, op := Go.Op.indexAddr 29 (Go.Operand.tmp 36) (Go.Operand.tmp 37), type := 0, pos := "ref.go:42", after := #[{ on := 4, ground := Go.Ground.data }, { on := 5, ground := Go.Ground.data }], guard := none }, { dst := some 39, op := Go.Op.load 3 (Go.Operand.tmp 38), type := 3, pos := "ref.go:42", after := #[{ on := 6, ground := Go.Ground.data }], guard := none }, { dst := some 40, op := Go.Op.binOp Go.BinOp.gtr 3 (Go.Operand.tmp 35) (Go.Operand.tmp 39) 3, type := 4, pos := "ref.go:42", after := #[{ on := 3, ground := Go.Ground.data }, { on := 7, ground := Go.Ground.data }], guard := none }]
def semCg (b b2 o o2 n m k p q cx cy : Nat) : Nat → Value → World → Prop := fun ix v _ => match ix with
  | 0 => v = .slice (some ⟨b, o, none⟩) n cx
  | 1 => v = .int .i64 (k : Int)
  | 2 => v = .pointer (some ⟨b, o + k, none⟩)
  | 3 => v = .int .i64 (p : Int)
  | 4 => v = .slice (some ⟨b2, o2, none⟩) m cy
  | 5 => v = .int .i64 (k : Int)
  | 6 => v = .pointer (some ⟨b2, o2 + k, none⟩)
  | 7 => v = .int .i64 (q : Int)
  | 8 => v = .bool (decide (q < p))
  | _ => True
set_option maxHeartbeats 2000000 in
theorem semCgR (b b2 o o2 n m k p q cx cy : Nat)  {Q : Exit → Act → World → Prop} {a0 : Act} {u0 : World} (hsz : a0.tmps.size = 41) (v0 : a0.tmps[0]? = some (.slice (some ⟨b, o, none⟩) n cx)) (v1 : a0.tmps[1]? = some (.slice (some ⟨b2, o2, none⟩) m cy)) (v5 : a0.tmps[5]? = some (.int .i64 (k : Int))) (hk : (k : Int) < (n : Int)) (hk2 : (k : Int) < (m : Int)) (hk0 : (0 : Int) ≤ (k : Int)) (HC : Hid (∀ u, Below u0.drew.heap.size u0.drew u → u.cell? ⟨b, o + k, none⟩ = some (.int .i64 (p : Int)) ∧ u.cell? ⟨b2, o2 + k, none⟩ = some (.int .i64 (q : Int))))
    (hfin : ∀ (vs : Nat → Value) u, (∀ ix d, ((semCgO[ix]?).bind (fun x => Oper.dst x)) = some d → semCg b b2 o o2 n m k p q cx cy ix (vs ix) u) → Below u0.drew.heap.size u0.drew u → Q .normal (putFrom vs a0 semCgO.toList 0) u) : (Code.region 10 semCgO true).wp Tryd.prog Q a0 u0 := by
  unfold semCgO
  refine free_walk (Sem := semCg b b2 o o2 n m k p q cx cy) rfl (n := 41) (by kernel_rfl) hsz (by kernel_rfl) ?_ ?_ ?_
  · intro ix v u u' h hb
    match ix, h with
    | 0, h => exact h
    | 1, h => exact h
    | 2, h => exact h
    | 3, h => exact h
    | 4, h => exact h
    | 5, h => exact h
    | 6, h => exact h
    | 7, h => exact h
    | 8, h => exact h
    | _ + 9, _ => exact trivial
  · intro ix o a u ho hF hbu
    match ix, ho, hF with
    | 0, ho, hF =>
      obtain rfl := Option.some.inj ho
      have h0 : a.tmps[0]? = some (.slice (some ⟨b, o, none⟩) n cx) := (hF.out 0 rfl).trans v0
      refine free_step rfl (by rfl) (fun K' hK => ?_)
      go_simp
      exact hK.out _ _ rfl (Below.refl _ _)
    | 1, ho, hF =>
      obtain rfl := Option.some.inj ho
      have h5 : a.tmps[5]? = some (.int .i64 (k : Int)) := (hF.out 5 rfl).trans v5
      refine free_step rfl (by rfl) (fun K' hK => ?_)
      go_simp
      exact hK.out _ _ rfl (Below.refl _ _)
    | 2, ho, hF =>
      obtain rfl := Option.some.inj ho
      obtain ⟨v32, h32, s32⟩ := hF.dep 0 32 rfl rfl
      obtain rfl : v32 = .slice (some ⟨b, o, none⟩) n cx := s32
      obtain ⟨v33, h33, s33⟩ := hF.dep 1 33 rfl rfl
      obtain rfl : v33 = .int .i64 (k : Int) := s33
      refine free_step rfl (by rfl) (fun K' hK => ?_)
      go_simp
      exact hK.out _ _ rfl (Below.refl _ _)
    | 3, ho, hF =>
      obtain rfl := Option.some.inj ho
      obtain ⟨v34, h34, s34⟩ := hF.dep 2 34 rfl rfl
      obtain rfl : v34 = .pointer (some ⟨b, o + k, none⟩) := s34
      have gx := (HC.out u hbu).1
      refine free_step rfl (by rfl) (fun K' hK => ?_)
      go_simp
      exact hK.out _ _ rfl (Below.refl _ _)
    | 4, ho, hF =>
      obtain rfl := Option.some.inj ho
      have h1 : a.tmps[1]? = some (.slice (some ⟨b2, o2, none⟩) m cy) := (hF.out 1 rfl).trans v1
      refine free_step rfl (by rfl) (fun K' hK => ?_)
      go_simp
      exact hK.out _ _ rfl (Below.refl _ _)
    | 5, ho, hF =>
      obtain rfl := Option.some.inj ho
      have h5 : a.tmps[5]? = some (.int .i64 (k : Int)) := (hF.out 5 rfl).trans v5
      refine free_step rfl (by rfl) (fun K' hK => ?_)
      go_simp
      exact hK.out _ _ rfl (Below.refl _ _)
    | 6, ho, hF =>
      obtain rfl := Option.some.inj ho
      obtain ⟨v36, h36, s36⟩ := hF.dep 4 36 rfl rfl
      obtain rfl : v36 = .slice (some ⟨b2, o2, none⟩) m cy := s36
      obtain ⟨v37, h37, s37⟩ := hF.dep 5 37 rfl rfl
      obtain rfl : v37 = .int .i64 (k : Int) := s37
      refine free_step rfl (by rfl) (fun K' hK => ?_)
      go_simp
      exact hK.out _ _ rfl (Below.refl _ _)
    | 7, ho, hF =>
      obtain rfl := Option.some.inj ho
      obtain ⟨v38, h38, s38⟩ := hF.dep 6 38 rfl rfl
      obtain rfl : v38 = .pointer (some ⟨b2, o2 + k, none⟩) := s38
      have gx := (HC.out u hbu).2
      refine free_step rfl (by rfl) (fun K' hK => ?_)
      go_simp
      exact hK.out _ _ rfl (Below.refl _ _)
    | 8, ho, hF =>
      obtain rfl := Option.some.inj ho
      obtain ⟨v35, h35, s35⟩ := hF.dep 3 35 rfl rfl
      obtain rfl : v35 = .int .i64 (p : Int) := s35
      obtain ⟨v39, h39, s39⟩ := hF.dep 7 39 rfl rfl
      obtain rfl : v39 = .int .i64 (q : Int) := s39
      refine free_step rfl (by rfl) (fun K' hK => ?_)
      go_simp
      exact hK.out _ _ rfl (Below.refl _ _)
    | n + 9, ho, _ => exact absurd (Array.getElem?_eq_some_iff.1 ho).1 (by show ¬ n + 9 < 9; omega)
  · intro vs u hS hbu
    exact hfin vs u hS hbu
/-- The first so many digits held against each other, from the greatest on. -/
def cmpAt (L M : List Nat) : Nat → Int
  | 0 => 0
  | k + 1 => if atN L k < atN M k then -1 else if atN M k < atN L k then 1 else cmpAt L M k
def cmpD (L M : List Nat) : Int := if L.length < M.length then -1 else if M.length < L.length then 1 else cmpAt L M L.length
set_option maxHeartbeats 2000000 in
theorem dCmp_any (x y : Option Addr) (cx cy n m : Nat) (L M : List Nat) (w : World) (hL : IsN .i64 w (.slice x n cx) L) (hM : IsN .i64 w (.slice y m cy) M) (hn : L.length = n) (hm : M.length = m) (hs : n ≤ 1000000) :
    Calls Tryd.prog 8 #[.slice x n cx, .slice y m cy] w fun e w' => e = .returned (.int .i64 (cmpD L M)) ∧ Below w.heap.size w w' := by
  have HL := show Hid (IsN .i64 w (.slice x n cx) L) from hL
  have HM := show Hid (IsN .i64 w (.slice y m cy) M) from hM
  have HN := show Hid (L.length = n) from hn
  have HQ := show Hid (M.length = m) from hm
  clear hL hM hn hm
  by_cases h1 : n < m
  · have h1' : (n : Int) < (m : Int) := by omega
    have HR := show Hid (cmpD L M = -1) from by unfold Hid cmpD; rw [if_pos (by rw [HN.out, HQ.out]; exact h1)]
    go_enter Tryd.func8, Tryd.ntmps8
    go_wp2_with fail
    go_ret
    exact ⟨by rw [HR.out]; rfl, Below.refl _ _⟩
  · have h1' : ¬ (n : Int) < (m : Int) := by omega
    by_cases h2 : m < n
    · have h2' : (m : Int) < (n : Int) := by omega
      have HR := show Hid (cmpD L M = 1) from by unfold Hid cmpD; rw [if_neg (by rw [HN.out, HQ.out]; exact h1), if_pos (by rw [HN.out, HQ.out]; exact h2)]
      go_enter Tryd.func8, Tryd.ntmps8
      go_wp2_with fail
      go_ret
      exact ⟨by rw [HR.out]; rfl, Below.refl _ _⟩
    · have h2' : ¬ (m : Int) < (n : Int) := by omega
      have HR := show Hid (cmpD L M = cmpAt L M n) from by unfold Hid cmpD; rw [if_neg (by rw [HN.out, HQ.out]; exact h1), if_neg (by rw [HN.out, HQ.out]; exact h2), HN.out]
      have w0 : IntKind.i64.wrap ((n : Int) - 1) = (n : Int) - 1 := by rw [IntKind.wrap_i64]; omega
      go_enter Tryd.func8, Tryd.ntmps8
      go_wp2_with fail
      go_loopw [5] (fun t wr => ∃ j : Nat, j ≤ n ∧ t = .int .i64 ((j : Int) - 1) ∧ Hid (cmpD L M = cmpAt L M j) ∧ Below w.heap.size w wr) (fun t _ => (intOf t + 1).toNat)
      case atStart => exact ⟨n, Nat.le_refl _, rfl, HR.out, Below.refl _ _⟩
      case round =>
        obtain ⟨j, hj, rfl, HJ, hb⟩ := hrel
        clear HR
        rcases j with _ | k
        · have hge : ¬ (0 : Int) ≤ ((0 : Nat) : Int) - 1 := by omega
          go_wp2_with fail
          go_ret
          exact ⟨by rw [HJ.out]; rfl, hb⟩
        · have e1 : ((k + 1 : Nat) : Int) - 1 = (k : Int) := by omega
          rw [e1]
          have hge : (0 : Int) ≤ (k : Int) := by omega
          have hlt : (k : Int) < (n : Int) := by omega
          have hlt2 : (k : Int) < (m : Int) := by omega
          have hdL : L[k]? = some (atN L k) := atN_some (by have := HN.out; omega)
          have hdM : M[k]? = some (atN M k) := atN_some (by have := HQ.out; omega)
          have HC := show Hid (cmpD L M = if atN L k < atN M k then -1 else if atN M k < atN L k then 1 else cmpAt L M k) from by unfold Hid; rw [HJ.out]; rfl
          obtain ⟨p, hp⟩ : ∃ p, atN L k = p := ⟨_, rfl⟩
          obtain ⟨q, hq⟩ : ∃ q, atN M k = q := ⟨_, rfl⟩
          rw [hp] at hdL HC
          rw [hq] at hdM HC
          obtain ⟨x1, b, o, rfl, hbl, gc⟩ := IsN.cellAt (HL.out.later hb) hdL
          obtain ⟨x2, b2, o2, rfl, hbl2, gc2⟩ := IsN.cellAt (HM.out.later hb) hdM
          have wk : IntKind.i64.wrap ((k : Int) - 1) = (k : Int) - 1 := by rw [IntKind.wrap_i64]; omega
          clear x1 x2 hp hq hdL hdM HJ e1
          have hbd : Below wr.heap.size wr wr.drew := (Below.refl _ _).drew
          have HCC := show Hid (∀ u, Below wr.drew.heap.size wr.drew u → u.cell? ⟨b, o + k, none⟩ = some (.int .i64 (p : Int)) ∧ u.cell? ⟨b2, o2 + k, none⟩ = some (.int .i64 (q : Int))) from fun u hu => by
            have h5 := hbd.trans (hu.mono hbd.size)
            exact ⟨(h5.cell (p := ⟨b, o + k, none⟩) hbl).trans gc, (h5.cell (p := ⟨b2, o2 + k, none⟩) hbl2).trans gc2⟩
          clear hbd
          by_cases h3 : p < q
          · have h3' : (p : Int) < (q : Int) := by omega
            have HR := show Hid (cmpD L M = -1) from by unfold Hid; rw [HC.out, if_pos h3]
            clear HC
            go_wp2_with fail
            refine semClR b b2 o o2 n m k p q cx cy rfl rfl rfl rfl hlt hlt2 hge HCC ?_
            intro vs u hS hbu
            have e8 : vs 8 = .bool (decide (p < q)) := hS 8 31 rfl
            unfold semClO
            simp only [putFrom, Act.put, List.setIfInBounds_toArray, List.set_cons_succ, List.set_cons_zero, Nat.reduceAdd]
            rw [e8]
            clear hS e8
            generalize vs 0 = lz0
            generalize vs 1 = lz1
            generalize vs 2 = lz2
            generalize vs 3 = lz3
            generalize vs 4 = lz4
            generalize vs 5 = lz5
            generalize vs 6 = lz6
            generalize vs 7 = lz7
            have hbx := below_drew hb hbu
            clear hbu
            go_wp2_with fail
            go_ret
            exact ⟨by rw [HR.out]; rfl, hbx⟩
          · have h3' : ¬ (p : Int) < (q : Int) := by omega
            go_wp2_with fail
            refine semClR b b2 o o2 n m k p q cx cy rfl rfl rfl rfl hlt hlt2 hge HCC ?_
            intro vs u hS hbu
            have e8 : vs 8 = .bool (decide (p < q)) := hS 8 31 rfl
            unfold semClO
            simp only [putFrom, Act.put, List.setIfInBounds_toArray, List.set_cons_succ, List.set_cons_zero, Nat.reduceAdd]
            rw [e8]
            clear hS e8
            generalize vs 0 = lz0
            generalize vs 1 = lz1
            generalize vs 2 = lz2
            generalize vs 3 = lz3
            generalize vs 4 = lz4
            generalize vs 5 = lz5
            generalize vs 6 = lz6
            generalize vs 7 = lz7
            have hb2 := below_drew (Below.refl wr.heap.size wr) hbu
            have hbx := hb.trans (hb2.mono hb.size)
            have HCC := show Hid (∀ u', Below u.drew.heap.size u.drew u' → u'.cell? ⟨b, o + k, none⟩ = some (.int .i64 (p : Int)) ∧ u'.cell? ⟨b2, o2 + k, none⟩ = some (.int .i64 (q : Int))) from fun u' hu => by
              have hbd : Below u.heap.size u u.drew := (Below.refl _ _).drew
              have h5 := hb2.trans ((hbd.trans (hu.mono hbd.size)).mono hb2.size)
              exact ⟨(h5.cell (p := ⟨b, o + k, none⟩) hbl).trans gc, (h5.cell (p := ⟨b2, o2 + k, none⟩) hbl2).trans gc2⟩
            clear hbu hb2
            by_cases h4 : q < p
            · have h4' : (q : Int) < (p : Int) := by omega
              have HR := show Hid (cmpD L M = 1) from by unfold Hid; rw [HC.out, if_neg h3, if_pos h4]
              clear HC
              go_wp2_with fail
              refine semCgR b b2 o o2 n m k p q cx cy rfl rfl rfl rfl hlt hlt2 hge HCC ?_
              intro vs u hS hbu
              have e8 : vs 8 = .bool (decide (q < p)) := hS 8 40 rfl
              unfold semCgO
              simp only [putFrom, Act.put, List.setIfInBounds_toArray, List.set_cons_succ, List.set_cons_zero, Nat.reduceAdd]
              rw [e8]
              clear hS e8
              generalize vs 0 = gz0
              generalize vs 1 = gz1
              generalize vs 2 = gz2
              generalize vs 3 = gz3
              generalize vs 4 = gz4
              generalize vs 5 = gz5
              generalize vs 6 = gz6
              generalize vs 7 = gz7
              have hby := below_drew hbx hbu
              clear hbu
              go_wp2_with fail
              go_ret
              exact ⟨by rw [HR.out]; rfl, hby⟩
            · have h4' : ¬ (q : Int) < (p : Int) := by omega
              have HR := show Hid (cmpD L M = cmpAt L M k) from by unfold Hid; rw [HC.out, if_neg h3, if_neg h4]
              clear HC
              go_wp2_with fail
              refine semCgR b b2 o o2 n m k p q cx cy rfl rfl rfl rfl hlt hlt2 hge HCC ?_
              intro vs u hS hbu
              have e8 : vs 8 = .bool (decide (q < p)) := hS 8 40 rfl
              unfold semCgO
              simp only [putFrom, Act.put, List.setIfInBounds_toArray, List.set_cons_succ, List.set_cons_zero, Nat.reduceAdd]
              rw [e8]
              clear hS e8
              generalize vs 0 = gz0
              generalize vs 1 = gz1
              generalize vs 2 = gz2
              generalize vs 3 = gz3
              generalize vs 4 = gz4
              generalize vs 5 = gz5
              generalize vs 6 = gz6
              generalize vs 7 = gz7
              have hby := below_drew hbx hbu
              clear hbu
              go_wp2_with fail
              go_roundw
              case rel => exact ⟨k, by omega, rfl, HR.out, hby⟩
              case measure => simp [intOf]
theorem cmpAt_pd {L M : List Nat} (hL : AllD L) (hM : AllD M) : ∀ j, j ≤ L.length → j ≤ M.length → cmpAt L M j = if pd L 0 j < pd M 0 j then -1 else if pd M 0 j < pd L 0 j then 1 else 0
  | 0, _, _ => by simp [cmpAt, pd_zero]
  | k + 1, h1, h2 => by
    have hdL : L[k]? = some (atN L k) := atN_some (by omega)
    have hdM : M[k]? = some (atN M k) := atN_some (by omega)
    rw [cmpAt, cmpAt_pd hL hM k (by omega) (by omega), pd_succ (L := L) (o := 0) (n := k) (x := atN L k) (by rw [Nat.zero_add]; exact hdL), pd_succ (L := M) (o := 0) (n := k) (x := atN M k) (by rw [Nat.zero_add]; exact hdM)]
    have h3 := pd_lt hL 0 k
    have h4 := pd_lt hM 0 k
    generalize atN L k = p at *
    generalize atN M k = q at *
    generalize pd L 0 k = x at *
    generalize pd M 0 k = y at *
    generalize 256 ^ k = T at *
    by_cases h5 : p < q
    · have h6 : T * (p + 1) ≤ T * q := Nat.mul_le_mul_left _ h5
      rw [Nat.mul_add] at h6
      rw [if_pos h5, if_pos (by omega)]
    · rw [if_neg h5]
      by_cases h7 : q < p
      · have h6 : T * (q + 1) ≤ T * p := Nat.mul_le_mul_left _ h7
        rw [Nat.mul_add] at h6
        rw [if_pos h7, if_neg (by omega), if_pos (by omega)]
      · obtain rfl : p = q := by omega
        rw [if_neg h7]
        by_cases h8 : x < y
        · have e1 : x + T * p < y + T * p := by omega
          rw [if_pos h8, if_pos e1]
        · have e1 : ¬ x + T * p < y + T * p := by omega
          rw [if_neg h8, if_neg e1]
          by_cases h9 : y < x
          · have e2 : y + T * p < x + T * p := by omega
            rw [if_pos h9, if_pos e2]
          · have e2 : ¬ y + T * p < x + T * p := by omega
            rw [if_neg h9, if_neg e2]
/-- What Cmp answers, by the numbers. -/
def cmpN (M N : Nat) : Int := if M < N then -1 else if N < M then 1 else 0
theorem cmpD_num {L M : List Nat} (hL : AllD L) (hM : AllD M) (tL : Tidy L) (tM : Tidy M) : cmpD L M = cmpN (numD L) (numD M) := by
  have big : ∀ {A B : List Nat}, AllD A → Tidy B → A.length < B.length → numD A < numD B := by
    intro A B hA hB h
    have h1 := numD_lt hA
    have h2 := tidy_geD hB (by intro e; subst e; simp at h)
    have h3 : 256 ^ A.length ≤ 256 ^ (B.length - 1) := Nat.pow_le_pow_right (by decide) (by omega)
    omega
  unfold cmpD cmpN
  by_cases h1 : L.length < M.length
  · rw [if_pos h1, if_pos (big hL tM h1)]
  · rw [if_neg h1]
    by_cases h2 : M.length < L.length
    · have := big hM tL h2
      rw [if_pos h2, if_neg (by omega), if_pos this]
    · rw [if_neg h2, cmpAt_pd hL hM _ (Nat.le_refl _) (by omega), pd_all, pd_full (by omega)]
theorem digCmp (n m : Nat) (u v : Value) (M N : Nat) (w : World) (hu : IsD n w u M) (hv : IsD m w v N) (hn : n ≤ 1000000) :
    Calls Tryd.prog 8 #[u, v] w fun e w' => e = .returned (.int .i64 (cmpN M N)) ∧ Below w.heap.size w w' := by
  obtain ⟨y, c, L, rfl, h2, h3, h4, rfl, h6⟩ := hu
  obtain ⟨y', c', L', rfl, k2, k3, k4, rfl, k6⟩ := hv
  rw [← cmpD_num h3 k3 h4 k4]
  exact dCmp_any y y' c c' _ _ L L' w h2 k2 rfl rfl (by omega)
end Go.Proofs.YtpcmpeeflnlkpaaDoor
