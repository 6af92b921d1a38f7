/-
  The document's Sub.
  The document's Mul.
-/
import Derived.Test.YtpcmpeeflnlkpaaGreatDoorNRAdd
import Derived.Deep.QuietTactic
import Derived.BigQuiet
import Derived.WalkSmall
namespace Go.Proofs.YtpcmpeeflnlkpaaGreatDoor
open Go.RowKit Ch
set_option maxRecDepth 100000

def semRsO : Array Oper := #[{ dst := some 15, op := Go.Op.move (Go.Operand.tmp 0), type := 56, pos := "ref.go:74", after := #[], guard := none }, { dst := some 16, op := Go.Op.move (Go.Operand.tmp 7), type := 3, pos := "ref.go:74", after := #[], guard := none }, { dst := some 17, op := Go.Op.indexAddr 56 (Go.Operand.tmp 15) (Go.Operand.tmp 16), type := 0, pos := "ref.go:74", after := #[{ on := 0, ground := Go.Ground.data }, { on := 1, ground := Go.Ground.data }], guard := none }, { dst := some 18, op := Go.Op.load 3 (Go.Operand.tmp 17), type := 3, pos := "ref.go:74", after := #[{ on := 2, ground := Go.Ground.data }], guard := none }, { dst := some 19, op := Go.Op.move (Go.Operand.tmp 1), type := 56, pos := "ref.go:74", after := #[], guard := none }, { dst := some 20, op := Go.Op.move (Go.Operand.tmp 7), type := 3, pos := "ref.go:74", after := #[], guard := none }, { dst := some 21, op := Go.Op.call { callee := Go.Callee.value (Go.Operand.func 94), args := #[Go.Operand.tmp 19, Go.Operand.tmp 20], argTypes := #[56, 3] }, type := 3, pos := "ref.go:74", after := #[{ on := 4, ground := Go.Ground.data }, { on := 5, ground := Go.Ground.data }], guard := none }, { dst := some 22, op := Go.Op.binOp Go.BinOp.sub 3 (Go.Operand.tmp 18) (Go.Operand.tmp 21) 3, type := 3, pos := "ref.go:74", after := #[{ on := 3, ground := Go.Ground.data }, { on := 6, ground := Go.Ground.data }], guard := none }, { dst := some 23, op := Go.Op.move (Go.Operand.tmp 6), type := 3, pos := "ref.go:74", after := #[], guard := none }, { dst := some 24, op := Go.Op.binOp Go.BinOp.sub 3 (Go.Operand.tmp 22) (Go.Operand.tmp 23) 3, type := 3, pos := "ref.go:74", after := #[{ on := 7, ground := Go.Ground.data }, { on := 8, ground := Go.Ground.data }], guard := none }, { dst := some 8, op := Go.Op.assign (Go.Operand.tmp 24), type := 3, pos := "ref.go:74", after := #[{ on := 9, ground := Go.Ground.data }, { on := 6, ground := Go.Ground.chain }, { on := 0, ground := Go.Ground.phase }, { on := 1, ground := Go.Ground.phase }, { on := 2, ground := Go.Ground.phase }, { on := 3, ground := Go.Ground.phase }, { on := 4, ground := Go.Ground.phase }, { on := 5, ground := Go.Ground.phase }, { on := 6, ground := Go.Ground.phase }, { on := 7, ground := Go.Ground.phase }, { on := 8, ground := Go.Ground.phase }, { on := 9, ground := Go.Ground.phase }], guard := none }]
def semRs (b o n i p q c ca : Nat) (yb : Option Addr) (m cb : Nat) (e1 e2 : Int) : Nat → Value → World → Prop := fun ix v _ => match ix with
  | 0 => v = .slice (some ⟨b, o, none⟩) n ca
  | 1 => v = .int .i64 (i : Int)
  | 2 => v = .pointer (some ⟨b, o + i, none⟩)
  | 3 => v = .int .i64 (p : Int)
  | 4 => v = .slice yb m cb
  | 5 => v = .int .i64 (i : Int)
  | 6 => v = .int .i64 (q : Int)
  | 7 => v = .int .i64 e1
  | 8 => v = .int .i64 (c : Int)
  | 9 => v = .int .i64 e2
  | 10 => v = .int .i64 e2
  | _ => True
set_option maxHeartbeats 2000000 in
theorem semRsR (b o n i p q c ca : Nat) (yb : Option Addr) (m cb : Nat) (e1 e2 : Int)  {Q : Exit → Act → World → Prop} {a0 : Act} {u0 : World} (hsz : a0.tmps.size = 35) (v0 : a0.tmps[0]? = some (.slice (some ⟨b, o, none⟩) n ca)) (v1 : a0.tmps[1]? = some (.slice yb m cb)) (v6 : a0.tmps[6]? = some (.int .i64 (c : Int))) (v7 : a0.tmps[7]? = some (.int .i64 (i : Int))) (hin : (i : Int) < (n : Int)) (hi0 : (0 : Int) ≤ (i : Int)) (he1 : (p : Int) - (q : Int) = e1) (we1 : IntKind.i64.wrap e1 = e1) (he2 : e1 - (c : Int) = e2) (we2 : IntKind.i64.wrap e2 = e2) (HC : Hid (∀ u, Below u0.drew.heap.size u0.drew u → u.cell? ⟨b, o + i, none⟩ = some (.int .i64 (p : Int)) ∧ Calls Tryz.prog 94 #[.slice yb m cb, .int .i64 (i : Int)] u fun e u' => e = .returned (.int .i64 (q : Int)) ∧ u' = u))
    (hfin : ∀ (vs : Nat → Value) u, (∀ ix d, ((semRsO[ix]?).bind (fun x => Oper.dst x)) = some d → semRs b o n i p q c ca yb m cb e1 e2 ix (vs ix) u) → Below u0.drew.heap.size u0.drew u → Q .normal (putFrom vs a0 semRsO.toList 0) u) : (Code.region 6 semRsO true).wp Tryz.prog Q a0 u0 := by
  unfold semRsO
  refine free_walk (Sem := semRs b o n i p q c ca yb m cb e1 e2) rfl (n := 35) (by kernel_rfl) hsz (by kernel_rfl) ?_ ?_ ?_
  · intro ix v u u' h hb
    match ix, h with
    | 0, h => exact h
    | 1, h => exact h
    | 2, h => exact h
    | 3, h => exact h
    | 4, h => exact h
    | 5, h => exact h
    | 6, h => exact h
    | 7, h => exact h
    | 8, h => exact h
    | 9, h => exact h
    | 10, h => exact h
    | _ + 11, _ => exact trivial
  · intro ix o a u ho hF hbu
    match ix, ho, hF with
    | 0, ho, hF =>
      obtain rfl := Option.some.inj ho
      have h0 : a.tmps[0]? = some (.slice (some ⟨b, o, none⟩) n ca) := (hF.out 0 rfl).trans v0
      refine free_step rfl (by rfl) (fun K' hK => ?_)
      go_simp
      exact hK.out _ _ rfl (Below.refl _ _)
    | 1, ho, hF =>
      obtain rfl := Option.some.inj ho
      have h7 : a.tmps[7]? = some (.int .i64 (i : Int)) := (hF.out 7 rfl).trans v7
      refine free_step rfl (by rfl) (fun K' hK => ?_)
      go_simp
      exact hK.out _ _ rfl (Below.refl _ _)
    | 2, ho, hF =>
      obtain rfl := Option.some.inj ho
      obtain ⟨v15, h15, s15⟩ := hF.dep 0 15 rfl rfl
      obtain rfl : v15 = .slice (some ⟨b, o, none⟩) n ca := s15
      obtain ⟨v16, h16, s16⟩ := hF.dep 1 16 rfl rfl
      obtain rfl : v16 = .int .i64 (i : Int) := s16
      refine free_step rfl (by rfl) (fun K' hK => ?_)
      go_simp
      exact hK.out _ _ rfl (Below.refl _ _)
    | 3, ho, hF =>
      obtain rfl := Option.some.inj ho
      obtain ⟨v17, h17, s17⟩ := hF.dep 2 17 rfl rfl
      obtain rfl : v17 = .pointer (some ⟨b, o + i, none⟩) := s17
      have gx := (HC.out u hbu).1
      refine free_step rfl (by rfl) (fun K' hK => ?_)
      go_simp
      exact hK.out _ _ rfl (Below.refl _ _)
    | 4, ho, hF =>
      obtain rfl := Option.some.inj ho
      have h1 : a.tmps[1]? = some (.slice yb m cb) := (hF.out 1 rfl).trans v1
      refine free_step rfl (by rfl) (fun K' hK => ?_)
      go_simp
      exact hK.out _ _ rfl (Below.refl _ _)
    | 5, ho, hF =>
      obtain rfl := Option.some.inj ho
      have h7 : a.tmps[7]? = some (.int .i64 (i : Int)) := (hF.out 7 rfl).trans v7
      refine free_step rfl (by rfl) (fun K' hK => ?_)
      go_simp
      exact hK.out _ _ rfl (Below.refl _ _)
    | 6, ho, hF =>
      obtain rfl := Option.some.inj ho
      obtain ⟨v19, h19, s19⟩ := hF.dep 4 19 rfl rfl
      obtain rfl : v19 = .slice yb m cb := s19
      obtain ⟨v20, h20, s20⟩ := hF.dep 5 20 rfl rfl
      obtain rfl : v20 = .int .i64 (i : Int) := s20
      refine free_step rfl (by rfl) (fun K' hK => ?_)
      go_wp2_with fail
      refine (HC.out u hbu).2.mono ?_
      rintro e u' ⟨rfl, rfl⟩
      go_simp
      exact hK.out _ _ rfl (Below.refl _ _)
    | 7, ho, hF =>
      obtain rfl := Option.some.inj ho
      obtain ⟨v18, h18, s18⟩ := hF.dep 3 18 rfl rfl
      obtain rfl : v18 = .int .i64 (p : Int) := s18
      obtain ⟨v21, h21, s21⟩ := hF.dep 6 21 rfl rfl
      obtain rfl : v21 = .int .i64 (q : Int) := s21
      refine free_step rfl (by rfl) (fun K' hK => ?_)
      go_simp
      exact hK.out _ _ rfl (Below.refl _ _)
    | 8, ho, hF =>
      obtain rfl := Option.some.inj ho
      have h6 : a.tmps[6]? = some (.int .i64 (c : Int)) := (hF.out 6 rfl).trans v6
      refine free_step rfl (by rfl) (fun K' hK => ?_)
      go_simp
      exact hK.out _ _ rfl (Below.refl _ _)
    | 9, ho, hF =>
      obtain rfl := Option.some.inj ho
      obtain ⟨v22, h22, s22⟩ := hF.dep 7 22 rfl rfl
      obtain rfl : v22 = .int .i64 e1 := s22
      obtain ⟨v23, h23, s23⟩ := hF.dep 8 23 rfl rfl
      obtain rfl : v23 = .int .i64 (c : Int) := s23
      refine free_step rfl (by rfl) (fun K' hK => ?_)
      go_simp
      exact hK.out _ _ rfl (Below.refl _ _)
    | 10, ho, hF =>
      obtain rfl := Option.some.inj ho
      obtain ⟨v24, h24, s24⟩ := hF.dep 9 24 rfl rfl
      obtain rfl : v24 = .int .i64 e2 := s24
      refine free_step rfl (by rfl) (fun K' hK => ?_)
      go_simp
      exact hK.out _ _ rfl (Below.refl _ _)
    | n + 11, ho, _ => exact absurd (Array.getElem?_eq_some_iff.1 ho).1 (by show ¬ n + 11 < 11; omega)
  · intro vs u hS hbu
    exact hfin vs u hS hbu
theorem dsub_step {P c i A B d c' x z : Nat} (h : P + B = A + c * 256 ^ i) (hs : d + z + c = x + c' * 256) : P + 256 ^ i * d + (B + 256 ^ i * z) = A + 256 ^ i * x + c' * 256 ^ (i + 1) := by
  rw [Nat.pow_succ]
  generalize 256 ^ i = T at *
  have h1 : T * (d + z + c) = T * (x + c' * 256) := by rw [hs]
  rw [Nat.mul_add, Nat.mul_add, Nat.mul_add, Nat.mul_comm T c, Nat.mul_left_comm] at h1
  generalize c' * (T * 256) = z1 at *
  generalize T * d = z2 at *
  generalize T * x = z3 at *
  generalize T * z = z4 at *
  generalize c * T = z5 at *
  omega
theorem own_belowS {w wr u : World} {e : TypeId} {n : Nat} {v : Value} {xs : List Value} (h : wr.ownsRow w.heap.size e 1 v n xs) (_ : Below w.heap.size w wr) (hbu : Below wr.drew.heap.size wr.drew u) : u.ownsRow w.heap.size e 1 v n xs := by
  refine ⟨h.1, ?_⟩
  rcases h.2 with h2 | ⟨g, cap, cur, hv, hg2, hh, r⟩
  · exact .inl h2
  · have h1 : Below wr.heap.size wr wr.drew := (Below.refl _ _).drew
    have h3 := h1.trans (hbu.mono h1.size)
    exact .inr ⟨g, cap, cur, hv, hg2, (h3.block g (block_lt hh)).trans hh, r⟩
set_option maxHeartbeats 4000000 in
theorem digSubU (L M : List Nat) (ya yb : Option Addr) (ca cb : Nat) (w : World) (h2 : IsN .i64 w (.slice ya L.length ca) L) (h3 : AllD L) (k2 : IsN .i64 w (.slice yb M.length cb) M) (k3 : AllD M) (hml : M.length ≤ L.length) (hln : L.length ≤ 100000) (hle : numD M ≤ numD L) :
    Calls Tryz.prog 69 #[.slice ya L.length ca, .slice yb M.length cb] w fun e w' => (∃ x, e = .returned x ∧ IsD L.length w' x (numD L - numD M) ∧ FreshS w.heap.size x) ∧ Below w.heap.size w w' := by
  obtain ⟨n, hn⟩ : ∃ n, L.length = n := ⟨_, rfl⟩
  obtain ⟨m, hm⟩ : ∃ n, M.length = n := ⟨_, rfl⟩
  have HL := show Hid (IsN .i64 w (.slice ya n ca) L ∧ AllD L ∧ L.length = n) from ⟨by rw [← hn]; exact h2, h3, hn⟩
  have HM := show Hid (IsN .i64 w (.slice yb m cb) M ∧ AllD M ∧ M.length = m ∧ m ≤ n ∧ numD M ≤ numD L) from ⟨by rw [← hm]; exact k2, k3, hm, by omega, hle⟩
  rw [hn] at hln ⊢
  rw [hm]
  clear h2 h3 k2 k3 hn hm hml hle
  go_enter Tryz.func69, Tryz.ntmps69
  go_wp2_with fail
  go_loopw [5, 6, 7] (fun v a b wr => ∃ (i c : Nat) (o : List Nat), a = .int .i64 (c : Int) ∧ b = .int .i64 (i : Int) ∧ c ≤ 1 ∧ i ≤ n ∧ wr.ownsRow w.heap.size 3 1 v o.length (kc .i64 o) ∧ Below w.heap.size w wr ∧ Hid (o.length = i ∧ AllD o ∧ numD o + numD (M.take i) = numD (L.take i) + c * 256 ^ i)) (fun _ _ b _ => n - (intOf b).toNat)
  case atStart => exact ⟨0, 0, [], rfl, rfl, by omega, by omega, own_nil _ _ _, Below.refl _ _, rfl, fun x hx => (List.not_mem_nil hx).elim, by simp [numD]⟩
  case round =>
    obtain ⟨i, c, o, rfl, rfl, hc, hiK, hown, hb, hI⟩ := hrel
    by_cases hi : i < n
    · have hin : (i : Int) < (n : Int) := by omega
      have hi0 : (0 : Int) ≤ (i : Int) := by omega
      have hdL : L[i]? = some (L.getD i 0) := by
        rw [List.getD_eq_getElem?_getD, List.getElem?_eq_getElem (by rw [HL.out.2.2]; exact hi)]
        rfl
      obtain ⟨p, hp⟩ : ∃ x, L.getD i 0 = x := ⟨_, rfl⟩
      obtain ⟨q, hq⟩ : ∃ x, M.getD i 0 = x := ⟨_, rfl⟩
      have hp8 : p < 256 := by rw [← hp]; exact getD_lt HL.out.2.1 i
      have hq8 : q < 256 := by rw [← hq]; exact getD_lt HM.out.2.1 i
      have HTK := show Hid (numD (L.take (i + 1)) = numD (L.take i) + 256 ^ i * p ∧ numD (M.take (i + 1)) = numD (M.take i) + 256 ^ i * q) from ⟨by rw [numD_takeD, hp], by rw [numD_takeD, hq]⟩
      rw [hp] at hdL
      have HLD := show Hid (L[i]? = some p) from hdL
      obtain ⟨x1, b, o1, rfl, hbl, gc⟩ := IsN.cellAt (HL.out.1.later hb) hdL
      have HA2 := show Hid (∀ u, Below wr.heap.size wr u → Calls Tryz.prog 94 #[.slice yb m cb, .int .i64 (i : Int)] u fun e u' => e = .returned (.int .i64 (q : Int)) ∧ u' = u) from fun u hu => by
        have := dAt_any yb m cb M i u ((HM.out.1.later hb).later hu) HM.out.2.2.1
        rw [hq] at this
        exact this
      have HCC := show Hid (∀ u, Below wr.drew.heap.size wr.drew u → u.cell? ⟨b, o1 + i, none⟩ = some (.int .i64 (p : Int)) ∧ Calls Tryz.prog 94 #[.slice yb m cb, .int .i64 (i : Int)] u fun e u' => e = .returned (.int .i64 (q : Int)) ∧ u' = u) from fun u hu => by
        have hbd : Below wr.heap.size wr wr.drew := (Below.refl _ _).drew
        have h5 := hbd.trans (hu.mono hbd.size)
        exact ⟨(h5.cell (p := ⟨b, o1 + i, none⟩) hbl).trans gc, HA2.out u h5⟩
      obtain ⟨e1, he1⟩ : ∃ e : Int, (p : Int) - (q : Int) = e := ⟨_, rfl⟩
      obtain ⟨e2, he2⟩ : ∃ e : Int, e1 - (c : Int) = e := ⟨_, rfl⟩
      have we1 : IntKind.i64.wrap e1 = e1 := by rw [IntKind.wrap_i64]; omega
      have we2 : IntKind.i64.wrap e2 = e2 := by rw [IntKind.wrap_i64]; omega
      have hw5 : IntKind.i64.wrap ((i : Int) + 1) = (i : Int) + 1 := by rw [IntKind.wrap_i64]; omega
      have hpl : o.length ≤ 1000000 := by have := hI.out.1; omega
      clear x1 hp hq hdL HA2 gc
      by_cases hneg : e2 < 0
      · obtain ⟨d, hd⟩ : ∃ d : Nat, e2 + 256 = (d : Int) := ⟨(e2 + 256).toNat, by omega⟩
        have hw6 : IntKind.i64.wrap (d : Int) = (d : Int) := by rw [IntKind.wrap_i64]; omega
        obtain ⟨o9, HOL⟩ : ∃ o9, Hid (o ++ [d] = o9) := ⟨_, rfl⟩
        have HI2 := show Hid (o9.length = i + 1 ∧ AllD o9 ∧ numD o9 + numD (M.take (i + 1)) = numD (L.take (i + 1)) + 1 * 256 ^ (i + 1)) from by
          obtain ⟨q1, q2, q3⟩ := hI.out
          rw [← HOL.out]
          refine ⟨by simp [q1], allD_snoc q2 (by omega), ?_⟩
          rw [numD_snoc, q1, HTK.out.1, HTK.out.2]
          exact dsub_step q3 (by omega)
        clear hI
        go_wp2_with fail
        refine semRsR b o1 n i p q c ca yb m cb e1 e2 rfl rfl rfl rfl rfl hin hi0 he1 we1 he2 we2 HCC ?_
        intro vs u hS hbu
        have e10 : vs 10 = .int .i64 e2 := hS 10 8 rfl
        unfold semRsO
        simp only [putFrom, Act.put, List.setIfInBounds_toArray, List.set_cons_succ, List.set_cons_zero, Nat.reduceAdd]
        rw [e10]
        clear hS e10
        generalize vs 0 = zz0
        generalize vs 1 = zz1
        generalize vs 2 = zz2
        generalize vs 3 = zz3
        generalize vs 4 = zz4
        generalize vs 5 = zz5
        generalize vs 6 = zz6
        generalize vs 7 = zz7
        generalize vs 8 = zz8
        generalize vs 9 = zz9
        have hb2 := below_drew hb hbu
        have hown2 := own_belowS hown hb hbu
        clear hbu hown hb
        have hbz := hb2.size
        go_wp2_with (at_builtin; go_must (refine wpList_append_n RI rfl _ _ rfl w.heap.size _ _ rfl hown2 _ rfl d rfl _ HOL hpl hbz hb2 ?_; intro v2 w2 ho2 hb3))
        go_roundw
        case rel => exact ⟨i + 1, 1, o9, by rfl, by go_num, by omega, by omega, ho2, hb3, HI2.out⟩
        case measure => simp [intOf]; omega
      · obtain ⟨d, rfl⟩ : ∃ d : Nat, e2 = (d : Int) := ⟨e2.toNat, by omega⟩
        obtain ⟨o9, HOL⟩ : ∃ o9, Hid (o ++ [d] = o9) := ⟨_, rfl⟩
        have HI2 := show Hid (o9.length = i + 1 ∧ AllD o9 ∧ numD o9 + numD (M.take (i + 1)) = numD (L.take (i + 1)) + 0 * 256 ^ (i + 1)) from by
          obtain ⟨q1, q2, q3⟩ := hI.out
          rw [← HOL.out]
          refine ⟨by simp [q1], allD_snoc q2 (by omega), ?_⟩
          rw [numD_snoc, q1, HTK.out.1, HTK.out.2]
          exact dsub_step q3 (by omega)
        have hng : ¬ (d : Int) < 0 := by omega
        clear hI
        go_wp2_with fail
        refine semRsR b o1 n i p q c ca yb m cb e1 (d : Int) rfl rfl rfl rfl rfl hin hi0 he1 we1 he2 we2 HCC ?_
        intro vs u hS hbu
        have e10 : vs 10 = .int .i64 (d : Int) := hS 10 8 rfl
        unfold semRsO
        simp only [putFrom, Act.put, List.setIfInBounds_toArray, List.set_cons_succ, List.set_cons_zero, Nat.reduceAdd]
        rw [e10]
        clear hS e10
        generalize vs 0 = zz0
        generalize vs 1 = zz1
        generalize vs 2 = zz2
        generalize vs 3 = zz3
        generalize vs 4 = zz4
        generalize vs 5 = zz5
        generalize vs 6 = zz6
        generalize vs 7 = zz7
        generalize vs 8 = zz8
        generalize vs 9 = zz9
        have hb2 := below_drew hb hbu
        have hown2 := own_belowS hown hb hbu
        clear hbu hown hb
        have hbz := hb2.size
        go_wp2_with (at_builtin; go_must (refine wpList_append_n RI rfl _ _ rfl w.heap.size _ _ rfl hown2 _ rfl d rfl _ HOL hpl hbz hb2 ?_; intro v2 w2 ho2 hb3))
        go_roundw
        case rel => exact ⟨i + 1, 0, o9, by rfl, by go_num, by omega, by omega, ho2, hb3, HI2.out⟩
        case measure => simp [intOf]; omega
    · have hin : ¬ (i : Int) < (n : Int) := by omega
      obtain rfl : i = n := by omega
      obtain ⟨y5, c5, rfl⟩ := own_shape hown
      have hT := dTrim_any y5 c5 o wr (own_n hown) (by have := hI.out.1; omega)
      have HF := show Hid (o.length ≤ i ∧ AllD o ∧ numD o = numD L - numD M ∧ Below w.heap.size w wr) from by
        obtain ⟨q1, q2, q3⟩ := hI.out
        rw [List.take_of_length_le (l := M) (by rw [HM.out.2.2.1]; exact HM.out.2.2.2.1), List.take_of_length_le (l := L) (by rw [HL.out.2.2]; exact Nat.le_refl _)] at q3
        refine ⟨by omega, q2, ?_, hb⟩
        have h1 := numD_lt q2
        have h2 := HM.out.2.2.2.2
        rw [q1] at h1
        have hc2 : c = 0 ∨ c = 1 := by omega
        rcases hc2 with rfl | rfl
        · omega
        · omega
      have HFR := show Hid (FreshS w.heap.size (.slice y5 (trimL o).length c5)) from own_fresh hown _
      clear hown hb hI
      go_wp2_with fail
      refine hT.mono ?_
      rintro e w2 ⟨rfl, hN, rfl⟩
      go_wp2_with fail
      go_ret
      exact ⟨⟨_, rfl, isD_trim hN HF.out.2.1 HF.out.2.2.1 HF.out.1, HFR.out⟩, HF.out.2.2.2⟩
theorem digSub (n m : Nat) (u v : Value) (A B : Nat) (w : World) (hu : IsD n w u A) (hv : IsD m w v B) (hn : n ≤ 100000) (hle : B ≤ A) :
    Calls Tryz.prog 69 #[u, v] w fun e w' => (∃ x, e = .returned x ∧ IsD n w' x (A - B) ∧ FreshS w.heap.size x) ∧ Below w.heap.size w w' := by
  obtain ⟨ya, ca, L, rfl, h2, h3, h4, rfl, h6⟩ := hu
  obtain ⟨yb, cb, M, rfl, k2, k3, k4, rfl, k6⟩ := hv
  refine (digSubU L M ya yb ca cb w h2 h3 k2 k3 (tidy_lenD k4 h3 hle) (by omega) hle).mono ?_
  rintro e w' ⟨⟨x, rfl, h, hf⟩, hb⟩
  exact ⟨⟨x, rfl, h.more (by omega), hf⟩, hb⟩
end Go.Proofs.YtpcmpeeflnlkpaaGreatDoor

namespace Go.Proofs.YtpcmpeeflnlkpaaGreatDoor
open Go.RowKit Ch
set_option maxRecDepth 100000


theorem below_drewQ (w : World) : ∀ n, Below w.heap.size w (w.drewN n)
  | 0 => Below.refl _ _
  | n + 1 => (below_drewQ w n).drew
theorem mul_stepD {P P0 c c' i k p p' x z V : Nat} (h : P + c * 256 ^ (i + k) = P0 + 256 ^ i * x * V) (hs : p' + c' * 256 = c + p + x * z) : P + 256 ^ (i + k) * p' + c' * 256 ^ (i + k + 1) = P0 + 256 ^ (i + k) * p + 256 ^ i * x * (V + 256 ^ k * z) := by
  have e1 : 256 ^ i * x * (V + 256 ^ k * z) = 256 ^ i * x * V + 256 ^ (i + k) * (x * z) := by
    rw [Nat.mul_add, Nat.pow_add, Nat.mul_assoc (256 ^ i) x (256 ^ k * z), Nat.mul_left_comm x, Nat.mul_assoc (256 ^ i) (256 ^ k)]
  rw [e1, Nat.pow_succ]
  generalize 256 ^ (i + k) = T at *
  have h1 : T * (p' + c' * 256) = T * (c + p + x * z) := by rw [hs]
  rw [Nat.mul_add, Nat.mul_add, Nat.mul_add, Nat.mul_comm T c, Nat.mul_left_comm] at h1
  generalize c' * (T * 256) = z1 at *
  generalize T * p' = z2 at *
  generalize T * p = z3 at *
  generalize T * (x * z) = z4 at *
  generalize c * T = z5 at *
  generalize 256 ^ i * x * V = z6 at *
  omega
theorem mul_rowD {P c i m x V R : Nat} (h : P + c * 256 ^ (i + m) = R * V + 256 ^ i * x * V) : P + 256 ^ (i + m) * c = (R + 256 ^ i * x) * V := by
  rw [Nat.add_mul, Nat.mul_comm (256 ^ (i + m)) c]
  exact h
theorem below_set {w wr : World} {g i : Nat} {v : Value} (hb : Below w.heap.size w wr) (hg : w.heap.size ≤ g) : Below w.heap.size w (wr.setCell ⟨g, i, none⟩ v) :=
  hb.grown (grown_cell wr ⟨g, i, none⟩ v) hb.size (fun b h => by obtain rfl : g = b := Option.some.inj h; exact hg)
set_option maxHeartbeats 4000000 in
theorem digMul (n m : Nat) (u v : Value) (A B : Nat) (w : World) (hu : IsD n w u A) (hv : IsD m w v B) (hn : n ≤ 100000) (hm : m ≤ 100000) :
    Calls Tryz.prog 59 #[u, v] w fun e w' => (∃ x, e = .returned x ∧ IsD (n + m) w' x (A * B)) ∧ Below w.heap.size w w' := by
  obtain ⟨ya, ca, L, rfl, h2, h3, h4, rfl, h6⟩ := hu
  obtain ⟨yb, cb, M, rfl, k2, k3, k4, rfl, k6⟩ := hv
  suffices hg : Calls Tryz.prog 59 #[.slice ya L.length ca, .slice yb M.length cb] w fun e w' => (∃ x, e = .returned x ∧ IsD (L.length + M.length) w' x (numD L * numD M)) ∧ Below w.heap.size w w' by
    refine hg.mono ?_
    rintro e w' ⟨⟨x, rfl, h⟩, hb⟩
    exact ⟨⟨x, rfl, h.more (by omega)⟩, hb⟩
  have hln : L.length ≤ 100000 := by omega
  have hlm : M.length ≤ 100000 := by omega
  clear h4 k4 h6 k6 hn hm n m
  obtain ⟨n, hn⟩ : ∃ n, L.length = n := ⟨_, rfl⟩
  obtain ⟨m, hm⟩ : ∃ n, M.length = n := ⟨_, rfl⟩
  have HL := show Hid (IsN .i64 w (.slice ya n ca) L ∧ AllD L ∧ L.length = n) from ⟨by rw [← hn]; exact h2, h3, hn⟩
  have HM := show Hid (IsN .i64 w (.slice yb m cb) M ∧ AllD M ∧ M.length = m) from ⟨by rw [← hm]; exact k2, k3, hm⟩
  rw [hn] at hln ⊢
  rw [hm] at hlm ⊢
  clear h2 h3 k2 k3 hn hm
  obtain ⟨nm, hnm⟩ : ∃ a, n + m = a := ⟨_, rfl⟩
  have hnmI : (n : Int) + (m : Int) = (nm : Int) := by omega
  have hnmw : IntKind.i64.wrap (nm : Int) = (nm : Int) := by rw [IntKind.wrap_i64]; omega
  have hnml : nm ≤ 200000 := by omega
  have HNM := show Hid (n + m = nm) from hnm
  rw [hnm]
  clear hnm
  go_enter Tryz.func59, Tryz.ntmps59
  go_wp2_with (at_make; go_must (refine wpList_make_n RI w rfl _ _ rfl .i64 .i64 _ _ nm rfl rfl rfl rfl (by omega) ?_; intro w1 ho1 hb1))
  obtain ⟨hR1, _⟩ := RowN.own ho1
  obtain ⟨g, hg⟩ : ∃ g, w.heap.size = g := ⟨_, rfl⟩
  have HG := show Hid (w.heap.size = g) from hg
  have HR1 := show Hid (RowN .i64 w1 g (List.replicate nm 0) ∧ Below w.heap.size w w1) from ⟨by rw [← hg]; exact hR1, hb1⟩
  rw [hg]
  clear ho1 hb1 hR1 hg
  go_loopw [6] (fun a wr => ∃ (i : Nat) (O : List Nat), a = .int .i64 (i : Int) ∧ i ≤ n ∧ Hid (RowN .i64 wr g O ∧ O.length = nm ∧ AllD O ∧ pd O 0 (i + m) = numD (L.take i) * numD M) ∧ Hid (Below w.heap.size w wr)) (fun a _ => n - (intOf a).toNat)
  case atStart => exact ⟨0, _, rfl, by omega, ⟨HR1.out.1, by simp, allD_zero _, by unfold pd; simp [List.take_replicate, numD_zero, numD]⟩, HR1.out.2⟩
  case round =>
    obtain ⟨i, O0, rfl, hi, hR, hb⟩ := hrel
    by_cases hin2 : i < n
    · have hin : (i : Int) < (n : Int) := by omega
      have hdL : L[i]? = some (atN L i) := atN_some (by have := HL.out.2.2; omega)
      obtain ⟨x, hx⟩ : ∃ x, atN L i = x := ⟨_, rfl⟩
      rw [hx] at hdL
      have hx8 : x < 256 := HL.out.2.1.at hdL
      have HTL := show Hid (numD (L.take (i + 1)) = numD (L.take i) + 256 ^ i * x) from numD_take hdL
      obtain ⟨x1, b, o, rfl, hbl, gc⟩ := IsN.cellAt HL.out.1 hdL
      have HGC := show Hid (b < w.heap.size ∧ w.cell? ⟨b, o + i, none⟩ = some (.int .i64 (x : Int))) from ⟨hbl, gc⟩
      clear x1 hx hdL hbl gc
      obtain ⟨wq, hwq⟩ : ∃ a, a = wr := ⟨_, rfl⟩
      subst hwq
      go_wp2_with fail
      go_loopw [7, 8] (fun a t wr => ∃ (k c : Nat) (O : List Nat), a = .int .i64 (c : Int) ∧ t = .int .i64 (k : Int) ∧ k ≤ m ∧ c < 256 ∧ Hid (RowN .i64 wr g O ∧ O.length = nm ∧ AllD O ∧ pd O 0 (i + k) + c * 256 ^ (i + k) = pd O0 0 (i + k) + 256 ^ i * x * numD (M.take k) ∧ ∀ j, i + k ≤ j → O[j]? = O0[j]?) ∧ Hid (Below w.heap.size w wr)) (fun _ t _ => m - (intOf t).toNat)
      case atStart => exact ⟨0, 0, O0, rfl, rfl, by omega, by omega, ⟨hR.out.1, hR.out.2.1, hR.out.2.2.1, by simp [numD], fun _ _ => rfl⟩, hb.out⟩
      case round =>
        obtain ⟨k, c, O, rfl, rfl, hk, hc, hI, hb⟩ := hrel
        by_cases hkm2 : k < m
        · have hkm : (k : Int) < (m : Int) := by omega
          have hdM : M[k]? = some (atN M k) := atN_some (by have := HM.out.2.2; omega)
          obtain ⟨z, hz⟩ : ∃ x, atN M k = x := ⟨_, rfl⟩
          rw [hz] at hdM
          have hz8 : z < 256 := HM.out.2.1.at hdM
          have HTM := show Hid (numD (M.take (k + 1)) = numD (M.take k) + 256 ^ k * z) from numD_take hdM
          obtain ⟨x1, b2, o2, rfl, hbl2, gc2⟩ := IsN.cellAt HM.out.1 hdM
          obtain ⟨ik, hik⟩ : ∃ a, i + k = a := ⟨_, rfl⟩
          have hikI : (i : Int) + (k : Int) = (ik : Int) := by omega
          have hikn : (ik : Int) < (nm : Int) := by have := HNM.out; omega
          have wik : IntKind.i64.wrap (ik : Int) = (ik : Int) := by rw [IntKind.wrap_i64]; omega
          have hdO : O[ik]? = some (atN O ik) := atN_some (by have := hI.out.2.1; omega)
          obtain ⟨p, hp⟩ : ∃ x, atN O ik = x := ⟨_, rfl⟩
          rw [hp] at hdO
          have hp8 : p < 256 := hI.out.2.2.1.at hdO
          obtain ⟨s1, hs1⟩ : ∃ a, c + p = a := ⟨_, rfl⟩
          obtain ⟨xz, hxz⟩ : ∃ a, x * z = a := ⟨_, rfl⟩
          have hxzl : xz ≤ 65025 := by
            rw [← hxz]
            exact Nat.mul_le_mul (show x ≤ 255 by omega) (show z ≤ 255 by omega)
          obtain ⟨s2, hs2⟩ : ∃ a, s1 + xz = a := ⟨_, rfl⟩
          have hs1I : (c : Int) + (p : Int) = (s1 : Int) := by omega
          have hxzI : (x : Int) * (z : Int) = (xz : Int) := by rw [← hxz]; simp
          have hs2I : (s1 : Int) + (xz : Int) = (s2 : Int) := by omega
          have ws1 : IntKind.i64.wrap (s1 : Int) = (s1 : Int) := by rw [IntKind.wrap_i64]; omega
          have wxz : IntKind.i64.wrap (xz : Int) = (xz : Int) := by rw [IntKind.wrap_i64]; omega
          have ws2 : IntKind.i64.wrap (s2 : Int) = (s2 : Int) := by rw [IntKind.wrap_i64]; omega
          obtain ⟨d, hd⟩ : ∃ d, s2 % 256 = d := ⟨_, rfl⟩
          obtain ⟨c', hc'⟩ : ∃ d, s2 / 256 = d := ⟨_, rfl⟩
          have hdI : (s2 : Int).tmod 256 = (d : Int) := by rw [Int.tmod_eq_emod_of_nonneg (by omega)]; omega
          have hcI : (s2 : Int).tdiv 256 = (c' : Int) := by rw [Int.tdiv_eq_ediv_of_nonneg (by omega)]; omega
          have wd : IntKind.i64.wrap (d : Int) = (d : Int) := by rw [IntKind.wrap_i64]; omega
          have wc' : IntKind.i64.wrap (c' : Int) = (c' : Int) := by rw [IntKind.wrap_i64]; omega
          have wk1 : IntKind.i64.wrap ((k : Int) + 1) = (k : Int) + 1 := by rw [IntKind.wrap_i64]; omega
          have hc'8 : c' < 256 := by omega
          have HI2 := show Hid ((O.set ik d).length = nm ∧ AllD (O.set ik d) ∧ pd (O.set ik d) 0 (i + (k + 1)) + c' * 256 ^ (i + (k + 1)) = pd O0 0 (i + (k + 1)) + 256 ^ i * x * numD (M.take (k + 1)) ∧ ∀ j, i + (k + 1) ≤ j → (O.set ik d)[j]? = O0[j]?) from by
            obtain ⟨q1, q2, q3, q4, q5⟩ := hI.out
            have e0 : O0[i + k]? = some p := by rw [← q5 _ (Nat.le_refl _), hik]; exact hdO
            refine ⟨by simp [q2], q3.set _ (by omega), ?_, fun j hj => ?_⟩
            · have e1 := pd_put (L := O) (o := 0) (i := i + k) (p := p) (p' := d) (by rw [Nat.zero_add, hik]; exact hdO)
              rw [Nat.zero_add] at e1
              rw [HTM.out, ← hik, ← Nat.add_assoc, e1, pd_succ (L := O0) (o := 0) (n := i + k) (x := p) (by rw [Nat.zero_add]; exact e0)]
              exact mul_stepD q4 (by omega)
            · rw [List.getElem?_set_ne (by omega)]
              exact q5 j (by omega)
          have hRs := hI.out.1
          have HDO := show Hid (O[ik]? = some p) from hdO
          have HRW := show Hid (RowN .i64 wr g O ∧ Below w.heap.size w wr) from ⟨hRs, hb.out⟩
          have gO := hRs.cell hdO
          have gX := (hb.out.cell (p := ⟨b, o + i, none⟩) HGC.out.1).trans HGC.out.2
          have gZ := (hb.out.cell (p := ⟨b2, o2 + k, none⟩) hbl2).trans gc2
          clear x1 hz hp hdM hdO hik hs1 hxz hs2 hd hc' hRs hI hb gc2 hbl2
          go_wp2_with fail
          go_quiet (fail)
          have hbq := below_drewQ wr nq
          generalize wr.drewN nq = u at *
          have hRu := HRW.out.1.later hbq
          have hbu2 := HRW.out.2.trans (hbq.mono HRW.out.2.size)
          clear gO gX gZ hbq
          have g7 := hRu.cell HDO.out
          have r7 := hRu.free ik
          have HS := show Hid (RowN .i64 (u.setCell ⟨g, ik, none⟩ (.int .i64 (d : Int))) g (O.set ik d) ∧ Below w.heap.size w (u.setCell ⟨g, ik, none⟩ (.int .i64 (d : Int)))) from ⟨hRu.set HDO.out d, below_set hbu2 (by rw [HG.out]; exact Nat.le_refl _)⟩
          clear hRu hbu2
          go_wp2_with fail
          go_roundw
          case rel => exact ⟨k + 1, c', O.set ik d, rfl, by go_num, by omega, hc'8, ⟨HS.out.1, HI2.out⟩, HS.out.2⟩
          case measure => simp [intOf]; omega
        · have hkm : ¬ (k : Int) < (m : Int) := by omega
          obtain rfl : k = m := by omega
          obtain ⟨im, him⟩ : ∃ a, i + k = a := ⟨_, rfl⟩
          have himI : (i : Int) + (k : Int) = (im : Int) := by omega
          have wim : IntKind.i64.wrap (im : Int) = (im : Int) := by rw [IntKind.wrap_i64]; omega
          have himn : (im : Int) < (nm : Int) := by have := HNM.out; omega
          have wi1 : IntKind.i64.wrap ((i : Int) + 1) = (i : Int) + 1 := by rw [IntKind.wrap_i64]; omega
          have hdO : O[im]? = some (atN O im) := atN_some (by have := hI.out.2.1; omega)
          have g7 := hI.out.1.cell hdO
          have r7 := hI.out.1.free im
          have HS := show Hid (RowN .i64 (wr.setCell ⟨g, im, none⟩ (.int .i64 (c : Int))) g (O.set im c) ∧ Below w.heap.size w (wr.setCell ⟨g, im, none⟩ (.int .i64 (c : Int)))) from ⟨hI.out.1.set hdO c, below_set hb.out (by rw [HG.out]; exact Nat.le_refl _)⟩
          have HI2 := show Hid ((O.set im c).length = nm ∧ AllD (O.set im c) ∧ pd (O.set im c) 0 (i + 1 + k) = numD (L.take (i + 1)) * numD M) from by
            obtain ⟨q1, q2, q3, q4, q5⟩ := hI.out
            refine ⟨by simp [q2], q3.set _ hc, ?_⟩
            have e1 := pd_put (L := O) (o := 0) (i := i + k) (p := atN O im) (p' := c) (by rw [Nat.zero_add, him]; exact hdO)
            rw [Nat.zero_add] at e1
            rw [HTL.out, show i + 1 + k = i + k + 1 by omega, ← him, e1]
            rw [hR.out.2.2.2, List.take_of_length_le (l := M) (by rw [HM.out.2.2]; exact Nat.le_refl _)] at q4
            exact mul_rowD q4
          clear him hdO hI hb
          go_wp2_with fail
          go_roundw
          case rel => exact ⟨i + 1, O.set im c, by go_num, by omega, ⟨HS.out.1, HI2.out⟩, HS.out.2⟩
          case measure => simp [intOf]; omega
    · have hin : ¬ (i : Int) < (n : Int) := by omega
      obtain rfl : i = n := by omega
      have hIN := hR.out.1.isN (o := 0) (n := nm) (c := nm) (by rw [hR.out.2.1]; omega) (Nat.le_refl _) (by omega)
      have e0 : (O0.drop 0).take nm = O0 := by rw [List.drop_zero, List.take_of_length_le (by rw [hR.out.2.1]; exact Nat.le_refl _)]
      rw [e0] at hIN
      have hzz := hR.out.2.1
      have hT := dTrim_any (some ⟨g, 0, none⟩) nm O0 wr (by rw [hzz]; exact hIN) (by omega)
      rw [hzz] at hT
      have HF := show Hid (O0.length ≤ nm ∧ AllD O0 ∧ numD O0 = numD L * numD M ∧ Below w.heap.size w wr) from by
        obtain ⟨q1, q2, q3, q4⟩ := hR.out
        rw [pd_full (by rw [q2, HNM.out]), List.take_of_length_le (l := L) (by rw [HL.out.2.2]; exact Nat.le_refl _)] at q4
        exact ⟨by omega, q3, q4, hb.out⟩
      clear hb hR hIN e0 hzz
      go_wp2_with fail
      refine hT.mono ?_
      rintro e w2 ⟨rfl, hN, rfl⟩
      go_wp2_with fail
      go_ret
      exact ⟨⟨_, rfl, isD_trim hN HF.out.2.1 HF.out.2.2.1 HF.out.1⟩, HF.out.2.2.2⟩
end Go.Proofs.YtpcmpeeflnlkpaaGreatDoor
