/-
  The document's Sub.
-/
import Derived.Test.YtpcmpeeflnlkpaaDoorQRSizeEtc
namespace Go.Proofs.YtpcmpeeflnlkpaaDoor
open Go.RowKit Ch
set_option maxRecDepth 100000

def semRsO : Array Oper := #[{ dst := some 15, op := Go.Op.move (Go.Operand.tmp 0), type := 29, pos := "ref.go:74", after := #[], guard := none }, { dst := some 16, op := Go.Op.move (Go.Operand.tmp 7), type := 3, pos := "ref.go:74", after := #[], guard := none }, { dst := some 17, op := Go.Op.indexAddr 29 (Go.Operand.tmp 15) (Go.Operand.tmp 16), type := 0, pos := "ref.go:74", after := #[{ on := 0, ground := Go.Ground.data }, { on := 1, ground := Go.Ground.data }], guard := none }, { dst := some 18, op := Go.Op.load 3 (Go.Operand.tmp 17), type := 3, pos := "ref.go:74", after := #[{ on := 2, ground := Go.Ground.data }], guard := none }, { dst := some 19, op := Go.Op.move (Go.Operand.tmp 1), type := 29, pos := "ref.go:74", after := #[], guard := none }, { dst := some 20, op := Go.Op.move (Go.Operand.tmp 7), type := 3, pos := "ref.go:74", after := #[], guard := none }, { dst := some 21, op := Go.Op.call { callee := Go.Callee.value (Go.Operand.func 29), args := #[Go.Operand.tmp 19, Go.Operand.tmp 20], argTypes := #[29, 3] }, type := 3, pos := "ref.go:74", after := #[{ on := 4, ground := Go.Ground.data }, { on := 5, ground := Go.Ground.data }], guard := none }, { dst := some 22, op := Go.Op.binOp Go.BinOp.sub 3 (Go.Operand.tmp 18) (Go.Operand.tmp 21) 3, type := 3, pos := "ref.go:74", after := #[{ on := 3, ground := Go.Ground.data }, { on := 6, ground := Go.Ground.data }], guard := none }, { dst := some 23, op := Go.Op.move (Go.Operand.tmp 6), type := 3, pos := "ref.go:74", after := #[], guard := none }, { dst := some 24, op := Go.Op.binOp Go.BinOp.sub 3 (Go.Operand.tmp 22) (Go.Operand.tmp 23) 3, type := 3, pos := "ref.go:74", after := #[{ on := 7, ground := Go.Ground.data }, { on := 8, ground := Go.Ground.data }], guard := none }, { dst := some 8, op := Go.Op.assign (Go.Operand.tmp 24), type := 3, pos := "ref.go:74", after := #[{ on := 9, ground := Go.Ground.data }, { on := 6, ground := Go.Ground.chain }, { on := 0, ground := Go.Ground.phase }, { on := 1, ground := Go.Ground.phase }, { on := 2, ground := Go.Ground.phase }, { on := 3, ground := Go.Ground.phase }, { on := 4, ground := Go.Ground.phase }, { on := 5, ground := Go.Ground.phase }, { on := 6, ground := Go.Ground.phase }, { on := 7, ground := Go.Ground.phase }, { on := 8, ground := Go.Ground.phase }, { on := 9, ground := Go.Ground.phase }], guard := none }]
def semRs (b o n i p q c ca : Nat) (yb : Option Addr) (m cb : Nat) (e1 e2 : Int) : Nat → Value → World → Prop := fun ix v _ => match ix with
  | 0 => v = .slice (some ⟨b, o, none⟩) n ca
  | 1 => v = .int .i64 (i : Int)
  | 2 => v = .pointer (some ⟨b, o + i, none⟩)
  | 3 => v = .int .i64 (p : Int)
  | 4 => v = .slice yb m cb
  | 5 => v = .int .i64 (i : Int)
  | 6 => v = .int .i64 (q : Int)
  | 7 => v = .int .i64 e1
  | 8 => v = .int .i64 (c : Int)
  | 9 => v = .int .i64 e2
  | 10 => v = .int .i64 e2
  | _ => True
set_option maxHeartbeats 2000000 in
theorem semRsR (b o n i p q c ca : Nat) (yb : Option Addr) (m cb : Nat) (e1 e2 : Int)  {Q : Exit → Act → World → Prop} {a0 : Act} {u0 : World} (hsz : a0.tmps.size = 35) (v0 : a0.tmps[0]? = some (.slice (some ⟨b, o, none⟩) n ca)) (v1 : a0.tmps[1]? = some (.slice yb m cb)) (v6 : a0.tmps[6]? = some (.int .i64 (c : Int))) (v7 : a0.tmps[7]? = some (.int .i64 (i : Int))) (hin : (i : Int) < (n : Int)) (hi0 : (0 : Int) ≤ (i : Int)) (he1 : (p : Int) - (q : Int) = e1) (we1 : IntKind.i64.wrap e1 = e1) (he2 : e1 - (c : Int) = e2) (we2 : IntKind.i64.wrap e2 = e2) (HC : Hid (∀ u, Below u0.drew.heap.size u0.drew u → u.cell? ⟨b, o + i, none⟩ = some (.int .i64 (p : Int)) ∧ Calls Tryd.prog 29 #[.slice yb m cb, .int .i64 (i : Int)] u fun e u' => e = .returned (.int .i64 (q : Int)) ∧ u' = u))
    (hfin : ∀ (vs : Nat → Value) u, (∀ ix d, ((semRsO[ix]?).bind (fun x => Oper.dst x)) = some d → semRs b o n i p q c ca yb m cb e1 e2 ix (vs ix) u) → Below u0.drew.heap.size u0.drew u → Q .normal (putFrom vs a0 semRsO.toList 0) u) : (Code.region 6 semRsO true).wp Tryd.prog Q a0 u0 := by
  unfold semRsO
  refine free_walk (Sem := semRs b o n i p q c ca yb m cb e1 e2) rfl (n := 35) (by kernel_rfl) hsz (by kernel_rfl) ?_ ?_ ?_
  · intro ix v u u' h hb
    match ix, h with
    | 0, h => exact h
    | 1, h => exact h
    | 2, h => exact h
    | 3, h => exact h
    | 4, h => exact h
    | 5, h => exact h
    | 6, h => exact h
    | 7, h => exact h
    | 8, h => exact h
    | 9, h => exact h
    | 10, h => exact h
    | _ + 11, _ => exact trivial
  · intro ix o a u ho hF hbu
    match ix, ho, hF with
    | 0, ho, hF =>
      obtain rfl := Option.some.inj ho
      have h0 : a.tmps[0]? = some (.slice (some ⟨b, o, none⟩) n ca) := (hF.out 0 rfl).trans v0
      refine free_step rfl (by rfl) (fun K' hK => ?_)
      go_simp
      exact hK.out _ _ rfl (Below.refl _ _)
    | 1, ho, hF =>
      obtain rfl := Option.some.inj ho
      have h7 : a.tmps[7]? = some (.int .i64 (i : Int)) := (hF.out 7 rfl).trans v7
      refine free_step rfl (by rfl) (fun K' hK => ?_)
      go_simp
      exact hK.out _ _ rfl (Below.refl _ _)
    | 2, ho, hF =>
      obtain rfl := Option.some.inj ho
      obtain ⟨v15, h15, s15⟩ := hF.dep 0 15 rfl rfl
      obtain rfl : v15 = .slice (some ⟨b, o, none⟩) n ca := s15
      obtain ⟨v16, h16, s16⟩ := hF.dep 1 16 rfl rfl
      obtain rfl : v16 = .int .i64 (i : Int) := s16
      refine free_step rfl (by rfl) (fun K' hK => ?_)
      go_simp
      exact hK.out _ _ rfl (Below.refl _ _)
    | 3, ho, hF =>
      obtain rfl := Option.some.inj ho
      obtain ⟨v17, h17, s17⟩ := hF.dep 2 17 rfl rfl
      obtain rfl : v17 = .pointer (some ⟨b, o + i, none⟩) := s17
      have gx := (HC.out u hbu).1
      refine free_step rfl (by rfl) (fun K' hK => ?_)
      go_simp
      exact hK.out _ _ rfl (Below.refl _ _)
    | 4, ho, hF =>
      obtain rfl := Option.some.inj ho
      have h1 : a.tmps[1]? = some (.slice yb m cb) := (hF.out 1 rfl).trans v1
      refine free_step rfl (by rfl) (fun K' hK => ?_)
      go_simp
      exact hK.out _ _ rfl (Below.refl _ _)
    | 5, ho, hF =>
      obtain rfl := Option.some.inj ho
      have h7 : a.tmps[7]? = some (.int .i64 (i : Int)) := (hF.out 7 rfl).trans v7
      refine free_step rfl (by rfl) (fun K' hK => ?_)
      go_simp
      exact hK.out _ _ rfl (Below.refl _ _)
    | 6, ho, hF =>
      obtain rfl := Option.some.inj ho
      obtain ⟨v19, h19, s19⟩ := hF.dep 4 19 rfl rfl
      obtain rfl : v19 = .slice yb m cb := s19
      obtain ⟨v20, h20, s20⟩ := hF.dep 5 20 rfl rfl
      obtain rfl : v20 = .int .i64 (i : Int) := s20
      refine free_step rfl (by rfl) (fun K' hK => ?_)
      go_wp2_with fail
      refine (HC.out u hbu).2.mono ?_
      rintro e u' ⟨rfl, rfl⟩
      go_simp
      exact hK.out _ _ rfl (Below.refl _ _)
    | 7, ho, hF =>
      obtain rfl := Option.some.inj ho
      obtain ⟨v18, h18, s18⟩ := hF.dep 3 18 rfl rfl
      obtain rfl : v18 = .int .i64 (p : Int) := s18
      obtain ⟨v21, h21, s21⟩ := hF.dep 6 21 rfl rfl
      obtain rfl : v21 = .int .i64 (q : Int) := s21
      refine free_step rfl (by rfl) (fun K' hK => ?_)
      go_simp
      exact hK.out _ _ rfl (Below.refl _ _)
    | 8, ho, hF =>
      obtain rfl := Option.some.inj ho
      have h6 : a.tmps[6]? = some (.int .i64 (c : Int)) := (hF.out 6 rfl).trans v6
      refine free_step rfl (by rfl) (fun K' hK => ?_)
      go_simp
      exact hK.out _ _ rfl (Below.refl _ _)
    | 9, ho, hF =>
      obtain rfl := Option.some.inj ho
      obtain ⟨v22, h22, s22⟩ := hF.dep 7 22 rfl rfl
      obtain rfl : v22 = .int .i64 e1 := s22
      obtain ⟨v23, h23, s23⟩ := hF.dep 8 23 rfl rfl
      obtain rfl : v23 = .int .i64 (c : Int) := s23
      refine free_step rfl (by rfl) (fun K' hK => ?_)
      go_simp
      exact hK.out _ _ rfl (Below.refl _ _)
    | 10, ho, hF =>
      obtain rfl := Option.some.inj ho
      obtain ⟨v24, h24, s24⟩ := hF.dep 9 24 rfl rfl
      obtain rfl : v24 = .int .i64 e2 := s24
      refine free_step rfl (by rfl) (fun K' hK => ?_)
      go_simp
      exact hK.out _ _ rfl (Below.refl _ _)
    | n + 11, ho, _ => exact absurd (Array.getElem?_eq_some_iff.1 ho).1 (by show ¬ n + 11 < 11; omega)
  · intro vs u hS hbu
    exact hfin vs u hS hbu
theorem dsub_step {P c i A B d c' x z : Nat} (h : P + B = A + c * 256 ^ i) (hs : d + z + c = x + c' * 256) : P + 256 ^ i * d + (B + 256 ^ i * z) = A + 256 ^ i * x + c' * 256 ^ (i + 1) := by
  rw [Nat.pow_succ]
  generalize 256 ^ i = T at *
  have h1 : T * (d + z + c) = T * (x + c' * 256) := by rw [hs]
  rw [Nat.mul_add, Nat.mul_add, Nat.mul_add, Nat.mul_comm T c, Nat.mul_left_comm] at h1
  generalize c' * (T * 256) = z1 at *
  generalize T * d = z2 at *
  generalize T * x = z3 at *
  generalize T * z = z4 at *
  generalize c * T = z5 at *
  omega
theorem own_belowS {w wr u : World} {e : TypeId} {n : Nat} {v : Value} {xs : List Value} (h : wr.ownsRow w.heap.size e 1 v n xs) (_ : Below w.heap.size w wr) (hbu : Below wr.drew.heap.size wr.drew u) : u.ownsRow w.heap.size e 1 v n xs := by
  refine ⟨h.1, ?_⟩
  rcases h.2 with h2 | ⟨g, cap, cur, hv, hg2, hh, r⟩
  · exact .inl h2
  · have h1 : Below wr.heap.size wr wr.drew := (Below.refl _ _).drew
    have h3 := h1.trans (hbu.mono h1.size)
    exact .inr ⟨g, cap, cur, hv, hg2, (h3.block g (block_lt hh)).trans hh, r⟩
set_option maxHeartbeats 4000000 in
theorem digSubU (L M : List Nat) (ya yb : Option Addr) (ca cb : Nat) (w : World) (h2 : IsN .i64 w (.slice ya L.length ca) L) (h3 : AllD L) (k2 : IsN .i64 w (.slice yb M.length cb) M) (k3 : AllD M) (hml : M.length ≤ L.length) (hln : L.length ≤ 100000) (hle : numD M ≤ numD L) :
    Calls Tryd.prog 10 #[.slice ya L.length ca, .slice yb M.length cb] w fun e w' => (∃ x, e = .returned x ∧ IsD L.length w' x (numD L - numD M) ∧ FreshS w.heap.size x) ∧ Below w.heap.size w w' := by
  obtain ⟨n, hn⟩ : ∃ n, L.length = n := ⟨_, rfl⟩
  obtain ⟨m, hm⟩ : ∃ n, M.length = n := ⟨_, rfl⟩
  have HL := show Hid (IsN .i64 w (.slice ya n ca) L ∧ AllD L ∧ L.length = n) from ⟨by rw [← hn]; exact h2, h3, hn⟩
  have HM := show Hid (IsN .i64 w (.slice yb m cb) M ∧ AllD M ∧ M.length = m ∧ m ≤ n ∧ numD M ≤ numD L) from ⟨by rw [← hm]; exact k2, k3, hm, by omega, hle⟩
  rw [hn] at hln ⊢
  rw [hm]
  clear h2 h3 k2 k3 hn hm hml hle
  go_enter Tryd.func10, Tryd.ntmps10
  go_wp2_with fail
  go_loopw [5, 6, 7] (fun v a b wr => ∃ (i c : Nat) (o : List Nat), a = .int .i64 (c : Int) ∧ b = .int .i64 (i : Int) ∧ c ≤ 1 ∧ i ≤ n ∧ wr.ownsRow w.heap.size 3 1 v o.length (kc .i64 o) ∧ Below w.heap.size w wr ∧ Hid (o.length = i ∧ AllD o ∧ numD o + numD (M.take i) = numD (L.take i) + c * 256 ^ i)) (fun _ _ b _ => n - (intOf b).toNat)
  case atStart => exact ⟨0, 0, [], rfl, rfl, by omega, by omega, own_nil _ _ _, Below.refl _ _, rfl, fun x hx => (List.not_mem_nil hx).elim, by simp [numD]⟩
  case round =>
    obtain ⟨i, c, o, rfl, rfl, hc, hiK, hown, hb, hI⟩ := hrel
    by_cases hi : i < n
    · have hin : (i : Int) < (n : Int) := by omega
      have hi0 : (0 : Int) ≤ (i : Int) := by omega
      have hdL : L[i]? = some (L.getD i 0) := by
        rw [List.getD_eq_getElem?_getD, List.getElem?_eq_getElem (by rw [HL.out.2.2]; exact hi)]
        rfl
      obtain ⟨p, hp⟩ : ∃ x, L.getD i 0 = x := ⟨_, rfl⟩
      obtain ⟨q, hq⟩ : ∃ x, M.getD i 0 = x := ⟨_, rfl⟩
      have hp8 : p < 256 := by rw [← hp]; exact getD_lt HL.out.2.1 i
      have hq8 : q < 256 := by rw [← hq]; exact getD_lt HM.out.2.1 i
      have HTK := show Hid (numD (L.take (i + 1)) = numD (L.take i) + 256 ^ i * p ∧ numD (M.take (i + 1)) = numD (M.take i) + 256 ^ i * q) from ⟨by rw [numD_takeD, hp], by rw [numD_takeD, hq]⟩
      rw [hp] at hdL
      have HLD := show Hid (L[i]? = some p) from hdL
      obtain ⟨x1, b, o1, rfl, hbl, gc⟩ := IsN.cellAt (HL.out.1.later hb) hdL
      have HA2 := show Hid (∀ u, Below wr.heap.size wr u → Calls Tryd.prog 29 #[.slice yb m cb, .int .i64 (i : Int)] u fun e u' => e = .returned (.int .i64 (q : Int)) ∧ u' = u) from fun u hu => by
        have := dAt_any yb m cb M i u ((HM.out.1.later hb).later hu) HM.out.2.2.1
        rw [hq] at this
        exact this
      have HCC := show Hid (∀ u, Below wr.drew.heap.size wr.drew u → u.cell? ⟨b, o1 + i, none⟩ = some (.int .i64 (p : Int)) ∧ Calls Tryd.prog 29 #[.slice yb m cb, .int .i64 (i : Int)] u fun e u' => e = .returned (.int .i64 (q : Int)) ∧ u' = u) from fun u hu => by
        have hbd : Below wr.heap.size wr wr.drew := (Below.refl _ _).drew
        have h5 := hbd.trans (hu.mono hbd.size)
        exact ⟨(h5.cell (p := ⟨b, o1 + i, none⟩) hbl).trans gc, HA2.out u h5⟩
      obtain ⟨e1, he1⟩ : ∃ e : Int, (p : Int) - (q : Int) = e := ⟨_, rfl⟩
      obtain ⟨e2, he2⟩ : ∃ e : Int, e1 - (c : Int) = e := ⟨_, rfl⟩
      have we1 : IntKind.i64.wrap e1 = e1 := by rw [IntKind.wrap_i64]; omega
      have we2 : IntKind.i64.wrap e2 = e2 := by rw [IntKind.wrap_i64]; omega
      have hw5 : IntKind.i64.wrap ((i : Int) + 1) = (i : Int) + 1 := by rw [IntKind.wrap_i64]; omega
      have hpl : o.length ≤ 1000000 := by have := hI.out.1; omega
      clear x1 hp hq hdL HA2 gc
      by_cases hneg : e2 < 0
      · obtain ⟨d, hd⟩ : ∃ d : Nat, e2 + 256 = (d : Int) := ⟨(e2 + 256).toNat, by omega⟩
        have hw6 : IntKind.i64.wrap (d : Int) = (d : Int) := by rw [IntKind.wrap_i64]; omega
        obtain ⟨o9, HOL⟩ : ∃ o9, Hid (o ++ [d] = o9) := ⟨_, rfl⟩
        have HI2 := show Hid (o9.length = i + 1 ∧ AllD o9 ∧ numD o9 + numD (M.take (i + 1)) = numD (L.take (i + 1)) + 1 * 256 ^ (i + 1)) from by
          obtain ⟨q1, q2, q3⟩ := hI.out
          rw [← HOL.out]
          refine ⟨by simp [q1], allD_snoc q2 (by omega), ?_⟩
          rw [numD_snoc, q1, HTK.out.1, HTK.out.2]
          exact dsub_step q3 (by omega)
        clear hI
        go_wp2_with fail
        refine semRsR b o1 n i p q c ca yb m cb e1 e2 rfl rfl rfl rfl rfl hin hi0 he1 we1 he2 we2 HCC ?_
        intro vs u hS hbu
        have e10 : vs 10 = .int .i64 e2 := hS 10 8 rfl
        unfold semRsO
        simp only [putFrom, Act.put, List.setIfInBounds_toArray, List.set_cons_succ, List.set_cons_zero, Nat.reduceAdd]
        rw [e10]
        clear hS e10
        generalize vs 0 = zz0
        generalize vs 1 = zz1
        generalize vs 2 = zz2
        generalize vs 3 = zz3
        generalize vs 4 = zz4
        generalize vs 5 = zz5
        generalize vs 6 = zz6
        generalize vs 7 = zz7
        generalize vs 8 = zz8
        generalize vs 9 = zz9
        have hb2 := below_drew hb hbu
        have hown2 := own_belowS hown hb hbu
        clear hbu hown hb
        have hbz := hb2.size
        go_wp2_with (at_builtin; go_must (refine wpList_append_n RI rfl _ _ rfl w.heap.size _ _ rfl hown2 _ rfl d rfl _ HOL hpl hbz hb2 ?_; intro v2 w2 ho2 hb3))
        go_roundw
        case rel => exact ⟨i + 1, 1, o9, by rfl, by go_num, by omega, by omega, ho2, hb3, HI2.out⟩
        case measure => simp [intOf]; omega
      · obtain ⟨d, rfl⟩ : ∃ d : Nat, e2 = (d : Int) := ⟨e2.toNat, by omega⟩
        obtain ⟨o9, HOL⟩ : ∃ o9, Hid (o ++ [d] = o9) := ⟨_, rfl⟩
        have HI2 := show Hid (o9.length = i + 1 ∧ AllD o9 ∧ numD o9 + numD (M.take (i + 1)) = numD (L.take (i + 1)) + 0 * 256 ^ (i + 1)) from by
          obtain ⟨q1, q2, q3⟩ := hI.out
          rw [← HOL.out]
          refine ⟨by simp [q1], allD_snoc q2 (by omega), ?_⟩
          rw [numD_snoc, q1, HTK.out.1, HTK.out.2]
          exact dsub_step q3 (by omega)
        have hng : ¬ (d : Int) < 0 := by omega
        clear hI
        go_wp2_with fail
        refine semRsR b o1 n i p q c ca yb m cb e1 (d : Int) rfl rfl rfl rfl rfl hin hi0 he1 we1 he2 we2 HCC ?_
        intro vs u hS hbu
        have e10 : vs 10 = .int .i64 (d : Int) := hS 10 8 rfl
        unfold semRsO
        simp only [putFrom, Act.put, List.setIfInBounds_toArray, List.set_cons_succ, List.set_cons_zero, Nat.reduceAdd]
        rw [e10]
        clear hS e10
        generalize vs 0 = zz0
        generalize vs 1 = zz1
        generalize vs 2 = zz2
        generalize vs 3 = zz3
        generalize vs 4 = zz4
        generalize vs 5 = zz5
        generalize vs 6 = zz6
        generalize vs 7 = zz7
        generalize vs 8 = zz8
        generalize vs 9 = zz9
        have hb2 := below_drew hb hbu
        have hown2 := own_belowS hown hb hbu
        clear hbu hown hb
        have hbz := hb2.size
        go_wp2_with (at_builtin; go_must (refine wpList_append_n RI rfl _ _ rfl w.heap.size _ _ rfl hown2 _ rfl d rfl _ HOL hpl hbz hb2 ?_; intro v2 w2 ho2 hb3))
        go_roundw
        case rel => exact ⟨i + 1, 0, o9, by rfl, by go_num, by omega, by omega, ho2, hb3, HI2.out⟩
        case measure => simp [intOf]; omega
    · have hin : ¬ (i : Int) < (n : Int) := by omega
      obtain rfl : i = n := by omega
      obtain ⟨y5, c5, rfl⟩ := own_shape hown
      have hT := dTrim_any y5 c5 o wr (own_n hown) (by have := hI.out.1; omega)
      have HF := show Hid (o.length ≤ i ∧ AllD o ∧ numD o = numD L - numD M ∧ Below w.heap.size w wr) from by
        obtain ⟨q1, q2, q3⟩ := hI.out
        rw [List.take_of_length_le (l := M) (by rw [HM.out.2.2.1]; exact HM.out.2.2.2.1), List.take_of_length_le (l := L) (by rw [HL.out.2.2]; exact Nat.le_refl _)] at q3
        refine ⟨by omega, q2, ?_, hb⟩
        have h1 := numD_lt q2
        have h2 := HM.out.2.2.2.2
        rw [q1] at h1
        have hc2 : c = 0 ∨ c = 1 := by omega
        rcases hc2 with rfl | rfl
        · omega
        · omega
      have HFR := show Hid (FreshS w.heap.size (.slice y5 (trimL o).length c5)) from own_fresh hown _
      clear hown hb hI
      go_wp2_with fail
      refine hT.mono ?_
      rintro e w2 ⟨rfl, hN, rfl⟩
      go_wp2_with fail
      go_ret
      exact ⟨⟨_, rfl, isD_trim hN HF.out.2.1 HF.out.2.2.1 HF.out.1, HFR.out⟩, HF.out.2.2.2⟩
theorem digSub (n m : Nat) (u v : Value) (A B : Nat) (w : World) (hu : IsD n w u A) (hv : IsD m w v B) (hn : n ≤ 100000) (hle : B ≤ A) :
    Calls Tryd.prog 10 #[u, v] w fun e w' => (∃ x, e = .returned x ∧ IsD n w' x (A - B) ∧ FreshS w.heap.size x) ∧ Below w.heap.size w w' := by
  obtain ⟨ya, ca, L, rfl, h2, h3, h4, rfl, h6⟩ := hu
  obtain ⟨yb, cb, M, rfl, k2, k3, k4, rfl, k6⟩ := hv
  refine (digSubU L M ya yb ca cb w h2 h3 k2 k3 (tidy_lenD k4 h3 hle) (by omega) hle).mono ?_
  rintro e w' ⟨⟨x, rfl, h, hf⟩, hb⟩
  exact ⟨⟨x, rfl, h.more (by omega), hf⟩, hb⟩
end Go.Proofs.YtpcmpeeflnlkpaaDoor
