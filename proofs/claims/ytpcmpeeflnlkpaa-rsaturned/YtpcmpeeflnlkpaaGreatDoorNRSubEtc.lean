/-
  
  
  
-/
import Derived.Test.YtpcmpeeflnlkpaaGreatDoorQRSizeEtc
/-
  The document's Sub.
-/
namespace Go.Proofs.YtpcmpeeflnlkpaaGreatDoor
open Go.RowKit Ch
set_option maxRecDepth 100000

def semRsO : Array Oper := #[{ dst := some 15, op := Go.Op.move (Go.Operand.tmp 0), type := 56, pos := "ref.go:74", after := #[], guard := none }, { dst := some 16, op := Go.Op.move (Go.Operand.tmp 7), type := 3, pos := "ref.go:74", after := #[], guard := none }, { dst := some 17, op := Go.Op.indexAddr 56 (Go.Operand.tmp 15) (Go.Operand.tmp 16), type := 0, pos := "ref.go:74", after := #[{ on := 0, ground := Go.Ground.data }, { on := 1, ground := Go.Ground.data }], guard := none }, { dst := some 18, op := Go.Op.load 3 (Go.Operand.tmp 17), type := 3, pos := "ref.go:74", after := #[{ on := 2, ground := Go.Ground.data }], guard := none }, { dst := some 19, op := Go.Op.move (Go.Operand.tmp 1), type := 56, pos := "ref.go:74", after := #[], guard := none }, { dst := some 20, op := Go.Op.move (Go.Operand.tmp 7), type := 3, pos := "ref.go:74", after := #[], guard := none }, { dst := some 21, op := Go.Op.call { callee := Go.Callee.value (Go.Operand.func 94), args := #[Go.Operand.tmp 19, Go.Operand.tmp 20], argTypes := #[56, 3] }, type := 3, pos := "ref.go:74", after := #[{ on := 4, ground := Go.Ground.data }, { on := 5, ground := Go.Ground.data }], guard := none }, { dst := some 22, op := Go.Op.binOp Go.BinOp.sub 3 (Go.Operand.tmp 18) (Go.Operand.tmp 21) 3, type := 3, pos := "ref.go:74", after := #[{ on := 3, ground := Go.Ground.data }, { on := 6, ground := Go.Ground.data }], guard := none }, { dst := some 23, op := Go.Op.move (Go.Operand.tmp 6), type := 3, pos := "ref.go:74", after := #[], guard := none }, { dst := some 24, op := Go.Op.binOp Go.BinOp.sub 3 (Go.Operand.tmp 22) (Go.Operand.tmp 23) 3, type := 3, pos := "ref.go:74", after := #[{ on := 7, ground := Go.Ground.data }, { on := 8, ground := Go.Ground.data }], guard := none }, { dst := some 8, op := Go.Op.assign (Go.Operand.tmp 24), type := 3, pos := "ref.go:74", after := #[{ on := 9, ground := Go.Ground.data }, { on := 6, ground := Go.Ground.chain }, { on := 0, ground := Go.Ground.phase }, { on := 1, ground := Go.Ground.phase }, { on := 2, ground := Go.Ground.phase }, { on := 3, ground := Go.Ground.phase }, { on := 4, ground := Go.Ground.phase }, { on := 5, ground := Go.Ground.phase }, { on := 6, ground := Go.Ground.phase }, { on := 7, ground := Go.Ground.phase }, { on := 8, ground := Go.Ground.phase }, { on := 9, ground := Go.Ground.phase }], guard := none }]
def semRs (b o n i p q c ca : Nat) (yb : Option Addr) (m cb : Nat) (e1 e2 : Int) : Nat → Value → World → Prop := fun ix v _ => match ix with
  | 0 => v = .slice (some ⟨b, o, none⟩) n ca
  | 1 => v = .int .i64 (i : Int)
  | 2 => v = .pointer (some ⟨b, o + i, none⟩)
  | 3 => v = .int .i64 (p : Int)
  | 4 => v = .slice yb m cb
  | 5 => v = .int .i64 (i : Int)
  | 6 => v = .int .i64 (q : Int)
  | 7 => v = .int .i64 e1
  | 8 => v = .int .i64 (c : Int)
  | 9 => v = .int .i64 e2
  | 10 => v = .int .i64 e2
  | _ => True
set_option maxHeartbeats 2000000 in
theorem semRsR (b o n i p q c ca : Nat) (yb : Option Addr) (m cb : Nat) (e1 e2 : Int)  {Q : Exit → Act → World → Prop} {a0 : Act} {u0 : World} (hsz : a0.tmps.size = 35) (v0 : a0.tmps[0]? = some (.slice (some ⟨b, o, none⟩) n ca)) (v1 : a0.tmps[1]? = some (.slice yb m cb)) (v6 : a0.tmps[6]? = some (.int .i64 (c : Int))) (v7 : a0.tmps[7]? = some (.int .i64 (i : Int))) (hin : (i : Int) < (n : Int)) (hi0 : (0 : Int) ≤ (i : Int)) (he1 : (p : Int) - (q : Int) = e1) (we1 : IntKind.i64.wrap e1 = e1) (he2 : e1 - (c : Int) = e2) (we2 : IntKind.i64.wrap e2 = e2) (HC : Hid (∀ u, Below u0.drew.heap.size u0.drew u → u.cell? ⟨b, o + i, none⟩ = some (.int .i64 (p : Int)) ∧ Calls Tryz.prog 94 #[.slice yb m cb, .int .i64 (i : Int)] u fun e u' => e = .returned (.int .i64 (q : Int)) ∧ u' = u))
    (hfin : ∀ (vs : Nat → Value) u, (∀ ix d, ((semRsO[ix]?).bind (fun x => Oper.dst x)) = some d → semRs b o n i p q c ca yb m cb e1 e2 ix (vs ix) u) → Below u0.drew.heap.size u0.drew u → Q .normal (putFrom vs a0 semRsO.toList 0) u) : (Code.region 6 semRsO true).wp Tryz.prog Q a0 u0 := by
  unfold semRsO
  refine free_walk (Sem := semRs b o n i p q c ca yb m cb e1 e2) rfl (n := 35) (by kernel_rfl) hsz (by kernel_rfl) ?_ ?_ ?_
  · intro ix v u u' h hb
    match ix, h with
    | 0, h => exact h
    | 1, h => exact h
    | 2, h => exact h
    | 3, h => exact h
    | 4, h => exact h
    | 5, h => exact h
    | 6, h => exact h
    | 7, h => exact h
    | 8, h => exact h
    | 9, h => exact h
    | 10, h => exact h
    | _ + 11, _ => exact trivial
  · intro ix o a u ho hF hbu
    match ix, ho, hF with
    | 0, ho, hF =>
      obtain rfl := Option.some.inj ho
      have h0 : a.tmps[0]? = some (.slice (some ⟨b, o, none⟩) n ca) := (hF.out 0 rfl).trans v0
      refine free_step rfl (by rfl) (fun K' hK => ?_)
      go_simp
      exact hK.out _ _ rfl (Below.refl _ _)
    | 1, ho, hF =>
      obtain rfl := Option.some.inj ho
      have h7 : a.tmps[7]? = some (.int .i64 (i : Int)) := (hF.out 7 rfl).trans v7
      refine free_step rfl (by rfl) (fun K' hK => ?_)
      go_simp
      exact hK.out _ _ rfl (Below.refl _ _)
    | 2, ho, hF =>
      obtain rfl := Option.some.inj ho
      obtain ⟨v15, h15, s15⟩ := hF.dep 0 15 rfl rfl
      obtain rfl : v15 = .slice (some ⟨b, o, none⟩) n ca := s15
      obtain ⟨v16, h16, s16⟩ := hF.dep 1 16 rfl rfl
      obtain rfl : v16 = .int .i64 (i : Int) := s16
      refine free_step rfl (by rfl) (fun K' hK => ?_)
      go_simp
      exact hK.out _ _ rfl (Below.refl _ _)
    | 3, ho, hF =>
      obtain rfl := Option.some.inj ho
      obtain ⟨v17, h17, s17⟩ := hF.dep 2 17 rfl rfl
      obtain rfl : v17 = .pointer (some ⟨b, o + i, none⟩) := s17
      have gx := (HC.out u hbu).1
      refine free_step rfl (by rfl) (fun K' hK => ?_)
      go_simp
      exact hK.out _ _ rfl (Below.refl _ _)
    | 4, ho, hF =>
      obtain rfl := Option.some.inj ho
      have h1 : a.tmps[1]? = some (.slice yb m cb) := (hF.out 1 rfl).trans v1
      refine free_step rfl (by rfl) (fun K' hK => ?_)
      go_simp
      exact hK.out _ _ rfl (Below.refl _ _)
    | 5, ho, hF =>
      obtain rfl := Option.some.inj ho
      have h7 : a.tmps[7]? = some (.int .i64 (i : Int)) := (hF.out 7 rfl).trans v7
      refine free_step rfl (by rfl) (fun K' hK => ?_)
      go_simp
      exact hK.out _ _ rfl (Below.refl _ _)
    | 6, ho, hF =>
      obtain rfl := Option.some.inj ho
      obtain ⟨v19, h19, s19⟩ := hF.dep 4 19 rfl rfl
      obtain rfl : v19 = .slice yb m cb := s19
      obtain ⟨v20, h20, s20⟩ := hF.dep 5 20 rfl rfl
      obtain rfl : v20 = .int .i64 (i : Int) := s20
      refine free_step rfl (by rfl) (fun K' hK => ?_)
      go_wp2_with fail
      refine (HC.out u hbu).2.mono ?_
      rintro e u' ⟨rfl, rfl⟩
      go_simp
      exact hK.out _ _ rfl (Below.refl _ _)
    | 7, ho, hF =>
      obtain rfl := Option.some.inj ho
      obtain ⟨v18, h18, s18⟩ := hF.dep 3 18 rfl rfl
      obtain rfl : v18 = .int .i64 (p : Int) := s18
      obtain ⟨v21, h21, s21⟩ := hF.dep 6 21 rfl rfl
      obtain rfl : v21 = .int .i64 (q : Int) := s21
      refine free_step rfl (by rfl) (fun K' hK => ?_)
      go_simp
      exact hK.out _ _ rfl (Below.refl _ _)
    | 8, ho, hF =>
      obtain rfl := Option.some.inj ho
      have h6 : a.tmps[6]? = some (.int .i64 (c : Int)) := (hF.out 6 rfl).trans v6
      refine free_step rfl (by rfl) (fun K' hK => ?_)
      go_simp
      exact hK.out _ _ rfl (Below.refl _ _)
    | 9, ho, hF =>
      obtain rfl := Option.some.inj ho
      obtain ⟨v22, h22, s22⟩ := hF.dep 7 22 rfl rfl
      obtain rfl : v22 = .int .i64 e1 := s22
      obtain ⟨v23, h23, s23⟩ := hF.dep 8 23 rfl rfl
      obtain rfl : v23 = .int .i64 (c : Int) := s23
      refine free_step rfl (by rfl) (fun K' hK => ?_)
      go_simp
      exact hK.out _ _ rfl (Below.refl _ _)
    | 10, ho, hF =>
      obtain rfl := Option.some.inj ho
      obtain ⟨v24, h24, s24⟩ := hF.dep 9 24 rfl rfl
      obtain rfl : v24 = .int .i64 e2 := s24
      refine free_step rfl (by rfl) (fun K' hK => ?_)
      go_simp
      exact hK.out _ _ rfl (Below.refl _ _)
    | n + 11, ho, _ => exact absurd (Array.getElem?_eq_some_iff.1 ho).1 (by show ¬ n + 11 < 11; omega)
  · intro vs u hS hbu
    exact hfin vs u hS hbu
theorem dsub_step {P c i A B d c' x z : Nat} (h : P + B = A + c * 256 ^ i) (hs : d + z + c = x + c' * 256) : P + 256 ^ i * d + (B + 256 ^ i * z) = A + 256 ^ i * x + c' * 256 ^ (i + 1) := by
  rw [Nat.pow_succ]
  generalize 256 ^ i = T at *
  have h1 : T * (d + z + c) = T * (x + c' * 256) := by rw [hs]
  rw [Nat.mul_add, Nat.mul_add, Nat.mul_add, Nat.mul_comm T c, Nat.mul_left_comm] at h1
  generalize c' * (T * 256) = z1 at *
  generalize T * d = z2 at *
  generalize T * x = z3 at *
  generalize T * z = z4 at *
  generalize c * T = z5 at *
  omega
theorem own_belowS {w wr u : World} {e : TypeId} {n : Nat} {v : Value} {xs : List Value} (h : wr.ownsRow w.heap.size e 1 v n xs) (_ : Below w.heap.size w wr) (hbu : Below wr.drew.heap.size wr.drew u) : u.ownsRow w.heap.size e 1 v n xs := by
  refine ⟨h.1, ?_⟩
  rcases h.2 with h2 | ⟨g, cap, cur, hv, hg2, hh, r⟩
  · exact .inl h2
  · have h1 : Below wr.heap.size wr wr.drew := (Below.refl _ _).drew
    have h3 := h1.trans (hbu.mono h1.size)
    exact .inr ⟨g, cap, cur, hv, hg2, (h3.block g (block_lt hh)).trans hh, r⟩
set_option maxHeartbeats 4000000 in
theorem digSubU (L M : List Nat) (ya yb : Option Addr) (ca cb : Nat) (w : World) (h2 : IsN .i64 w (.slice ya L.length ca) L) (h3 : AllD L) (k2 : IsN .i64 w (.slice yb M.length cb) M) (k3 : AllD M) (hml : M.length ≤ L.length) (hln : L.length ≤ 100000) (hle : numD M ≤ numD L) :
    Calls Tryz.prog 69 #[.slice ya L.length ca, .slice yb M.length cb] w fun e w' => (∃ x, e = .returned x ∧ IsD L.length w' x (numD L - numD M) ∧ FreshS w.heap.size x) ∧ Below w.heap.size w w' := by
  obtain ⟨n, hn⟩ : ∃ n, L.length = n := ⟨_, rfl⟩
  obtain ⟨m, hm⟩ : ∃ n, M.length = n := ⟨_, rfl⟩
  have HL := show Hid (IsN .i64 w (.slice ya n ca) L ∧ AllD L ∧ L.length = n) from ⟨by rw [← hn]; exact h2, h3, hn⟩
  have HM := show Hid (IsN .i64 w (.slice yb m cb) M ∧ AllD M ∧ M.length = m ∧ m ≤ n ∧ numD M ≤ numD L) from ⟨by rw [← hm]; exact k2, k3, hm, by omega, hle⟩
  rw [hn] at hln ⊢
  rw [hm]
  clear h2 h3 k2 k3 hn hm hml hle
  go_enter Tryz.func69, Tryz.ntmps69
  go_wp2_with fail
  go_loopw [5, 6, 7] (fun v a b wr => ∃ (i c : Nat) (o : List Nat), a = .int .i64 (c : Int) ∧ b = .int .i64 (i : Int) ∧ c ≤ 1 ∧ i ≤ n ∧ wr.ownsRow w.heap.size 3 1 v o.length (kc .i64 o) ∧ Below w.heap.size w wr ∧ Hid (o.length = i ∧ AllD o ∧ numD o + numD (M.take i) = numD (L.take i) + c * 256 ^ i)) (fun _ _ b _ => n - (intOf b).toNat)
  case atStart => exact ⟨0, 0, [], rfl, rfl, by omega, by omega, own_nil _ _ _, Below.refl _ _, rfl, fun x hx => (List.not_mem_nil hx).elim, by simp [numD]⟩
  case round =>
    obtain ⟨i, c, o, rfl, rfl, hc, hiK, hown, hb, hI⟩ := hrel
    by_cases hi : i < n
    · have hin : (i : Int) < (n : Int) := by omega
      have hi0 : (0 : Int) ≤ (i : Int) := by omega
      have hdL : L[i]? = some (L.getD i 0) := by
        rw [List.getD_eq_getElem?_getD, List.getElem?_eq_getElem (by rw [HL.out.2.2]; exact hi)]
        rfl
      obtain ⟨p, hp⟩ : ∃ x, L.getD i 0 = x := ⟨_, rfl⟩
      obtain ⟨q, hq⟩ : ∃ x, M.getD i 0 = x := ⟨_, rfl⟩
      have hp8 : p < 256 := by rw [← hp]; exact getD_lt HL.out.2.1 i
      have hq8 : q < 256 := by rw [← hq]; exact getD_lt HM.out.2.1 i
      have HTK := show Hid (numD (L.take (i + 1)) = numD (L.take i) + 256 ^ i * p ∧ numD (M.take (i + 1)) = numD (M.take i) + 256 ^ i * q) from ⟨by rw [numD_takeD, hp], by rw [numD_takeD, hq]⟩
      rw [hp] at hdL
      have HLD := show Hid (L[i]? = some p) from hdL
      obtain ⟨x1, b, o1, rfl, hbl, gc⟩ := IsN.cellAt (HL.out.1.later hb) hdL
      have HA2 := show Hid (∀ u, Below wr.heap.size wr u → Calls Tryz.prog 94 #[.slice yb m cb, .int .i64 (i : Int)] u fun e u' => e = .returned (.int .i64 (q : Int)) ∧ u' = u) from fun u hu => by
        have := dAt_any yb m cb M i u ((HM.out.1.later hb).later hu) HM.out.2.2.1
        rw [hq] at this
        exact this
      have HCC := show Hid (∀ u, Below wr.drew.heap.size wr.drew u → u.cell? ⟨b, o1 + i, none⟩ = some (.int .i64 (p : Int)) ∧ Calls Tryz.prog 94 #[.slice yb m cb, .int .i64 (i : Int)] u fun e u' => e = .returned (.int .i64 (q : Int)) ∧ u' = u) from fun u hu => by
        have hbd : Below wr.heap.size wr wr.drew := (Below.refl _ _).drew
        have h5 := hbd.trans (hu.mono hbd.size)
        exact ⟨(h5.cell (p := ⟨b, o1 + i, none⟩) hbl).trans gc, HA2.out u h5⟩
      obtain ⟨e1, he1⟩ : ∃ e : Int, (p : Int) - (q : Int) = e := ⟨_, rfl⟩
      obtain ⟨e2, he2⟩ : ∃ e : Int, e1 - (c : Int) = e := ⟨_, rfl⟩
      have we1 : IntKind.i64.wrap e1 = e1 := by rw [IntKind.wrap_i64]; omega
      have we2 : IntKind.i64.wrap e2 = e2 := by rw [IntKind.wrap_i64]; omega
      have hw5 : IntKind.i64.wrap ((i : Int) + 1) = (i : Int) + 1 := by rw [IntKind.wrap_i64]; omega
      have hpl : o.length ≤ 1000000 := by have := hI.out.1; omega
      clear x1 hp hq hdL HA2 gc
      by_cases hneg : e2 < 0
      · obtain ⟨d, hd⟩ : ∃ d : Nat, e2 + 256 = (d : Int) := ⟨(e2 + 256).toNat, by omega⟩
        have hw6 : IntKind.i64.wrap (d : Int) = (d : Int) := by rw [IntKind.wrap_i64]; omega
        obtain ⟨o9, HOL⟩ : ∃ o9, Hid (o ++ [d] = o9) := ⟨_, rfl⟩
        have HI2 := show Hid (o9.length = i + 1 ∧ AllD o9 ∧ numD o9 + numD (M.take (i + 1)) = numD (L.take (i + 1)) + 1 * 256 ^ (i + 1)) from by
          obtain ⟨q1, q2, q3⟩ := hI.out
          rw [← HOL.out]
          refine ⟨by simp [q1], allD_snoc q2 (by omega), ?_⟩
          rw [numD_snoc, q1, HTK.out.1, HTK.out.2]
          exact dsub_step q3 (by omega)
        clear hI
        go_wp2_with fail
        refine semRsR b o1 n i p q c ca yb m cb e1 e2 rfl rfl rfl rfl rfl hin hi0 he1 we1 he2 we2 HCC ?_
        intro vs u hS hbu
        have e10 : vs 10 = .int .i64 e2 := hS 10 8 rfl
        unfold semRsO
        simp only [putFrom, Act.put, List.setIfInBounds_toArray, List.set_cons_succ, List.set_cons_zero, Nat.reduceAdd]
        rw [e10]
        clear hS e10
        generalize vs 0 = zz0
        generalize vs 1 = zz1
        generalize vs 2 = zz2
        generalize vs 3 = zz3
        generalize vs 4 = zz4
        generalize vs 5 = zz5
        generalize vs 6 = zz6
        generalize vs 7 = zz7
        generalize vs 8 = zz8
        generalize vs 9 = zz9
        have hb2 := below_drew hb hbu
        have hown2 := own_belowS hown hb hbu
        clear hbu hown hb
        have hbz := hb2.size
        go_wp2_with (at_builtin; go_must (refine wpList_append_n RI rfl _ _ rfl w.heap.size _ _ rfl hown2 _ rfl d rfl _ HOL hpl hbz hb2 ?_; intro v2 w2 ho2 hb3))
        go_roundw
        case rel => exact ⟨i + 1, 1, o9, by rfl, by go_num, by omega, by omega, ho2, hb3, HI2.out⟩
        case measure => simp [intOf]; omega
      · obtain ⟨d, rfl⟩ : ∃ d : Nat, e2 = (d : Int) := ⟨e2.toNat, by omega⟩
        obtain ⟨o9, HOL⟩ : ∃ o9, Hid (o ++ [d] = o9) := ⟨_, rfl⟩
        have HI2 := show Hid (o9.length = i + 1 ∧ AllD o9 ∧ numD o9 + numD (M.take (i + 1)) = numD (L.take (i + 1)) + 0 * 256 ^ (i + 1)) from by
          obtain ⟨q1, q2, q3⟩ := hI.out
          rw [← HOL.out]
          refine ⟨by simp [q1], allD_snoc q2 (by omega), ?_⟩
          rw [numD_snoc, q1, HTK.out.1, HTK.out.2]
          exact dsub_step q3 (by omega)
        have hng : ¬ (d : Int) < 0 := by omega
        clear hI
        go_wp2_with fail
        refine semRsR b o1 n i p q c ca yb m cb e1 (d : Int) rfl rfl rfl rfl rfl hin hi0 he1 we1 he2 we2 HCC ?_
        intro vs u hS hbu
        have e10 : vs 10 = .int .i64 (d : Int) := hS 10 8 rfl
        unfold semRsO
        simp only [putFrom, Act.put, List.setIfInBounds_toArray, List.set_cons_succ, List.set_cons_zero, Nat.reduceAdd]
        rw [e10]
        clear hS e10
        generalize vs 0 = zz0
        generalize vs 1 = zz1
        generalize vs 2 = zz2
        generalize vs 3 = zz3
        generalize vs 4 = zz4
        generalize vs 5 = zz5
        generalize vs 6 = zz6
        generalize vs 7 = zz7
        generalize vs 8 = zz8
        generalize vs 9 = zz9
        have hb2 := below_drew hb hbu
        have hown2 := own_belowS hown hb hbu
        clear hbu hown hb
        have hbz := hb2.size
        go_wp2_with (at_builtin; go_must (refine wpList_append_n RI rfl _ _ rfl w.heap.size _ _ rfl hown2 _ rfl d rfl _ HOL hpl hbz hb2 ?_; intro v2 w2 ho2 hb3))
        go_roundw
        case rel => exact ⟨i + 1, 0, o9, by rfl, by go_num, by omega, by omega, ho2, hb3, HI2.out⟩
        case measure => simp [intOf]; omega
    · have hin : ¬ (i : Int) < (n : Int) := by omega
      obtain rfl : i = n := by omega
      obtain ⟨y5, c5, rfl⟩ := own_shape hown
      have hT := dTrim_any y5 c5 o wr (own_n hown) (by have := hI.out.1; omega)
      have HF := show Hid (o.length ≤ i ∧ AllD o ∧ numD o = numD L - numD M ∧ Below w.heap.size w wr) from by
        obtain ⟨q1, q2, q3⟩ := hI.out
        rw [List.take_of_length_le (l := M) (by rw [HM.out.2.2.1]; exact HM.out.2.2.2.1), List.take_of_length_le (l := L) (by rw [HL.out.2.2]; exact Nat.le_refl _)] at q3
        refine ⟨by omega, q2, ?_, hb⟩
        have h1 := numD_lt q2
        have h2 := HM.out.2.2.2.2
        rw [q1] at h1
        have hc2 : c = 0 ∨ c = 1 := by omega
        rcases hc2 with rfl | rfl
        · omega
        · omega
      have HFR := show Hid (FreshS w.heap.size (.slice y5 (trimL o).length c5)) from own_fresh hown _
      clear hown hb hI
      go_wp2_with fail
      refine hT.mono ?_
      rintro e w2 ⟨rfl, hN, rfl⟩
      go_wp2_with fail
      go_ret
      exact ⟨⟨_, rfl, isD_trim hN HF.out.2.1 HF.out.2.2.1 HF.out.1, HFR.out⟩, HF.out.2.2.2⟩
theorem digSub (n m : Nat) (u v : Value) (A B : Nat) (w : World) (hu : IsD n w u A) (hv : IsD m w v B) (hn : n ≤ 100000) (hle : B ≤ A) :
    Calls Tryz.prog 69 #[u, v] w fun e w' => (∃ x, e = .returned x ∧ IsD n w' x (A - B) ∧ FreshS w.heap.size x) ∧ Below w.heap.size w w' := by
  obtain ⟨ya, ca, L, rfl, h2, h3, h4, rfl, h6⟩ := hu
  obtain ⟨yb, cb, M, rfl, k2, k3, k4, rfl, k6⟩ := hv
  refine (digSubU L M ya yb ca cb w h2 h3 k2 k3 (tidy_lenD k4 h3 hle) (by omega) hle).mono ?_
  rintro e w' ⟨⟨x, rfl, h, hf⟩, hb⟩
  exact ⟨⟨x, rfl, h.more (by omega), hf⟩, hb⟩
end Go.Proofs.YtpcmpeeflnlkpaaGreatDoor

/-
  The document's Less: two to a power, less a number.
-/
namespace Go.Proofs.YtpcmpeeflnlkpaaGreatDoor
open Go.RowKit Ch
set_option maxRecDepth 100000

theorem numD_zeros : ∀ (k : Nat) (L : List Nat), numD (List.replicate k 0 ++ L) = 256 ^ k * numD L
  | 0, L => by simp
  | k + 1, L => by
    rw [List.replicate_succ, List.cons_append]
    show 0 + 256 * numD (List.replicate k 0 ++ L) = _
    rw [numD_zeros k L, Nat.pow_succ, Nat.zero_add, ← Nat.mul_assoc, Nat.mul_comm 256]
theorem own_shapeN {w : World} {base : Nat} {v : Value} {L : List Nat} {m : Nat} (h : w.ownsRow base 3 1 v L.length (kc .i64 L)) (hm : L.length = m) : ∃ y c, v = .slice y m c := by
  subst hm
  obtain ⟨a, c, h1, _⟩ := own_n h
  exact ⟨a, c, h1⟩
theorem own_twoI (w : World) (a b : Nat) : (w.alloc (.cells #[.int .i64 (a : Int), .int .i64 (b : Int)] 3)).ownsRow w.heap.size 3 1 (.slice (some ⟨w.heap.size, 0, none⟩) 2 2) ([a, b] : List Nat).length (kc .i64 [a, b]) :=
  ⟨rfl, .inr ⟨w.heap.size, 2, #[.int .i64 (a : Int), .int .i64 (b : Int)], rfl, Nat.le_refl _, heap_push_at w _, Nat.le_refl _, by unfold maxLen; omega, rfl, rfl⟩⟩
theorem pow_le7 {j : Nat} (h : j < 8) : 2 ^ j ≤ 128 := (show (2 : Nat) ^ j ≤ 2 ^ 7 from Nat.pow_le_pow_right (by decide) (by omega))
set_option maxHeartbeats 8000000 in
theorem qrLess_any (n r k : Nat) (w : World) (hn : n ≤ 64) (hr : r < 8) (hk : k < 65536) (h1 : 2 ≤ n) (hk2 : k ≤ 256 ^ n) :
    Calls Tryz.prog 41 #[.int .i64 ((8 * n + r : Nat) : Int), .int .i64 (k : Int)] w fun e w' => (∃ x R, e = .returned x ∧ IsBytes w' x ⟨R.toArray⟩ ∧ bareL R = R ∧ numB R = 2 ^ (8 * n + r) - k) ∧ Below w.heap.size w w' := by
  obtain ⟨bt, hbt⟩ : ∃ b, 8 * n + r = b := ⟨_, rfl⟩
  rw [hbt]
  have e1 : (bt : Int).tdiv 8 = (n : Int) := by rw [Int.tdiv_eq_ediv_of_nonneg (by omega)]; omega
  have e2 : (bt : Int).tmod 8 = (r : Int) := by rw [Int.tmod_eq_emod_of_nonneg (by omega)]; omega
  obtain ⟨k0, hk0⟩ : ∃ x, k % 256 = x := ⟨_, rfl⟩
  obtain ⟨k1, hk1⟩ : ∃ x, k / 256 = x := ⟨_, rfl⟩
  have e3 : (k : Int).tmod 256 = (k0 : Int) := by rw [Int.tmod_eq_emod_of_nonneg (by omega)]; omega
  have e4 : (k : Int).tdiv 256 = (k1 : Int) := by rw [Int.tdiv_eq_ediv_of_nonneg (by omega)]; omega
  have HK := show Hid (k0 + 256 * k1 = k ∧ k0 < 256 ∧ k1 < 256 ∧ n ≤ 64 ∧ r < 8 ∧ 2 ≤ n ∧ k ≤ 256 ^ n) from ⟨by omega, by omega, by omega, hn, hr, h1, hk2⟩
  have HBT := show Hid (8 * n + r = bt) from hbt
  have wk1 : wrap64 (k1 : Int) = (k1 : Int) := by unfold wrap64; omega
  clear hk0 hk1 hk2 hk hbt
  go_enter Tryz.func41, Tryz.ntmps41
  go_wp2_with fail
  go_loopw [5, 6] (fun v p wr => ∃ (i : Nat) (c : Nat) (y : Option Addr), v = .slice y i c ∧ p = .int .i64 (i : Int) ∧ i ≤ n ∧ Hid (wr.ownsRow w.heap.size 3 1 (.slice y i c) (List.replicate i 0).length (kc .i64 (List.replicate i 0))) ∧ Hid (Below w.heap.size w wr)) (fun _ p _ => n - (intOf p).toNat)
  case atStart => exact ⟨0, 0, _, rfl, rfl, by omega, own_emptyN w _ _ (Nat.le_refl _), alB _ _⟩
  case round =>
    obtain ⟨i, c, y, rfl, rfl, hi, ho, hb⟩ := hrel
    have hown := ho.out
    have hbb := hb.out
    have hp5 : IntKind.i64.wrap ((i : Int) + 1) = (i : Int) + 1 := by rw [IntKind.wrap_i64]; omega
    by_cases hlt : i < n
    · have hin : (i : Int) < (n : Int) := by omega
      have HOL := show Hid (List.replicate i 0 ++ [0] = List.replicate (i + 1) 0) from by unfold Hid; rw [List.replicate_succ']
      go_wp2_with (at_builtin; go_must (refine wpList_append_n RI rfl _ _ rfl w.heap.size _ _ rfl hown _ rfl 0 rfl _ HOL (by rw [List.length_replicate]; omega) hbb.size hbb ?_; intro v2 w2 ho2 hb2; obtain ⟨y2, c2, rfl⟩ := own_shapeN (m := i + 1) ho2 List.length_replicate))
      go_roundw
      case rel => exact ⟨i + 1, c2, y2, rfl, by go_num, by omega, ho2, hb2⟩
      case measure => simp [intOf]; omega
    · obtain rfl : i = n := by omega
      have hin : ¬ (i : Int) < (i : Int) := by omega
      clear hown hbb hp5
      obtain ⟨wA, hwA⟩ : ∃ a, wr = a := ⟨_, rfl⟩
      rw [hwA] at ho hb ⊢
      clear hwA
      go_wp2_with fail
      go_loopw [7, 8] (fun a b wr => ∃ j pj : Nat, a = .int .i64 (pj : Int) ∧ b = .int .i64 (j : Int) ∧ j ≤ r ∧ Hid (pj = 2 ^ j) ∧ pj ≤ 128 ∧ Hid (wr = wA)) (fun _ b _ => r - (intOf b).toNat)
      case atStart => exact ⟨0, 1, rfl, rfl, by omega, rfl, by omega, rfl⟩
      case round =>
        obtain ⟨j, pj, rfl, rfl, hj, hpj, hpl, hwr⟩ := hrel
        have hw9 := hwr.out
        subst hw9
        have hp5 : IntKind.i64.wrap ((j : Int) + 1) = (j : Int) + 1 := by rw [IntKind.wrap_i64]; omega
        by_cases hlt2 : j < r
        · have hjr : (j : Int) < (r : Int) := by omega
          obtain ⟨p2, hp2⟩ : ∃ x, pj * 2 = x := ⟨_, rfl⟩
          have hp6 : IntKind.i64.wrap ((pj : Int) * 2) = (p2 : Int) := by rw [IntKind.wrap_i64]; omega
          have hp7 : p2 = 2 ^ (j + 1) := by rw [Nat.pow_succ, ← hpj.out]; exact hp2.symm
          have hp8 : p2 ≤ 128 := by rw [hp7]; exact pow_le7 (by omega)
          have HP7 := show Hid (p2 = 2 ^ (j + 1)) from hp7
          clear hp7 hp2
          go_wp2_with fail
          go_roundw
          case rel => exact ⟨j + 1, p2, rfl, by go_num, by omega, HP7.out, hp8, by unfold Hid; trivial⟩
          case measure => simp [intOf]; omega
        · obtain rfl : j = r := by omega
          have hjr : ¬ (j : Int) < (j : Int) := by omega
          have hown := ho.out
          have hbb := hb.out
          have HOL := show Hid (List.replicate i 0 ++ [pj] = List.replicate i 0 ++ [pj]) from rfl
          go_wp2_with (at_builtin; go_must (refine wpList_append_n RI rfl _ _ rfl w.heap.size _ _ rfl hown _ rfl pj rfl _ HOL (by rw [List.length_replicate]; omega) hbb.size hbb ?_; intro v2 w2 ho2 hb2; obtain ⟨y2, c2, rfl⟩ := own_shapeN (m := i + 1) ho2 (by simp)))
          have hLl : (List.replicate i 0 ++ [pj]).length = i + 1 := by simp
          have hLD : AllD (List.replicate i 0 ++ [pj]) := fun x hx => by
            rcases List.mem_append.1 hx with h | h
            · rw [List.eq_of_mem_replicate h]; decide
            · rw [List.mem_singleton.1 h]; omega
          have hND : numD (List.replicate i 0 ++ [pj]) = 2 ^ bt := by
            rw [numD_zeros, ← HBT.out, Nat.pow_add, Nat.pow_mul, hpj.out]
            simp [numD]
          have hMD : AllD [k0, k1] := fun x hx => by
            simp only [List.mem_cons, List.not_mem_nil, or_false] at hx
            rcases hx with rfl | rfl
            · exact HK.out.2.1
            · exact HK.out.2.2.1
          have hNM : numD [k0, k1] = k := by have h9 := HK.out.1; simp only [numD]; omega
          have hle : k ≤ 2 ^ bt := by
            refine Nat.le_trans HK.out.2.2.2.2.2.2 ?_
            rw [← HBT.out, Nat.pow_add, Nat.pow_mul]
            exact Nat.le_mul_of_pos_right _ (Nat.pow_pos (by decide))
          have i2 := own_n ho2
          rw [hLl] at ho2
          have hSb := digSubU (List.replicate i 0 ++ [pj]) [k0, k1] y2 (some ⟨w2.heap.size, 0, none⟩) c2 2 (w2.alloc (.cells #[.int .i64 (k0 : Int), .int .i64 (k1 : Int)] 3)) (by rw [hLl]; exact i2.alloc _) hLD (own_n (own_twoI w2 k0 k1)) hMD (by rw [hLl]; have h9 := HK.out.2.2.2.2.2.1; show 2 ≤ i + 1; omega) (by rw [hLl]; omega) (by rw [hND, hNM]; exact hle)
          rw [hLl, hND, hNM, show ([k0, k1] : List Nat).length = 2 from rfl] at hSb
          have b3 := alB w2 (.cells #[.int .i64 (k0 : Int), .int .i64 (k1 : Int)] 3)
          have H3 := show Hid (Below w.heap.size w (w2.alloc (.cells #[.int .i64 (k0 : Int), .int .i64 (k1 : Int)] 3))) from bl2 hb2 b3
          clear hLl hLD hND hMD hNM hle i2 ho2 hb2 b3
          refine hSb.mono ?_
          rintro e w4 ⟨⟨x4, rfl, d4, _⟩, b4⟩
          have hBy := dBytes_any (i + 1) x4 (2 ^ bt - k) w4 d4 (by omega)
          obtain ⟨y4, c4, L4, rfl, _⟩ := id d4
          have H4 := show Hid (Below w.heap.size w w4) from bl2 H3.out b4
          clear hSb d4 b4 H3
          go_wp2_with fail
          refine hBy.mono ?_
          rintro e w5 ⟨⟨x5, rfl, R, y5, c5, rfl, i5, hR, hN⟩, b5⟩
          have HF := show Hid (IsBytes w5 (.slice y5 R.length c5) ⟨R.toArray⟩ ∧ bareL R = R ∧ numB R = 2 ^ bt - k ∧ Below w.heap.size w w5) from ⟨i5, hR, hN, bl2 H4.out b5⟩
          clear hBy i5 hR hN b5
          go_wp2_with fail
          go_ret
          exact ⟨⟨_, R, rfl, HF.out.1, HF.out.2.1, HF.out.2.2.1⟩, HF.out.2.2.2⟩
end Go.Proofs.YtpcmpeeflnlkpaaGreatDoor

/-
  The document's Primes.
-/
namespace Go.Proofs.YtpcmpeeflnlkpaaGreatDoor
open Go.RowKit Ch
set_option maxRecDepth 100000

/-- Bytes of this number, without leading noughts. -/
def IsP (w : World) (v : Value) (N : Nat) : Prop := ∃ R : List UInt8, IsBytes w v ⟨R.toArray⟩ ∧ bareL R = R ∧ numB R = N
theorem IsP.later {w w' : World} {v : Value} {N : Nat} (h : IsP w v N) (hb : Below w.heap.size w w') : IsP w' v N := by
  obtain ⟨R, h1, h2⟩ := h
  exact ⟨R, h1.later hb, h2⟩
def c_256_357 : Nat := 2 ^ 256 - 357
theorem c_256_357_eq : c_256_357 = 2 ^ 256 - 357 := by rw [c_256_357]
theorem qrLess_256_357 (w : World) : Calls Tryz.prog 41 #[.int .i64 256, .int .i64 357] w fun e w' => (∃ x, e = .returned x ∧ IsP w' x c_256_357) ∧ Below w.heap.size w w' := by
  have h := qrLess_any 32 0 357 w (by decide) (by decide) (by decide) (by decide) (Nat.le_trans (show 357 ≤ 256 ^ 2 by decide) (Nat.pow_le_pow_right (by decide) (by decide)))
  rw [show 8 * 32 + 0 = 256 from rfl] at h
  refine Calls.mono (show Calls Tryz.prog 41 #[.int .i64 256, .int .i64 357] w _ from h) ?_
  rintro e w' ⟨⟨x, R, rfl, h1, h2, h3⟩, hb⟩
  exact ⟨⟨x, rfl, R, h1, h2, h3.trans c_256_357_eq.symm⟩, hb⟩
def c_255_31 : Nat := 2 ^ 255 - 31
theorem c_255_31_eq : c_255_31 = 2 ^ 255 - 31 := by rw [c_255_31]
theorem qrLess_255_31 (w : World) : Calls Tryz.prog 41 #[.int .i64 255, .int .i64 31] w fun e w' => (∃ x, e = .returned x ∧ IsP w' x c_255_31) ∧ Below w.heap.size w w' := by
  have h := qrLess_any 31 7 31 w (by decide) (by decide) (by decide) (by decide) (Nat.le_trans (show 31 ≤ 256 ^ 2 by decide) (Nat.pow_le_pow_right (by decide) (by decide)))
  rw [show 8 * 31 + 7 = 255 from rfl] at h
  refine Calls.mono (show Calls Tryz.prog 41 #[.int .i64 255, .int .i64 31] w _ from h) ?_
  rintro e w' ⟨⟨x, R, rfl, h1, h2, h3⟩, hb⟩
  exact ⟨⟨x, rfl, R, h1, h2, h3.trans c_255_31_eq.symm⟩, hb⟩
def c_256_435 : Nat := 2 ^ 256 - 435
theorem c_256_435_eq : c_256_435 = 2 ^ 256 - 435 := by rw [c_256_435]
theorem qrLess_256_435 (w : World) : Calls Tryz.prog 41 #[.int .i64 256, .int .i64 435] w fun e w' => (∃ x, e = .returned x ∧ IsP w' x c_256_435) ∧ Below w.heap.size w w' := by
  have h := qrLess_any 32 0 435 w (by decide) (by decide) (by decide) (by decide) (Nat.le_trans (show 435 ≤ 256 ^ 2 by decide) (Nat.pow_le_pow_right (by decide) (by decide)))
  rw [show 8 * 32 + 0 = 256 from rfl] at h
  refine Calls.mono (show Calls Tryz.prog 41 #[.int .i64 256, .int .i64 435] w _ from h) ?_
  rintro e w' ⟨⟨x, R, rfl, h1, h2, h3⟩, hb⟩
  exact ⟨⟨x, rfl, R, h1, h2, h3.trans c_256_435_eq.symm⟩, hb⟩
def c_255_19 : Nat := 2 ^ 255 - 19
theorem c_255_19_eq : c_255_19 = 2 ^ 255 - 19 := by rw [c_255_19]
theorem qrLess_255_19 (w : World) : Calls Tryz.prog 41 #[.int .i64 255, .int .i64 19] w fun e w' => (∃ x, e = .returned x ∧ IsP w' x c_255_19) ∧ Below w.heap.size w w' := by
  have h := qrLess_any 31 7 19 w (by decide) (by decide) (by decide) (by decide) (Nat.le_trans (show 19 ≤ 256 ^ 2 by decide) (Nat.pow_le_pow_right (by decide) (by decide)))
  rw [show 8 * 31 + 7 = 255 from rfl] at h
  refine Calls.mono (show Calls Tryz.prog 41 #[.int .i64 255, .int .i64 19] w _ from h) ?_
  rintro e w' ⟨⟨x, R, rfl, h1, h2, h3⟩, hb⟩
  exact ⟨⟨x, rfl, R, h1, h2, h3.trans c_255_19_eq.symm⟩, hb⟩
def c_512_569 : Nat := 2 ^ 512 - 569
theorem c_512_569_eq : c_512_569 = 2 ^ 512 - 569 := by rw [c_512_569]
theorem qrLess_512_569 (w : World) : Calls Tryz.prog 41 #[.int .i64 512, .int .i64 569] w fun e w' => (∃ x, e = .returned x ∧ IsP w' x c_512_569) ∧ Below w.heap.size w w' := by
  have h := qrLess_any 64 0 569 w (by decide) (by decide) (by decide) (by decide) (Nat.le_trans (show 569 ≤ 256 ^ 2 by decide) (Nat.pow_le_pow_right (by decide) (by decide)))
  rw [show 8 * 64 + 0 = 512 from rfl] at h
  refine Calls.mono (show Calls Tryz.prog 41 #[.int .i64 512, .int .i64 569] w _ from h) ?_
  rintro e w' ⟨⟨x, R, rfl, h1, h2, h3⟩, hb⟩
  exact ⟨⟨x, rfl, R, h1, h2, h3.trans c_512_569_eq.symm⟩, hb⟩
def c_511_187 : Nat := 2 ^ 511 - 187
theorem c_511_187_eq : c_511_187 = 2 ^ 511 - 187 := by rw [c_511_187]
theorem qrLess_511_187 (w : World) : Calls Tryz.prog 41 #[.int .i64 511, .int .i64 187] w fun e w' => (∃ x, e = .returned x ∧ IsP w' x c_511_187) ∧ Below w.heap.size w w' := by
  have h := qrLess_any 63 7 187 w (by decide) (by decide) (by decide) (by decide) (Nat.le_trans (show 187 ≤ 256 ^ 2 by decide) (Nat.pow_le_pow_right (by decide) (by decide)))
  rw [show 8 * 63 + 7 = 511 from rfl] at h
  refine Calls.mono (show Calls Tryz.prog 41 #[.int .i64 511, .int .i64 187] w _ from h) ?_
  rintro e w' ⟨⟨x, R, rfl, h1, h2, h3⟩, hb⟩
  exact ⟨⟨x, rfl, R, h1, h2, h3.trans c_511_187_eq.symm⟩, hb⟩
def c_256_189 : Nat := 2 ^ 256 - 189
theorem c_256_189_eq : c_256_189 = 2 ^ 256 - 189 := by rw [c_256_189]
theorem qrLess_256_189 (w : World) : Calls Tryz.prog 41 #[.int .i64 256, .int .i64 189] w fun e w' => (∃ x, e = .returned x ∧ IsP w' x c_256_189) ∧ Below w.heap.size w w' := by
  have h := qrLess_any 32 0 189 w (by decide) (by decide) (by decide) (by decide) (Nat.le_trans (show 189 ≤ 256 ^ 2 by decide) (Nat.pow_le_pow_right (by decide) (by decide)))
  rw [show 8 * 32 + 0 = 256 from rfl] at h
  refine Calls.mono (show Calls Tryz.prog 41 #[.int .i64 256, .int .i64 189] w _ from h) ?_
  rintro e w' ⟨⟨x, R, rfl, h1, h2, h3⟩, hb⟩
  exact ⟨⟨x, rfl, R, h1, h2, h3.trans c_256_189_eq.symm⟩, hb⟩
theorem qrPrimes_1 (w : World) : Calls Tryz.prog 20 #[.int .i64 1] w fun e w' => (∃ x y, e = .returned (.tuple #[x, y]) ∧ IsP w' x c_256_357 ∧ IsP w' y c_255_31) ∧ Below w.heap.size w w' := by
  have h1 := qrLess_256_357 w
  generalize c_256_357 = P at *
  generalize hQ : c_255_31 = Q
  go_enter Tryz.func20, Tryz.ntmps20
  go_wp2_with fail
  refine h1.mono ?_
  rintro e w1 ⟨⟨x, rfl, p1⟩, b1⟩
  have h2 := qrLess_255_31 w1
  rw [hQ] at h2
  clear h1
  go_wp2_with fail
  refine h2.mono ?_
  rintro e w2 ⟨⟨y, rfl, p2⟩, b2⟩
  have HF := show Hid (IsP w2 x P ∧ IsP w2 y Q ∧ Below w.heap.size w w2) from ⟨p1.later b2, p2, bl2 b1 b2⟩
  clear h2 p1 p2 b1 b2
  go_wp2_with fail
  go_ret2
  exact ⟨⟨_, _, rfl, HF.out.1, HF.out.2.1⟩, HF.out.2.2⟩
theorem qrPrimes_2 (w : World) : Calls Tryz.prog 20 #[.int .i64 2] w fun e w' => (∃ x y, e = .returned (.tuple #[x, y]) ∧ IsP w' x c_256_435 ∧ IsP w' y c_255_19) ∧ Below w.heap.size w w' := by
  have h1 := qrLess_256_435 w
  generalize c_256_435 = P at *
  generalize hQ : c_255_19 = Q
  go_enter Tryz.func20, Tryz.ntmps20
  go_wp2_with fail
  refine h1.mono ?_
  rintro e w1 ⟨⟨x, rfl, p1⟩, b1⟩
  have h2 := qrLess_255_19 w1
  rw [hQ] at h2
  clear h1
  go_wp2_with fail
  refine h2.mono ?_
  rintro e w2 ⟨⟨y, rfl, p2⟩, b2⟩
  have HF := show Hid (IsP w2 x P ∧ IsP w2 y Q ∧ Below w.heap.size w w2) from ⟨p1.later b2, p2, bl2 b1 b2⟩
  clear h2 p1 p2 b1 b2
  go_wp2_with fail
  go_ret2
  exact ⟨⟨_, _, rfl, HF.out.1, HF.out.2.1⟩, HF.out.2.2⟩
theorem qrPrimes_3 (w : World) : Calls Tryz.prog 20 #[.int .i64 3] w fun e w' => (∃ x y, e = .returned (.tuple #[x, y]) ∧ IsP w' x c_512_569 ∧ IsP w' y c_511_187) ∧ Below w.heap.size w w' := by
  have h1 := qrLess_512_569 w
  generalize c_512_569 = P at *
  generalize hQ : c_511_187 = Q
  go_enter Tryz.func20, Tryz.ntmps20
  go_wp2_with fail
  refine h1.mono ?_
  rintro e w1 ⟨⟨x, rfl, p1⟩, b1⟩
  have h2 := qrLess_511_187 w1
  rw [hQ] at h2
  clear h1
  go_wp2_with fail
  refine h2.mono ?_
  rintro e w2 ⟨⟨y, rfl, p2⟩, b2⟩
  have HF := show Hid (IsP w2 x P ∧ IsP w2 y Q ∧ Below w.heap.size w w2) from ⟨p1.later b2, p2, bl2 b1 b2⟩
  clear h2 p1 p2 b1 b2
  go_wp2_with fail
  go_ret2
  exact ⟨⟨_, _, rfl, HF.out.1, HF.out.2.1⟩, HF.out.2.2⟩
theorem qrPrimes_0 (w : World) : Calls Tryz.prog 20 #[.int .i64 0] w fun e w' => (∃ x y, e = .returned (.tuple #[x, y]) ∧ IsP w' x c_256_189 ∧ IsP w' y c_255_19) ∧ Below w.heap.size w w' := by
  have h1 := qrLess_256_189 w
  generalize c_256_189 = P at *
  generalize hQ : c_255_19 = Q
  go_enter Tryz.func20, Tryz.ntmps20
  go_wp2_with fail
  refine h1.mono ?_
  rintro e w1 ⟨⟨x, rfl, p1⟩, b1⟩
  have h2 := qrLess_255_19 w1
  rw [hQ] at h2
  clear h1
  go_wp2_with fail
  refine h2.mono ?_
  rintro e w2 ⟨⟨y, rfl, p2⟩, b2⟩
  have HF := show Hid (IsP w2 x P ∧ IsP w2 y Q ∧ Below w.heap.size w w2) from ⟨p1.later b2, p2, bl2 b1 b2⟩
  clear h2 p1 p2 b1 b2
  go_wp2_with fail
  go_ret2
  exact ⟨⟨_, _, rfl, HF.out.1, HF.out.2.1⟩, HF.out.2.2⟩
end Go.Proofs.YtpcmpeeflnlkpaaGreatDoor
