/-
  The document's Stretch: its regions that draw.
-/
import Derived.Test.YtgehgcnaoapbbaaDoorVMac
import Derived.Test.YtgehgcnaoapbbaaDoorHFreeDEtc
import Derived.Test.YtgehgcnaoapbbaaDoorKStre
namespace Go.Proofs.YtgehgcnaoapbbaaDoor
open Go.RowKit Ch
set_option maxRecDepth 100000
theorem word_small {i : Nat} (hi : i < 256) : wordB i = [0, 0, 0, UInt8.ofNat i] := by
  have h1 : i / 256 = 0 := by omega
  have h2 : i / 65536 = 0 := by omega
  have h3 : i / 16777216 = 0 := by omega
  unfold wordB
  rw [Nat.mod_eq_of_lt hi, h1, h2, h3]
  rfl
theorem word_lit (u : World) (i : Nat) (hi : i < 256) : IsBytes (u.alloc (.cells #[.int .u8 0, .int .u8 0, .int .u8 0, .int .u8 (i : Int)] 5)) (.slice (some ⟨u.heap.size, 0, none⟩) 4 4) ⟨(wordB i).toArray⟩ := by
  have hc : (#[.int .u8 0, .int .u8 0, .int .u8 0, .int .u8 (i : Int)] : Array Value) = (Lib.byteCells (wordB i)).toArray := by
    rw [word_small hi]
    simp [Lib.byteCells]
    omega
  rw [hc]
  exact bytes_in_take (l := wordB i) (k := 4) (heap_push_at u _) (Nat.le_refl _) (by omega)
def semSaO : Array Oper := #[{ dst := some 23, op := Go.Op.load 30 (Go.Operand.tmp 5), type := 30, pos := "ref.go:193", after := #[], guard := none }, { dst := some 24, op := Go.Op.move (Go.Operand.tmp 1), type := 23, pos := "ref.go:193", after := #[], guard := none }, { dst := some 25, op := Go.Op.buildSlice 23 0 #[], type := 23, pos := "ref.go:193", after := #[], guard := none }, { dst := some 26, op := Go.Op.move (Go.Operand.tmp 2), type := 23, pos := "ref.go:193", after := #[], guard := none }, { dst := some 27, op := Go.Op.call { callee := Go.Callee.builtin Go.Builtin.append, args := #[Go.Operand.tmp 25, Go.Operand.tmp 26], argTypes := #[23, 23] }, type := 23, pos := "ref.go:193", after := #[{ on := 2, ground := Go.Ground.data }, { on := 3, ground := Go.Ground.data }], guard := none }, { dst := some 28, op := Go.Op.move (Go.Operand.tmp 12), type := 3, pos := "ref.go:193", after := #[], guard := none }, { dst := some 29, op := Go.Op.convert 3 5 (Go.Operand.tmp 28), type := 5, pos := "ref.go:193", after := #[{ on := 5, ground := Go.Ground.data }], guard := none }, { dst := some 30, op := Go.Op.buildSlice 23 4 #[(0, Go.Operand.const (Go.Value.int Go.IntKind.u8 0)), (1, Go.Operand.const (Go.Value.int Go.IntKind.u8 0)), (2, Go.Operand.const (Go.Value.int Go.IntKind.u8 0)), (3, Go.Operand.tmp 29)], type := 23, pos := "ref.go:193", after := #[{ on := 6, ground := Go.Ground.data }], guard := none }, { dst := some 31, op := Go.Op.call { callee := Go.Callee.builtin Go.Builtin.append, args := #[Go.Operand.tmp 27, Go.Operand.tmp 30], argTypes := #[23, 23] }, type := 23, pos := "ref.go:193", after := #[{ on := 4, ground := Go.Ground.data }, { on := 7, ground := Go.Ground.data }, { on := 4, ground := Go.Ground.chain }], guard := none }, { dst := some 32, op := Go.Op.call { callee := Go.Callee.value (Go.Operand.func 14), args := #[Go.Operand.tmp 23, Go.Operand.tmp 24, Go.Operand.tmp 31], argTypes := #[30, 23, 23] }, type := 23, pos := "ref.go:193", after := #[{ on := 0, ground := Go.Ground.data }, { on := 1, ground := Go.Ground.data }, { on := 8, ground := Go.Ground.data }, { on := 8, ground := Go.Ground.chain }], guard := none }, { dst := some 13, op := Go.Op.assign (Go.Operand.tmp 32), type := 23, pos := "ref.go:193", after := #[{ on := 9, ground := Go.Ground.data }, { on := 9, ground := Go.Ground.chain }, { on := 0, ground := Go.Ground.phase }, { on := 1, ground := Go.Ground.phase }, { on := 2, ground := Go.Ground.phase }, { on := 3, ground := Go.Ground.phase }, { on := 4, ground := Go.Ground.phase }, { on := 5, ground := Go.Ground.phase }, { on := 6, ground := Go.Ground.phase }, { on := 7, ground := Go.Ground.phase }, { on := 8, ground := Go.Ground.phase }, { on := 9, ground := Go.Ground.phase }], guard := none }]
def semSa (au av x y : Option Addr) (cu cv cx cy i nb : Nat) (k t M U : ByteArray) : Nat → Value → World → Prop := fun ix v u => match ix with
  | 0 => v = .agg #[.slice au 8 cu, .slice av 64 cv]
  | 1 => v = .slice x k.size cx
  | 2 => ∃ g, v = .slice (some ⟨g, 0, none⟩) 0 0 ∧ u.ownsRow nb 5 1 v 0 []
  | 3 => v = .slice y t.size cy
  | 4 => u.ownsRow nb 5 1 v t.data.toList.length (Lib.byteCells t.data.toList)
  | 5 => v = .int .i64 (i : Int)
  | 6 => v = .int .u8 (i : Int)
  | 7 => IsBytes u v ⟨(wordB i).toArray⟩
  | 8 => ∃ y c, v = .slice y M.size c ∧ IsBytes u v M
  | 9 => ∃ y c, v = .slice y 32 c ∧ IsBytes u v U
  | 10 => ∃ y c, v = .slice y 32 c ∧ IsBytes u v U
  | _ => True
set_option maxHeartbeats 2000000 in
theorem semSaR (au av x y : Option Addr) (cu cv cx cy i nb : Nat) (k t M U : ByteArray) (pb : Nat) {Q : Exit → Act → World → Prop} {a0 : Act} {u0 : World} (hsz : a0.tmps.size = 67) (v1 : a0.tmps[1]? = some (.slice x k.size cx)) (v2 : a0.tmps[2]? = some (.slice y t.size cy)) (v5 : a0.tmps[5]? = some (.pointer (some ⟨pb, 0, none⟩))) (v12 : a0.tmps[12]? = some (.int .i64 (i : Int))) (hnb : nb = u0.drew.heap.size) (hi : i < 256) (ht : t.size ≤ 10000) (HM : Hid (M.data.toList = t.data.toList ++ wordB i))
    (HC : Hid (∀ u, Below u0.drew.heap.size u0.drew u → u.cell? ⟨pb, 0, none⟩ = some (.slice au 8 cu) ∧ u.cell? ⟨pb, 1, none⟩ = some (.slice av 64 cv) ∧ IsBytes u (.slice y t.size cy) t))
    (HMac : Hid (∀ u z c, Below u0.drew.heap.size u0.drew u → IsBytes u (.slice z M.size c) M → Calls Tryd.prog 14 #[.agg #[.slice au 8 cu, .slice av 64 cv], .slice x k.size cx, .slice z M.size c] u fun e w' => (∃ y c, e = .returned (.slice y 32 c) ∧ IsBytes w' (.slice y 32 c) U) ∧ Below u.heap.size u w'))
    (hfin : ∀ (vs : Nat → Value) u, (∀ ix d, ((semSaO[ix]?).bind (fun x => Oper.dst x)) = some d → (ix == 2 || ix == 4 || ix == 7) = false → semSa au av x y cu cv cx cy i nb k t M U ix (vs ix) u) → Below u0.drew.heap.size u0.drew u → Q .normal (putFrom vs a0 semSaO.toList 0) u) : (Code.region 5 semSaO true).wp Tryd.prog Q a0 u0 := by
  unfold semSaO at hfin ⊢
  refine freeD_walk (Sem := semSa au av x y cu cv cx cy i nb k t M U) 8 (fun j => j == 2 || j == 4 || j == 7) (fun j => j == 2 || j == 3 || j == 4 || j == 5 || j == 6 || j == 7 || j == 8) (fun j => j == 8 || j == 9 || j == 10) rfl (n := 67) (by kernel_rfl) hsz (by kernel_rfl) ?_ ?_ (by decide) ?_ ?_ ?_ ?_
  · intro j hj
    simp only [Bool.or_eq_true, beq_iff_eq] at hj
    rcases hj with (((((rfl | rfl) | rfl) | rfl) | rfl) | rfl) | rfl
    · exact .inr ⟨[4], by kernel_rfl⟩
    · exact .inr ⟨[4], by kernel_rfl⟩
    · exact .inr ⟨[], by kernel_rfl⟩
    · exact .inr ⟨[7, 6], by kernel_rfl⟩
    · exact .inr ⟨[7], by kernel_rfl⟩
    · exact .inr ⟨[], by kernel_rfl⟩
    · exact .inl rfl
  · intro j hj
    simp only [Bool.or_eq_true, beq_iff_eq] at hj
    rcases hj with (rfl | rfl) | rfl
    · exact .inl rfl
    · exact .inr ⟨[], by kernel_rfl⟩
    · exact .inr ⟨[], by kernel_rfl⟩
  · intro ix v u u' h hb
    match ix, h with
    | 0, h => exact h
    | 1, h => exact h
    | 2, h => exact by obtain ⟨g, h1, h2⟩ := h; exact ⟨g, h1, ownsRow_later h2 hb⟩
    | 3, h => exact h
    | 4, h => exact ownsRow_later h hb
    | 5, h => exact h
    | 6, h => exact h
    | 7, h => exact IsBytes.later h hb
    | 8, h => exact by obtain ⟨y, c, h1, h2⟩ := h; exact ⟨y, c, h1, h2.later hb⟩
    | 9, h => exact by obtain ⟨y, c, h1, h2⟩ := h; exact ⟨y, c, h1, h2.later hb⟩
    | 10, h => exact by obtain ⟨y, c, h1, h2⟩ := h; exact ⟨y, c, h1, h2.later hb⟩
    | _ + 11, _ => exact trivial
  · intro ix v u u' hl hd h hb hn
    match ix, h, hl, hd with
    | 0, h, _, _ => exact h
    | 1, h, _, _ => exact h
    | 2, _, _, hd => exact absurd hd (by decide)
    | 3, h, _, _ => exact h
    | 4, _, _, hd => exact absurd hd (by decide)
    | 5, h, _, _ => exact h
    | 6, h, _, _ => exact h
    | 7, _, _, hd => exact absurd hd (by decide)
    | 8, _, hl, _ => exact absurd hl (by decide)
    | 9, _, hl, _ => exact absurd hl (by decide)
    | 10, _, hl, _ => exact absurd hl (by decide)
    | _ + 11, _, _, _ => exact trivial
  · intro ix o a u ho hF hbu
    match ix, ho, hF with
    | 0, ho, hF =>
      obtain rfl := Option.some.inj ho
      have h5 : a.tmps[5]? = some (.pointer (some ⟨pb, 0, none⟩)) := (hF.out 5 rfl).trans v5
      obtain ⟨gc0, gc1, _⟩ := HC.out u hbu
      refine freeD_step hbu.size rfl (by rfl) (fun K' hK => ?_)
      go_simp
      exact hK.out _ _ rfl (Below.refl _ _)
    | 1, ho, hF =>
      obtain rfl := Option.some.inj ho
      have h1 : a.tmps[1]? = some (.slice x k.size cx) := (hF.out 1 rfl).trans v1
      refine freeD_step hbu.size rfl (by rfl) (fun K' hK => ?_)
      go_simp
      exact hK.out _ _ rfl (Below.refl _ _)
    | 2, ho, hF =>
      obtain rfl := Option.some.inj ho
      refine freeD_step hbu.size rfl (by rfl) (fun K' hK => ?_)
      go_simp
      exact hK.out _ _ ⟨u.heap.size, rfl, own_empty u nb (by rw [hnb]; exact hbu.size)⟩ ((Below.refl _ u).alloc (Nat.le_refl _) _)
    | 3, ho, hF =>
      obtain rfl := Option.some.inj ho
      have h2 : a.tmps[2]? = some (.slice y t.size cy) := (hF.out 2 rfl).trans v2
      refine freeD_step hbu.size rfl (by rfl) (fun K' hK => ?_)
      go_simp
      exact hK.out _ _ rfl (Below.refl _ _)
    | 4, ho, hF =>
      obtain rfl := Option.some.inj ho
      obtain ⟨v25, h25, s25⟩ := hF.dep 2 25 rfl rfl (by decide)
      replace s25 : ∃ g, v25 = .slice (some ⟨g, 0, none⟩) 0 0 ∧ u.ownsRow nb 5 1 v25 0 [] := s25
      obtain ⟨v26, h26, s26⟩ := hF.dep 3 26 rfl rfl (by decide)
      obtain rfl : v26 = .slice y t.size cy := s26
      refine freeD_step hbu.size rfl (by rfl) (fun K' hK => ?_)
      obtain ⟨g, rfl, s25⟩ := s25
      refine wp_append_freshb _ _ rfl nb g (by simp [Act.eval, h25]) s25 _ t (by simp [Act.eval, h26]) (HC.out u hbu).2.2 (by omega) (by rw [hnb]; exact hbu.size) ?_
      intro v' u' h1 h2
      exact hK.out _ _ h1 h2
    | 5, ho, hF =>
      obtain rfl := Option.some.inj ho
      have h12 : a.tmps[12]? = some (.int .i64 (i : Int)) := (hF.out 12 rfl).trans v12
      refine freeD_step hbu.size rfl (by rfl) (fun K' hK => ?_)
      go_simp
      exact hK.out _ _ rfl (Below.refl _ _)
    | 6, ho, hF =>
      obtain rfl := Option.some.inj ho
      obtain ⟨v28, h28, s28⟩ := hF.dep 5 28 rfl rfl (by decide)
      obtain rfl : v28 = .int .i64 (i : Int) := s28
      have wi : IntKind.u8.wrap (i : Int) = (i : Int) := by rw [IntKind.wrap_u8]; omega
      refine freeD_step hbu.size rfl (by rfl) (fun K' hK => ?_)
      go_simp
      exact hK.out _ _ rfl (Below.refl _ _)
    | 7, ho, hF =>
      obtain rfl := Option.some.inj ho
      obtain ⟨v29, h29, s29⟩ := hF.dep 6 29 rfl rfl (by decide)
      obtain rfl : v29 = .int .u8 (i : Int) := s29
      refine freeD_step hbu.size rfl (by rfl) (fun K' hK => ?_)
      go_simp
      refine hK.out _ _ ?_ ((Below.refl _ u).alloc (Nat.le_refl _) _)
      exact word_lit u i hi
    | 8, ho, hF =>
      obtain rfl := Option.some.inj ho
      obtain ⟨v27, h27, s27⟩ := hF.dep 4 27 rfl rfl (by decide)
      replace s27 : u.ownsRow nb 5 1 v27 t.data.toList.length (Lib.byteCells t.data.toList) := s27
      obtain ⟨v30, h30, s30⟩ := hF.dep 7 30 rfl rfl (by decide)
      replace s30 : IsBytes u v30 ⟨(wordB i).toArray⟩ := s30
      refine freeD_stepZ rfl (by rfl) (fun K' hK => ?_)
      refine wp_append_list rfl _ _ rfl nb _ t.data.toList (by simp [Act.eval, h27]) s27 _ ⟨(wordB i).toArray⟩ (by simp [Act.eval, h30]) s30 (by rw [len_eq]; have : (⟨(wordB i).toArray⟩ : ByteArray).size = 4 := rfl; omega) (by rw [hnb]; exact hbu.size) M.data.toList (by unfold Hid; rw [HM.out]) ?_
      intro a' cap' u' h1 h2
      refine hK.out _ _ ?_ (by rw [← hnb]; exact h2)
      rw [len_eq] at h1 ⊢
      exact ⟨_, _, rfl, own_bytes h1⟩
    | 9, ho, hF =>
      obtain rfl := Option.some.inj ho
      obtain ⟨v23, h23, s23⟩ := hF.dep 0 23 rfl rfl (by decide)
      obtain rfl : v23 = .agg #[.slice au 8 cu, .slice av 64 cv] := s23
      obtain ⟨v24, h24, s24⟩ := hF.dep 1 24 rfl rfl (by decide)
      obtain rfl : v24 = .slice x k.size cx := s24
      obtain ⟨v31, h31, s31⟩ := hF.dep 8 31 rfl rfl (by decide)
      replace s31 : ∃ y c, v31 = .slice y M.size c ∧ IsBytes u v31 M := s31
      refine freeD_step hbu.size rfl (by rfl) (fun K' hK => ?_)
      obtain ⟨y, c, rfl, s31⟩ := s31
      go_wp2_with fail
      refine (HMac.out u y c hbu s31).mono ?_
      rintro e u' ⟨⟨y, c, rfl, hI⟩, hb⟩
      go_simp
      exact hK.out _ _ ⟨y, c, rfl, hI⟩ hb
    | 10, ho, hF =>
      obtain rfl := Option.some.inj ho
      obtain ⟨v32, h32, s32⟩ := hF.dep 9 32 rfl rfl (by decide)
      replace s32 : ∃ y c, v32 = .slice y 32 c ∧ IsBytes u v32 U := s32
      refine freeD_step hbu.size rfl (by rfl) (fun K' hK => ?_)
      go_simp
      exact hK.out _ _ s32 (Below.refl _ _)
    | n + 11, ho, _ => exact absurd (Array.getElem?_eq_some_iff.1 ho).1 (by show ¬ n + 11 < 11; omega)
  · intro vs u hS hbu
    exact hfin vs u (fun ix d h1 h2 => hS ix d h1 h2) hbu
def semSbO : Array Oper := #[{ dst := some 49, op := Go.Op.move (Go.Operand.tmp 14), type := 23, pos := "ref.go:198", after := #[], guard := none }, { dst := some 50, op := Go.Op.move (Go.Operand.tmp 16), type := 3, pos := "ref.go:198", after := #[], guard := none }, { dst := some 51, op := Go.Op.move (Go.Operand.tmp 14), type := 23, pos := "ref.go:198", after := #[], guard := none }, { dst := some 52, op := Go.Op.move (Go.Operand.tmp 16), type := 3, pos := "ref.go:198", after := #[], guard := none }, { dst := some 53, op := Go.Op.indexAddr 23 (Go.Operand.tmp 51) (Go.Operand.tmp 52), type := 0, pos := "ref.go:198", after := #[{ on := 2, ground := Go.Ground.data }, { on := 3, ground := Go.Ground.data }], guard := none }, { dst := some 54, op := Go.Op.load 5 (Go.Operand.tmp 53), type := 5, pos := "ref.go:198", after := #[{ on := 4, ground := Go.Ground.data }], guard := none }, { dst := some 55, op := Go.Op.move (Go.Operand.tmp 13), type := 23, pos := "ref.go:198", after := #[], guard := none }, { dst := some 56, op := Go.Op.move (Go.Operand.tmp 16), type := 3, pos := "ref.go:198", after := #[], guard := none }, { dst := some 57, op := Go.Op.indexAddr 23 (Go.Operand.tmp 55) (Go.Operand.tmp 56), type := 0, pos := "ref.go:198", after := #[{ on := 6, ground := Go.Ground.data }, { on := 7, ground := Go.Ground.data }], guard := none }, { dst := some 58, op := Go.Op.load 5 (Go.Operand.tmp 57), type := 5, pos := "ref.go:198", after := #[{ on := 8, ground := Go.Ground.data }], guard := none }, { dst := some 59, op := Go.Op.binOp Go.BinOp.xor 5 (Go.Operand.tmp 54) (Go.Operand.tmp 58) 5, type := 5, pos := "ref.go:198", after := #[{ on := 5, ground := Go.Ground.data }, { on := 9, ground := Go.Ground.data }], guard := none }, { dst := some 60, op := Go.Op.indexAddr 23 (Go.Operand.tmp 49) (Go.Operand.tmp 50), type := 0, pos := "ref.go:198", after := #[{ on := 0, ground := Go.Ground.data }, { on := 1, ground := Go.Ground.data }, { on := 0, ground := Go.Ground.phase }, { on := 1, ground := Go.Ground.phase }, { on := 2, ground := Go.Ground.phase }, { on := 3, ground := Go.Ground.phase }, { on := 4, ground := Go.Ground.phase }, { on := 5, ground := Go.Ground.phase }, { on := 6, ground := Go.Ground.phase }, { on := 7, ground := Go.Ground.phase }, { on := 8, ground := Go.Ground.phase }, { on := 9, ground := Go.Ground.phase }, { on := 10, ground := Go.Ground.phase }], guard := none }, { dst := none, op := Go.Op.store 5 (Go.Operand.tmp 60) (Go.Operand.tmp 59), type := 0, pos := "ref.go:198", after := #[{ on := 11, ground := Go.Ground.data }, { on := 10, ground := Go.Ground.data }, { on := 0, ground := Go.Ground.phase }, { on := 1, ground := Go.Ground.phase }, { on := 2, ground := Go.Ground.phase }, { on := 3, ground := Go.Ground.phase }, { on := 4, ground := Go.Ground.phase }, { on := 5, ground := Go.Ground.phase }, { on := 6, ground := Go.Ground.phase }, { on := 7, ground := Go.Ground.phase }, { on := 8, ground := Go.Ground.phase }, { on := 9, ground := Go.Ground.phase }, { on := 10, ground := Go.Ground.phase }], guard := none }]
def semSb (Xj Uj S j g cg ub uo cb bx : Nat) (L : List Nat) : Nat → Value → World → Prop := fun ix v u => match ix with
  | 0 => v = .slice (some ⟨g, 0, none⟩) 32 cg
  | 1 => v = .int .i64 (j : Int)
  | 2 => v = .slice (some ⟨g, 0, none⟩) 32 cg
  | 3 => v = .int .i64 (j : Int)
  | 4 => v = .pointer (some ⟨g, j, none⟩)
  | 5 => v = .int .u8 (Xj : Int)
  | 6 => v = .slice (some ⟨ub, uo, none⟩) 32 cb
  | 7 => v = .int .i64 (j : Int)
  | 8 => v = .pointer (some ⟨ub, uo + j, none⟩)
  | 9 => v = .int .u8 (Uj : Int)
  | 10 => v = .int .u8 (S : Int)
  | 11 => v = .pointer (some ⟨g, j, none⟩)
  | 12 => u.ownsRow bx 5 1 (.slice (some ⟨g, 0, none⟩) 32 cg) (L.set j S).length (kc .u8 (L.set j S)) ∧ v = v
  | _ => True
set_option maxHeartbeats 2000000 in
theorem semSbR (Xj Uj S j g cg ub uo cb bx : Nat) (L : List Nat)  {Q : Exit → Act → World → Prop} {a0 : Act} {u0 : World} (hsz : a0.tmps.size = 67) (v13 : a0.tmps[13]? = some (.slice (some ⟨ub, uo, none⟩) 32 cb)) (v14 : a0.tmps[14]? = some (.slice (some ⟨g, 0, none⟩) 32 cg)) (v16 : a0.tmps[16]? = some (.int .i64 (j : Int))) (hj : (j : Int) < 32) (hJ0 : u0.drew.ownsRow bx 5 1 (.slice (some ⟨g, 0, none⟩) 32 cg) L.length (kc .u8 L)) (hLj : L[j]? = some Xj) (HC : Hid (∀ u, u0.drew.grownBy u (some g) → u.cell? ⟨ub, uo + j, none⟩ = some (.int .u8 (Uj : Int)))) (q1 : bits .xor .u8 (Xj : Int) (Uj : Int) = (S : Int))
    (hfin : ∀ (vs : Nat → Value) u, (∀ ix d, ((semSbO[ix]?).bind (fun x => Oper.dst x)) = some d → semSb Xj Uj S j g cg ub uo cb bx L ix (vs ix) u) → u0.drew.grownBy u (some g) → (∃ v, semSb Xj Uj S j g cg ub uo cb bx L 12 v u) → Q .normal (putFrom vs a0 semSbO.toList 0) u) : (Code.region 14 semSbO true).wp Tryd.prog Q a0 u0 := by
  unfold semSbO
  refine freeZ_walk (Sem := semSb Xj Uj S j g cg ub uo cb bx L) (J := fun u => u.ownsRow bx 5 1 (.slice (some ⟨g, 0, none⟩) 32 cg) L.length (kc .u8 L)) 12 (fun j => j == 12) (some g) rfl (n := 67) (by kernel_rfl) hsz (by kernel_rfl) hJ0 ?_ ?_ ?_ (fun _ _ h hb => ownsRow_later h hb) (by decide) ?_ ?_ (by decide) ?_
  · intro j hj
    simp only [beq_iff_eq] at hj
    subst hj
    · exact .inl rfl
  · intro ix v u u' hl h hb
    match ix, h, hl with
    | 0, h, _ => exact h
    | 1, h, _ => exact h
    | 2, h, _ => exact h
    | 3, h, _ => exact h
    | 4, h, _ => exact h
    | 5, h, _ => exact h
    | 6, h, _ => exact h
    | 7, h, _ => exact h
    | 8, h, _ => exact h
    | 9, h, _ => exact h
    | 10, h, _ => exact h
    | 11, h, _ => exact h
    | 12, _, hl => exact absurd hl (by decide)
    | _ + 13, _, _ => exact trivial
  · intro ix v u u' hl h hb
    match ix, h, hl with
    | 0, _, hl => exact absurd hl (by decide)
    | 1, _, hl => exact absurd hl (by decide)
    | 2, _, hl => exact absurd hl (by decide)
    | 3, _, hl => exact absurd hl (by decide)
    | 4, _, hl => exact absurd hl (by decide)
    | 5, _, hl => exact absurd hl (by decide)
    | 6, _, hl => exact absurd hl (by decide)
    | 7, _, hl => exact absurd hl (by decide)
    | 8, _, hl => exact absurd hl (by decide)
    | 9, _, hl => exact absurd hl (by decide)
    | 10, _, hl => exact absurd hl (by decide)
    | 11, _, hl => exact absurd hl (by decide)
    | 12, h, _ => exact ⟨ownsRow_later h.1 hb, rfl⟩
    | _ + 13, _, _ => exact trivial
  · intro ix o a u ho hne hF hbu hJ hW
    match ix, ho, hF, hJ, hne, hW with
    | 0, ho, hF, hJ, _, hW =>
      obtain rfl := Option.some.inj ho
      have h14 : a.tmps[14]? = some (.slice (some ⟨g, 0, none⟩) 32 cg) := (hF.out 14 rfl).trans v14
      refine free_step rfl (by rfl) (fun K' hK => ?_)
      go_simp
      exact hK.out _ _ rfl (Below.refl _ _)
    | 1, ho, hF, hJ, _, hW =>
      obtain rfl := Option.some.inj ho
      have h16 : a.tmps[16]? = some (.int .i64 (j : Int)) := (hF.out 16 rfl).trans v16
      refine free_step rfl (by rfl) (fun K' hK => ?_)
      go_simp
      exact hK.out _ _ rfl (Below.refl _ _)
    | 2, ho, hF, hJ, _, hW =>
      obtain rfl := Option.some.inj ho
      have h14 : a.tmps[14]? = some (.slice (some ⟨g, 0, none⟩) 32 cg) := (hF.out 14 rfl).trans v14
      refine free_step rfl (by rfl) (fun K' hK => ?_)
      go_simp
      exact hK.out _ _ rfl (Below.refl _ _)
    | 3, ho, hF, hJ, _, hW =>
      obtain rfl := Option.some.inj ho
      have h16 : a.tmps[16]? = some (.int .i64 (j : Int)) := (hF.out 16 rfl).trans v16
      refine free_step rfl (by rfl) (fun K' hK => ?_)
      go_simp
      exact hK.out _ _ rfl (Below.refl _ _)
    | 4, ho, hF, hJ, _, hW =>
      obtain rfl := Option.some.inj ho
      obtain ⟨v51, h51, s51⟩ := hF.dep 2 51 rfl rfl
      obtain rfl : v51 = .slice (some ⟨g, 0, none⟩) 32 cg := s51
      obtain ⟨v52, h52, s52⟩ := hF.dep 3 52 rfl rfl
      obtain rfl : v52 = .int .i64 (j : Int) := s52
      refine free_step rfl (by rfl) (fun K' hK => ?_)
      go_simp
      exact hK.out _ _ rfl (Below.refl _ _)
    | 5, ho, hF, hJ, _, hW =>
      have hJu := hJ [] (by kernel_rfl)
      obtain rfl := Option.some.inj ho
      obtain ⟨v53, h53, s53⟩ := hF.dep 4 53 rfl rfl
      obtain rfl : v53 = .pointer (some ⟨g, j, none⟩) := s53
      have gx := (own_setG hJu hLj).2.2.2.2.1
      refine free_step rfl (by rfl) (fun K' hK => ?_)
      go_simp
      exact hK.out _ _ rfl (Below.refl _ _)
    | 6, ho, hF, hJ, _, hW =>
      obtain rfl := Option.some.inj ho
      have h13 : a.tmps[13]? = some (.slice (some ⟨ub, uo, none⟩) 32 cb) := (hF.out 13 rfl).trans v13
      refine free_step rfl (by rfl) (fun K' hK => ?_)
      go_simp
      exact hK.out _ _ rfl (Below.refl _ _)
    | 7, ho, hF, hJ, _, hW =>
      obtain rfl := Option.some.inj ho
      have h16 : a.tmps[16]? = some (.int .i64 (j : Int)) := (hF.out 16 rfl).trans v16
      refine free_step rfl (by rfl) (fun K' hK => ?_)
      go_simp
      exact hK.out _ _ rfl (Below.refl _ _)
    | 8, ho, hF, hJ, _, hW =>
      obtain rfl := Option.some.inj ho
      obtain ⟨v55, h55, s55⟩ := hF.dep 6 55 rfl rfl
      obtain rfl : v55 = .slice (some ⟨ub, uo, none⟩) 32 cb := s55
      obtain ⟨v56, h56, s56⟩ := hF.dep 7 56 rfl rfl
      obtain rfl : v56 = .int .i64 (j : Int) := s56
      refine free_step rfl (by rfl) (fun K' hK => ?_)
      go_simp
      exact hK.out _ _ rfl (Below.refl _ _)
    | 9, ho, hF, hJ, _, hW =>
      obtain rfl := Option.some.inj ho
      obtain ⟨v57, h57, s57⟩ := hF.dep 8 57 rfl rfl
      obtain rfl : v57 = .pointer (some ⟨ub, uo + j, none⟩) := s57
      have gx := HC.out u hbu
      refine free_step rfl (by rfl) (fun K' hK => ?_)
      go_simp
      exact hK.out _ _ rfl (Below.refl _ _)
    | 10, ho, hF, hJ, _, hW =>
      obtain rfl := Option.some.inj ho
      obtain ⟨v54, h54, s54⟩ := hF.dep 5 54 rfl rfl
      obtain rfl : v54 = .int .u8 (Xj : Int) := s54
      obtain ⟨v58, h58, s58⟩ := hF.dep 9 58 rfl rfl
      obtain rfl : v58 = .int .u8 (Uj : Int) := s58
      refine free_step rfl (by rfl) (fun K' hK => ?_)
      go_simp
      exact hK.out _ _ rfl (Below.refl _ _)
    | 11, ho, hF, hJ, _, hW =>
      obtain rfl := Option.some.inj ho
      obtain ⟨v49, h49, s49⟩ := hF.dep 0 49 rfl rfl
      obtain rfl : v49 = .slice (some ⟨g, 0, none⟩) 32 cg := s49
      obtain ⟨v50, h50, s50⟩ := hF.dep 1 50 rfl rfl
      obtain rfl : v50 = .int .i64 (j : Int) := s50
      refine free_step rfl (by rfl) (fun K' hK => ?_)
      go_simp
      exact hK.out _ _ rfl (Below.refl _ _)
    | 12, _, _, _, hne, _ => exact absurd rfl hne
    | n + 13, ho, _, _, _, _ => exact absurd (Array.getElem?_eq_some_iff.1 ho).1 (by show ¬ n + 13 < 13; omega)
  · intro o a u ho hF hbu hJu hW
    obtain rfl := Option.some.inj ho
    obtain ⟨v60, h60, s60⟩ := hF.dep 11 60 rfl rfl
    obtain rfl : v60 = .pointer (some ⟨g, j, none⟩) := s60
    obtain ⟨v59, h59, s59⟩ := hF.dep 10 59 rfl rfl
    obtain rfl : v59 = .int .u8 (S : Int) := s59
    refine freeZ_step rfl (by rfl) (fun K' hK => ?_)
    have gc := (own_setG hJu hLj).2.2.2.2.1
    have gf := (own_setG hJu hLj).2.2.2.2.2.1
    have gs := (own_setG hJu hLj).2.2.2.2.2.2 S
    go_simp
    exact hK.out undef _ ⟨gs, rfl⟩ (grown_setCell u ⟨g, j, none⟩ _)
  · intro vs u hS hbu hZ
    exact hfin vs u hS hbu hZ
end Go.Proofs.YtgehgcnaoapbbaaDoor
