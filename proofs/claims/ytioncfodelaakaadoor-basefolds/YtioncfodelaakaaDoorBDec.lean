/-
  The document's Decode, for every text.
-/
import Derived.Test.YtioncfodelaakaaDoorBEnc
import Derived.Test.YtioncfodelaakaaDoorBPlain2
import Derived.Test.YtioncfodelaakaaDoorBUnhex
namespace Go.Proofs.YtioncfodelaakaaDoor
open Go.RowKit Ch

def isBlank8 (c : UInt8) : Bool := decide (c.toNat = 32 ∨ c.toNat = 9 ∨ c.toNat = 10 ∨ c.toNat = 13)
/-- The text without its blanks. -/
def keptL (l : List UInt8) : List UInt8 := l.filter fun c => !isBlank8 c
/-- A sign, or '='. -/
def okSign (c : UInt8) : Bool := c == 61 || (sixO c.toNat).isSome
theorem keptL_blank {c : UInt8} {r : List UInt8} (h : isBlank8 c = true) : keptL (c :: r) = keptL r := by unfold keptL; rw [List.filter_cons, h]; rfl
theorem keptL_sign {c : UInt8} {r : List UInt8} (h : isBlank8 c = false) : keptL (c :: r) = c :: keptL r := by unfold keptL; rw [List.filter_cons, h]; rfl

set_option maxHeartbeats 400000 in
theorem sBlank_any (c : UInt8) (w : World) : Calls Tryd.prog 33 #[.int .u8 (c.toNat : Int)] w fun e w' => e = .returned (.bool (isBlank8 c)) ∧ w' = w := by
  obtain ⟨x, hx⟩ : ∃ x, c.toNat = x := ⟨_, rfl⟩
  unfold isBlank8
  rw [hx]
  by_cases h1 : x = 32
  · subst h1
    go_enter Tryd.func33, Tryd.ntmps33
    go_wp2
    go_ret
    exact ⟨rfl, rfl⟩
  by_cases h2 : x = 9
  · subst h2
    go_enter Tryd.func33, Tryd.ntmps33
    go_wp2
    go_ret
    exact ⟨rfl, rfl⟩
  by_cases h3 : x = 10
  · subst h3
    go_enter Tryd.func33, Tryd.ntmps33
    go_wp2
    go_ret
    exact ⟨rfl, rfl⟩
  by_cases h4 : x = 13
  · subst h4
    go_enter Tryd.func33, Tryd.ntmps33
    go_wp2
    go_ret
    exact ⟨rfl, rfl⟩
  have e1 : ((x : Int) == 32) = false := beq_eq_false_iff_ne.2 (by omega)
  have e2 : ((x : Int) == 9) = false := beq_eq_false_iff_ne.2 (by omega)
  have e3 : ((x : Int) == 10) = false := beq_eq_false_iff_ne.2 (by omega)
  have e4 : ((x : Int) == 13) = false := beq_eq_false_iff_ne.2 (by omega)
  have hf : Hid (decide (x = 32 ∨ x = 9 ∨ x = 10 ∨ x = 13) = false) := decide_eq_false (by omega)
  clear h1 h2 h3 h4
  go_enter Tryd.func33, Tryd.ntmps33
  go_wp2
  go_ret
  exact ⟨ret_bool hf.out.symm, rfl⟩
theorem sSix_u8 (c : UInt8) (w : World) : Calls Tryd.prog 34 #[.int .u8 (c.toNat : Int)] w fun e w' => e = .returned (.int .i64 (sixZ c.toNat)) ∧ w' = w := sSix_any c.toNat w
theorem sixZ_neg {c : Nat} : sixZ c < 0 ↔ (sixO c).isSome = false := by
  unfold sixZ
  cases sixO c with
  | none => simp
  | some n => simp
theorem sixZ_six8 {c : UInt8} (h : (sixO c.toNat).isSome = true) : sixZ c.toNat = (six8 c : Int) := by
  unfold sixZ six8
  cases e : sixO c.toNat with
  | none => rw [e] at h; cases h
  | some n => rfl

theorem info3 : ∃ i, Tryd.prog.info? 3 = some i ∧ i.zero = some (.int .i64 0) ∧ i.size = 1 ∧ i.bytes = 8 := info_parts (by kernel_rfl)
/-- The cells of a list of numbers. -/
def intCells (l : List Nat) : List Value := l.map fun (x : Nat) => Value.int .i64 (x : Int)
theorem intCells_length (l : List Nat) : (intCells l).length = l.length := by simp [intCells]

/-- append of one number that was just laid down, onto what the call owns. -/
theorem wpList_append_int {w0 wr : World} {ops : Array Oper} {rest : List Oper} {o : Oper} {ac : Act} {Q : Exit → Act → World → Prop} (hgd : o.guard = none) (so x : Operand)
    (ho : o.op = .call { callee := .builtin .append, args := #[so, x], argTypes := #[61, 61] })
    (base : Nat) (v : Value) (acc : List Nat) (hs : ac.eval so = v) (hown : wr.ownsRow base 3 1 v acc.length (intCells acc))
    (z : Int) (hx : ac.eval x = .slice (some ⟨wr.heap.size, 0, none⟩) 1 1) (c : Nat) (hc : Hid (z = (c : Int))) (acc' : List Nat) (he : Hid (acc ++ [c] = acc')) (hlen : acc.length ≤ 10000000) (hbase : base ≤ wr.heap.size) (hb : Below base w0 wr)
    (h : ∀ v' w', w'.ownsRow base 3 1 v' acc'.length (intCells acc') → Below base w0 w' → wpList Tryd.prog ops Q rest (ac.put o.dst v') w') :
    wpList Tryd.prog ops Q (o :: rest) ac (wr.alloc (.cells #[.int .i64 z] 3)) := by
  obtain ⟨i0, hi, hz0, hz1, hz2⟩ := info3
  refine wpList_append_own _ hgd _ _ 61 ho base 3 i0 (.int .i64 0) 1 8 Tryd.underlying61 hi hz0 hz1 hz2 rfl (by decide) v _ _ hs (hown.alloc _) ⟨wr.heap.size, 0, none⟩ 1 1 [_] hx rfl (cell_one_new _ _ _) (by intro u hu; simp at hu; subst hu; rfl) (by unfold maxLen; omega) (by omega) (by simp; omega) ?_
  intro v' w2 hown2 hgrow _
  have hb2 := below_grown hb hbase hown hgrow
  refine h v' w2 ?_ hb2
  have e1 : intCells acc' = intCells acc ++ [.int .i64 z] := by rw [← he.out, hc.out]; simp [intCells]
  have e2 : acc'.length = acc.length + 1 := by rw [← he.out]; simp
  rw [e1, e2]
  exact hown2
theorem snoc_exN (l : List Nat) (c : Nat) : ∃ l', Hid (l ++ [c] = l') ∧ l'.length ≤ l.length + 1 := ⟨_, rfl, by simp⟩

theorem bitsL_cons {c : UInt8} {r : List UInt8} (h : c ≠ 61) : bitsL (c :: r) = bits6 (six8 c) ++ bitsL r := by
  unfold bitsL bodyL
  rw [List.takeWhile_cons]
  have : (c != 61) = true := by simpa using h
  rw [this]
  rfl
theorem bitsL_stop {r : List UInt8} : bitsL (61 :: r) = [] := rfl
theorem bitsL_length_le (t : List UInt8) : (bitsL t).length ≤ 6 * t.length := by
  unfold bitsL
  have h : (bodyL t).length ≤ t.length := (List.takeWhile_sublist _).length_le
  have : ∀ l : List UInt8, (l.flatMap fun c => bits6 (six8 c)).length = 6 * l.length := by
    intro l
    induction l with
    | nil => rfl
    | cons a l ih => rw [List.flatMap_cons, List.length_append, ih, List.length_cons]; simp [bits6]; omega
  rw [this]
  omega
theorem bitsL_lt' {T : List UInt8} {B : List Nat} (h : bitsL T = B) : ∀ x ∈ B, x < 2 := by rw [← h]; exact bitsL_lt T
theorem bits6_take (n : Nat) {q k : Nat} (h : q + k = 5) : (bits6 n).take (q + 1) = (bits6 n).take q ++ [n / 2 ^ k % 2] := by
  have : q = 0 ∨ q = 1 ∨ q = 2 ∨ q = 3 ∨ q = 4 ∨ q = 5 := by omega
  rcases this with rfl | rfl | rfl | rfl | rfl | rfl
  · obtain rfl : k = 5 := by omega
    rfl
  · obtain rfl : k = 4 := by omega
    rfl
  · obtain rfl : k = 3 := by omega
    rfl
  · obtain rfl : k = 2 := by omega
    rfl
  · obtain rfl : k = 1 := by omega
    rfl
  · obtain rfl : k = 0 := by omega
    simp [bits6]
/-- The cell of a byte, the cell of a number. -/
theorem cell_at {w : World} {a : Option Addr} {n cap : Nat} {T : List UInt8} {c : UInt8} {i : Nat} (h : IsBytes w (.slice a n cap) ⟨T.toArray⟩) (hi : T[i]? = some c) : ∃ g o, a = some ⟨g, o, none⟩ ∧ g < w.heap.size ∧ w.cell? ⟨g, o + i, none⟩ = some (.int .u8 (c.toNat : Int)) ∧ n ≤ cap ∧ cap ≤ maxLen := by
  have hlt : i < T.length := (List.getElem?_eq_some_iff.1 hi).1
  have hsz : (⟨T.toArray⟩ : ByteArray).size = T.length := size_of_list T
  obtain ⟨a', cap', hv, hc, hm, ⟨_, h0, _⟩ | ⟨x, ha, h0 | ⟨b, o, hx, hb, hf⟩⟩⟩ := h
  · omega
  · omega
  · simp only [Value.slice.injEq] at hv
    obtain ⟨rfl, rfl, rfl⟩ := hv
    refine ⟨b, o, by rw [ha, hx], hb, ?_, hc, hm⟩
    rw [byte_cell hf (by omega), byte_list]
    show some (Value.int .u8 (((T.toArray.toList[i]?).getD 0).toNat : Int)) = _
    rw [List.toList_toArray, hi]
    rfl
theorem int_at {w : World} {base n : Nat} {v : Value} {B : List Nat} {x i : Nat} (h : w.ownsRow base 3 1 v n (intCells B)) (hi : B[i]? = some x) : ∃ g cap, v = .slice (some ⟨g, 0, none⟩) n cap ∧ w.cell? ⟨g, i, none⟩ = some (.int .i64 (x : Int)) ∧ n ≤ cap ∧ cap ≤ maxLen := by
  have hcl := fun g (hg : v.ownBlock = some g) => World.ownsRow.cells h hg
  have hlen := h.1
  rcases h.2 with ⟨hv, h0⟩ | ⟨g, cap, cur, hv, hb, hh, hcap, hmax, _⟩
  · have hlt : i < B.length := (List.getElem?_eq_some_iff.1 hi).1
    rw [intCells_length] at hlen
    omega
  · have e1 : (intCells B)[i]? = some (.int .i64 (x : Int)) := by unfold intCells; rw [List.getElem?_map, hi]; rfl
    have := hcl g (by rw [hv]; rfl) i _ e1
    have e : (⟨g, 0, none⟩ : Addr).add i = ⟨g, 0 + i, none⟩ := by unfold Addr.add; split <;> simp_all
    rw [e, Nat.zero_add] at this
    exact ⟨g, cap, hv, this, hcap, hmax⟩
/-- What the document answers: the error, and the bytes. -/
def DecSaid (l : List UInt8) (E : Int) (b : ByteArray) : Prop :=
  (E = 13 ∧ b = ⟨#[]⟩ ∧ (keptL l).all okSign = false) ∨ ((keptL l).all okSign = true ∧ ((E = 10 ∧ b = ⟨#[]⟩ ∧ ∀ x : ByteArray, encL x ≠ keptL l) ∨ (E = 0 ∧ encL b = keptL l)))
theorem dec_bad {l acc r : List UInt8} {c : UInt8} (h : acc ++ keptL (c :: r) = keptL l) (hb : isBlank8 c = false) (hc : okSign c = false) : DecSaid l 13 ⟨#[]⟩ := by
  refine .inl ⟨rfl, rfl, ?_⟩
  rw [← h, keptL_sign hb]
  simp [hc]
theorem dec_form {l : List UInt8} (h : (keptL l).all okSign = true) (hne : encL ⟨(readL (keptL l)).toArray⟩ ≠ keptL l) : DecSaid l 10 ⟨#[]⟩ := by
  refine .inr ⟨h, .inl ⟨rfl, rfl, fun x hx => hne ?_⟩⟩
  rw [← hx, read_enc]
theorem dec_ok {l : List UInt8} (h : (keptL l).all okSign = true) (he : encL ⟨(readL (keptL l)).toArray⟩ = keptL l) : DecSaid l 0 ⟨(readL (keptL l)).toArray⟩ := .inr ⟨h, .inr ⟨rfl, he⟩⟩
end Go.Proofs.YtioncfodelaakaaDoor
