/-
  The statement that unlike bytes are written unlike, and bytes in threes one behind the other; told what the program's own functions answer.
-/
import Derived.Test.YtioncfodelaakaaDoorBLaw2
namespace Go.Proofs.YtioncfodelaakaaDoor
open Go.RowKit Ch

theorem text_beq (A B : ByteArray) : (A.toList == B.toList) = decide (A = B) := by
  by_cases h : A = B
  · subst h; rw [text_eq]; simp
  · rw [text_ne h]; simp [h]
theorem list_inj {l r : List UInt8} (h : (⟨l.toArray⟩ : ByteArray) = ⟨r.toArray⟩) : l = r := by
  have := congrArg (fun z : ByteArray => z.data.toList) h
  simpa using this
theorem enc_beq (s t : ByteArray) : ((⟨(encL s).toArray⟩ : ByteArray).toList == (⟨(encL t).toArray⟩ : ByteArray).toList) = (s.toList == t.toList) := by
  rw [text_beq, text_beq]
  exact decide_eq_decide.2 ⟨fun h => enc_inj (list_inj h), fun h => by rw [h]⟩
theorem hex_beq (s t : ByteArray) : ((⟨(hexL s.data.toList).toArray⟩ : ByteArray).toList == (⟨(hexL t.data.toList).toArray⟩ : ByteArray).toList) = (s.toList == t.toList) := by
  rw [text_beq, text_beq]
  exact decide_eq_decide.2 ⟨fun h => ByteArray.ext (Array.toList_inj.1 (hex_inj (list_inj h))), fun h => by rw [h]⟩
theorem enc_threes (V t : ByteArray) (q : Nat) (h : V.size = 3 * q) : ((⟨(encL (cat V t)).toArray⟩ : ByteArray).toList == ((⟨(encL V).toArray⟩ : ByteArray) ++ (⟨(encL t).toArray⟩ : ByteArray)).toList) = true := by
  rw [text_beq, decide_eq_true_eq, enc_cat V t q h]
  apply ByteArray.ext
  apply Array.toList_inj.1
  simp

/-- append of bytes, nil or not, onto what the call owns: at a step of a region that draws its order. -/
theorem step_append_bytes {w : World} {ops : Array Oper} {o : Oper} {a : Act} {K : Act → World → Prop} {Q : Exit → Act → World → Prop} {E : Prop} (hgd : o.guard = none) (so x : Operand)
    (ho : o.op = .call { callee := .builtin .append, args := #[so, x], argTypes := #[22, 22] })
    (base : Nat) (v : Value) (s : ByteArray) (hs : a.eval so = v) (hown : w.ownsRow base 5 1 v s.size (byteVals s))
    (u : Value) (t : ByteArray) (hx : a.eval x = u) (hu : IsBytes w u t) (hsz : s.size + t.size ≤ 1000000) (hbase : base ≤ w.heap.size) (r : ByteArray) (hr : Hid (cat s t = r))
    (h : ∀ a' cap' w', w'.ownsRow base 5 1 (.slice a' r.size cap') r.size (byteVals r) → Below base w w' → K (a.put o.dst (.slice a' r.size cap')) w') :
    if Region.wanted o (yielded ops a.tmps) = true then Oper.wp Tryd.prog o a w K Q else E := by
  have hw : Region.wanted o (yielded ops a.tmps) = true := by simp [Region.wanted, hgd]
  rw [if_pos hw]
  rw [← hr.out] at h
  obtain ⟨i0, hi, hz0, hz1, hz2⟩ := info5
  have hv : byteVals (cat s t) = byteVals s ++ byteVals t := by simp [byteVals, cat]
  obtain ⟨b, cap, rfl, hc, hm, hrest⟩ := hu
  match b, hrest with
  | none, hrest =>
    have h0 : t.size = 0 ∧ cap = 0 := by
      rcases hrest with ⟨_, h0, h1⟩ | ⟨_, h0, _⟩
      · exact ⟨h0, h1⟩
      · cases h0
    have ht : byteVals t = [] := List.eq_nil_of_length_eq_zero (by rw [byteVals_length]; exact h0.1)
    rw [h0.1, h0.2] at hx
    have hrun := run_append_owned_none (P := Tryd.prog) (w := w) base 22 o.type 5 i0 1 Tryd.underlying22 hi v s.size _ hown
    obtain ⟨a', cap', rfl⟩ := own_shape hown
    have hk := h a' cap' w
    rw [hv, ht, List.append_nil, cat_size, h0.1, Nat.add_zero] at hk
    have := hk hown (Below.refl _ _)
    unfold Oper.wp
    simp [execOp, ho, resolve, invoke, builtin, hs, hx, hrun, Result.andThen]
    exact this
  | some y, hrest =>
    refine wp_append_own w so x 22 ho base 5 i0 (.int .u8 0) 1 1 Tryd.underlying22 hi hz0 hz1 hz2 rfl (by decide) v s.size _ hs hown y t.size cap (byteVals t) hx (by rw [byteVals_length]; omega) (IsBytes.news (n := t.size) (cap := cap) ⟨some y, cap, rfl, hc, hm, hrest⟩) (byteVals_one t) (by unfold maxLen; omega) (by omega) hbase ?_
    intro v' w' ho' hg _
    rw [← hv, ← cat_size] at ho'
    obtain ⟨a', cap', rfl⟩ := own_shape ho'
    exact h a' cap' w' ho' ((Below.refl _ w).grown hg hbase (own_ge hown))
end Go.Proofs.YtioncfodelaakaaDoor
