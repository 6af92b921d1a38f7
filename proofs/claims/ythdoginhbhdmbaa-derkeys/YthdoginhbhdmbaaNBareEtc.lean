/-
  Package nat: the piece behind the leading noughts.
  Bytes as numbers, the greatest first: plain facts. (Out of NPl, which wants all of package nat.)
  Pieces (DER) as bytes: plain facts.
-/
import Derived.Test.YthdoginhbhdmbaaHGen
namespace Go.Proofs.Ythdoginhbhdmbaa
open Go.RowKit Ch
set_option maxRecDepth 100000

/-- Without leading noughts. -/
def bareL (l : List UInt8) : List UInt8 := l.dropWhile (· == 0)
theorem bareL_zero (l : List UInt8) : bareL (0 :: l) = bareL l := by simp [bareL]
theorem bareL_stop {c : UInt8} (h : c ≠ 0) (l : List UInt8) : bareL (c :: l) = c :: l := by simp [bareL, h]
set_option maxHeartbeats 2000000 in
theorem nBare_any (x : Option Addr) (cx : Nat) (s : ByteArray) (w : World) (hS : IsBytes w (.slice x s.size cx) s) (hs : s.size ≤ 1000000) :
    Calls Try.prog 60 #[.slice x s.size cx] w fun e w' => (∃ y m c, e = .returned (.slice y m c) ∧ m = (bareL s.data.toList).length ∧ IsBytes w (.slice y m c) ⟨(bareL s.data.toList).toArray⟩) ∧ w' = w := by
  have HS0 := show Hid (IsBytes w (.slice x s.size cx) ⟨(s.data.toList.drop 0).toArray⟩) from by unfold Hid; rw [List.drop_zero]; exact hS
  clear hS
  go_enter Try.func60, Try.ntmps60
  go_wp2_with fail
  go_loopw [0] (fun u wr => ∃ (p m c : Nat) (y : Option Addr), u = .slice y m c ∧ Hid (p + m = s.size) ∧ m ≤ 1000000 ∧ Hid (IsBytes w (.slice y m c) ⟨(s.data.toList.drop p).toArray⟩) ∧ Hid (bareL (s.data.toList.drop p) = bareL s.data.toList) ∧ wr = w) (fun u _ => lenOf u)
  case atStart => exact ⟨0, s.size, cx, x, rfl, by unfold Hid; omega, hs, HS0.out, by unfold Hid; rw [List.drop_zero], rfl⟩
  case round =>
    obtain ⟨p, m, c, y, rfl, hpm, hm, hB, hb, rfl⟩ := hrel
    have hl : (s.data.toList.drop p).length = m := by rw [List.length_drop, len_eq]; have := hpm.out; omega
    have hz : (⟨(s.data.toList.drop p).toArray⟩ : ByteArray).size = m := by rw [size_of_list]; exact hl
    by_cases h0 : 0 < m
    · have h02 : (0 : Int) < (m : Int) := by omega
      obtain ⟨d, rest, hd⟩ : ∃ d rest, s.data.toList.drop p = d :: rest := by
        rcases h : s.data.toList.drop p with _ | ⟨d, rest⟩
        · rw [h] at hl; simp at hl; omega
        · exact ⟨d, rest, rfl⟩
      obtain ⟨bb, oo, rfl, hbl, gc⟩ := IsBytes.cellAt (s := ⟨(s.data.toList.drop p).toArray⟩) (by rw [hz]; exact hB.out) (i := 0) (by rw [hz]; exact h0)
      have hby : byte ⟨(s.data.toList.drop p).toArray⟩ 0 = d.toNat := by rw [byte_list, List.toList_toArray, hd]; rfl
      rw [hby, Nat.add_zero] at gc
      have hcm : m ≤ c := by
        obtain ⟨_, _, e1, e2, _⟩ := hB.out
        simp only [Value.slice.injEq] at e1
        omega
      by_cases hd0 : d = 0
      · have hdz : ((d.toNat : Int) == 0) = true := by rw [hd0]; rfl
        have hrest := IsBytes.rest (s := ⟨(s.data.toList.drop p).toArray⟩) (by rw [hz]; exact hB.out) (k := 1) (by rw [hz]; omega)
        have hseg : seg ⟨(s.data.toList.drop p).toArray⟩ 1 (⟨(s.data.toList.drop p).toArray⟩ : ByteArray).size = s.data.toList.drop (p + 1) := by
          unfold seg
          rw [hz, List.toList_toArray, List.drop_drop, ← hl]
          exact List.take_of_length_le (by rw [List.length_drop, List.length_drop]; omega)
        rw [hseg, hz] at hrest
        have HRS := show Hid (IsBytes wr (.slice (if c = 1 then some ⟨bb, oo, none⟩ else (some ⟨bb, oo, none⟩ : Option Addr).map fun x => x.add 1) (m - 1) (c - 1)) ⟨(s.data.toList.drop (p + 1)).toArray⟩) from hrest
        have HB2 := show Hid (bareL (s.data.toList.drop (p + 1)) = bareL s.data.toList) from by
          unfold Hid
          rw [← hb.out, hd, hd0, bareL_zero]
          congr 1
          rw [← List.drop_drop, hd]
          rfl
        clear hrest hseg hB hb hl hz hby hd
        have h1m : (1 : Int) ≤ (m : Int) := by omega
        have h1c : (1 : Int) ≤ (c : Int) := by omega
        go_wp2_with fail
        go_roundw
        case rel => exact ⟨p + 1, m - 1, c - 1, _, by first | rfl | (congr 1; omega), by unfold Hid; have := hpm.out; omega, by omega, HRS.out, HB2.out, trivial⟩
        case measure => simp [lenOf]; omega
      · have hdz : ((d.toNat : Int) == 0) = false := by
          have : d.toNat ≠ 0 := fun h => hd0 (by rw [← UInt8.toNat_inj]; exact h)
          simp; omega
        have hbd : bareL s.data.toList = s.data.toList.drop p := by rw [← hb.out, hd, bareL_stop hd0]
        have HR := show Hid (m = (bareL s.data.toList).length ∧ IsBytes wr (.slice (some ⟨bb, oo, none⟩) m c) ⟨(bareL s.data.toList).toArray⟩) from ⟨by rw [hbd, hl], by rw [hbd]; exact hB.out⟩
        clear hbd hl hz hby hd hB hb
        go_wp2_with fail
        go_ret
        exact ⟨⟨_, _, _, rfl, HR.out.1, HR.out.2⟩, rfl⟩
    · have h02 : ¬ (0 : Int) < (m : Int) := by omega
      have hd : s.data.toList.drop p = [] := List.eq_nil_of_length_eq_zero (by omega)
      have hbd : bareL s.data.toList = [] := by rw [← hb.out, hd]; rfl
      have HR := show Hid (m = (bareL s.data.toList).length ∧ IsBytes wr (.slice y m c) ⟨(bareL s.data.toList).toArray⟩) from ⟨by rw [hbd]; simp; omega, by rw [hbd, ← hd]; exact hB.out⟩
      clear hbd hl hz hd hB hb
      go_wp2_with fail
      go_ret
      exact ⟨⟨_, _, _, rfl, HR.out.1, HR.out.2⟩, rfl⟩
end Go.Proofs.Ythdoginhbhdmbaa

namespace Go.Proofs.Ythdoginhbhdmbaa
open Go.RowKit Ch
set_option maxRecDepth 100000

theorem dropWhile_again {α : Type} (p : α → Bool) (l : List α) : (l.dropWhile p).dropWhile p = l.dropWhile p := by
  induction l with
  | nil => rfl
  | cons x l ih =>
    rw [List.dropWhile_cons]
    split
    · exact ih
    · rename_i h
      rw [List.dropWhile_cons, if_neg h]
/-- Bytes as a number, the greatest first. -/
def numB (l : List UInt8) : Nat := l.foldl (fun n c => n * 256 + c.toNat) 0
theorem numB_snoc (l : List UInt8) (c : UInt8) : numB (l ++ [c]) = numB l * 256 + c.toNat := by simp [numB]
theorem numB_from : ∀ (l : List UInt8) (n : Nat), l.foldl (fun n c => n * 256 + c.toNat) n = n * 256 ^ l.length + l.foldl (fun n c => n * 256 + c.toNat) 0 := by
  intro l
  induction l with
  | nil => intro n; simp
  | cons d l ih =>
    intro n
    rw [List.foldl_cons, ih, List.foldl_cons, ih (0 * 256 + d.toNat), List.length_cons, Nat.pow_succ, Nat.mul_comm (256 ^ l.length) 256, Nat.add_mul, ← Nat.mul_assoc, Nat.zero_mul, Nat.zero_add, Nat.add_assoc]
theorem numB_cons (c : UInt8) (l : List UInt8) : numB (c :: l) = c.toNat * 256 ^ l.length + numB l := by
  unfold numB
  rw [List.foldl_cons, numB_from]
  simp
theorem numB_lt (l : List UInt8) : numB l < 256 ^ l.length := by
  induction l with
  | nil => simp [numB]
  | cons c l ih =>
    rw [numB_cons, List.length_cons, Nat.pow_succ]
    have h1 := c.toNat_lt
    have h2 : (c.toNat + 1) * 256 ^ l.length ≤ 256 * 256 ^ l.length := Nat.mul_le_mul_right _ (by omega)
    rw [Nat.add_mul, Nat.one_mul] at h2
    rw [Nat.mul_comm (256 ^ l.length)]
    omega
theorem numB_bare (l : List UInt8) : numB (bareL l) = numB l := by
  induction l with
  | nil => rfl
  | cons c l ih =>
    by_cases h : c = 0
    · subst h
      rw [bareL_zero, ih, numB_cons]
      simp
    · rw [bareL_stop h]
theorem numB_ge {l : List UInt8} (h : bareL l = l) (h0 : l ≠ []) : 256 ^ (l.length - 1) ≤ numB l := by
  cases l with
  | nil => exact absurd rfl h0
  | cons c l =>
    have hc : c ≠ 0 := by
      intro e
      subst e
      rw [bareL_zero] at h
      have h1 : (bareL l).length ≤ l.length := (List.dropWhile_sublist _).length_le
      have := congrArg List.length h
      simp at this
      omega
    have hc2 : 1 ≤ c.toNat := by
      apply Nat.pos_of_ne_zero
      intro e
      exact hc (UInt8.toNat.inj e)
    rw [numB_cons]
    have : 1 * 256 ^ l.length ≤ c.toNat * 256 ^ l.length := Nat.mul_le_mul_right _ hc2
    simp
    omega
theorem numB_inj_len : ∀ (n : Nat) (l m : List UInt8), l.length = n → m.length = n → numB l = numB m → l = m := by
  intro n
  induction n with
  | zero =>
    intro l m h1 h2 _
    rw [List.eq_nil_of_length_eq_zero h1, List.eq_nil_of_length_eq_zero h2]
  | succ n ih =>
    intro l m h1 h2 h3
    rcases List.eq_nil_or_concat l with rfl | ⟨l', c, rfl⟩
    · simp at h1
    rcases List.eq_nil_or_concat m with rfl | ⟨m', d, rfl⟩
    · simp at h2
    rw [List.concat_eq_append] at h1 h3 ⊢
    rw [List.concat_eq_append] at h2 h3 ⊢
    rw [numB_snoc, numB_snoc] at h3
    have hc := c.toNat_lt
    have hd := d.toNat_lt
    have e1 : numB l' = numB m' := by omega
    have e2 : c.toNat = d.toNat := by omega
    rw [ih l' m' (by simpa using h1) (by simpa using h2) e1, UInt8.toNat.inj e2]
theorem numB_inj {l m : List UInt8} (hl : bareL l = l) (hm : bareL m = m) (h : numB l = numB m) : l = m := by
  have key : ∀ a b : List UInt8, bareL a = a → numB a = numB b → a.length ≤ b.length := by
    intro a b ha he
    apply Classical.byContradiction
    intro hn
    have h0 : a ≠ [] := by intro e; subst e; simp at hn
    have h1 := numB_ge ha h0
    have h2 := numB_lt b
    have h3 : 256 ^ b.length ≤ 256 ^ (a.length - 1) := Nat.pow_le_pow_right (by decide) (by omega)
    omega
  have h1 := key l m hl h
  have h2 := key m l hm h.symm
  exact numB_inj_len _ l m rfl (by omega) h
theorem numB_take {l : List UInt8} {i : Nat} {c : UInt8} (h : l[i]? = some c) : numB (l.take (i + 1)) = numB (l.take i) * 256 + c.toNat := by
  rw [List.take_add_one, h]
  exact numB_snoc _ _
end Go.Proofs.Ythdoginhbhdmbaa

namespace Go.Proofs.Ythdoginhbhdmbaa
open Go.RowKit Ch
set_option maxRecDepth 100000

/-- A length's bytes: the length and what is left, or the error. -/
def lenL : List UInt8 → Except Nat (Nat × List UInt8)
  | [] => .error 11
  | f :: r => if f.toNat < 128 then .ok (f.toNat, r) else
    if f.toNat = 128 ∨ 131 < f.toNat then .error 10 else
    if r.length < f.toNat - 128 then .error 11 else
    if r.head? = some 0 ∨ numB (r.take (f.toNat - 128)) < 128 then .error 10 else
    if 1048576 ≤ numB (r.take (f.toNat - 128)) then .error 12 else .ok (numB (r.take (f.toNat - 128)), r.drop (f.toNat - 128))
/-- The piece with which bytes begin, and what is left, or the error. -/
def pieceL : List UInt8 → Except Nat ((UInt8 × List UInt8) × List UInt8)
  | [] => .error 11
  | t :: r => if t.toNat % 32 = 31 then .error 10 else match lenL r with
    | .error k => .error k
    | .ok (n, s) => if s.length < n then .error 11 else .ok ((t, s.take n), s.drop n)
/-- All pieces of bytes. -/
def splitL : Nat → List UInt8 → Except Nat (List (UInt8 × List UInt8))
  | 0, _ => .ok []
  | f + 1, b => if b = [] then .ok [] else match pieceL b with
    | .error k => .error k
    | .ok (p, r) => match splitL f r with
      | .error k => .error k
      | .ok ps => .ok (p :: ps)
/-- A length as bytes. -/
def lenB (n : Nat) : List UInt8 := if n < 128 then [UInt8.ofNat n] else UInt8.ofNat (128 + (bareL [UInt8.ofNat (n / 65536), UInt8.ofNat (n / 256), UInt8.ofNat n]).length) :: bareL [UInt8.ofNat (n / 65536), UInt8.ofNat (n / 256), UInt8.ofNat n]
def putL1 (p : UInt8 × List UInt8) : List UInt8 := p.1 :: (lenB p.2.length ++ p.2)
def putL : List (UInt8 × List UInt8) → List UInt8
  | [] => []
  | p :: ps => putL1 p ++ putL ps
theorem putL_append (a b : List (UInt8 × List UInt8)) : putL (a ++ b) = putL a ++ putL b := by
  induction a with
  | nil => rfl
  | cons p a ih => rw [List.cons_append, putL, putL, ih, List.append_assoc]
def tagOk (t : UInt8) : Prop := t.toNat % 32 ≠ 31
def pieceOk (p : UInt8 × List UInt8) : Prop := tagOk p.1 ∧ p.2.length < 1048576
theorem ofNat_small {n : Nat} (h : n < 256) : (UInt8.ofNat n).toNat = n := by simp [Nat.mod_eq_of_lt h]
theorem bare3 (a b c : UInt8) : bareL [a, b, c] = if a = 0 then (if b = 0 then (if c = 0 then [] else [c]) else [b, c]) else [a, b, c] := by
  unfold bareL
  by_cases ha : a = 0
  · subst ha
    rw [if_pos rfl]
    by_cases hb : b = 0
    · subst hb
      rw [if_pos rfl]
      by_cases hc : c = 0
      · subst hc
        rfl
      · rw [if_neg hc]
        simp [hc]
    · rw [if_neg hb]
      simp [hb]
  · rw [if_neg ha]
    simp [ha]
theorem u8_zero {n : Nat} (h : n < 256) : UInt8.ofNat n = 0 ↔ n = 0 := by
  constructor
  · intro e
    have := congrArg UInt8.toNat e
    rw [ofNat_small h] at this
    exact this
  · intro e
    rw [e]
    rfl
theorem u8_mod (n : Nat) : UInt8.ofNat n = UInt8.ofNat (n % 256) := by
  apply UInt8.toNat_inj.1
  simp
/-- The bytes of a great length: how many, and which. -/
theorem len_forms {n : Nat} (h : 128 ≤ n) (hn : n < 1048576) : ∃ ds : List UInt8, bareL [UInt8.ofNat (n / 65536), UInt8.ofNat (n / 256), UInt8.ofNat n] = ds ∧ 1 ≤ ds.length ∧ ds.length ≤ 3 ∧ numB ds = n ∧ ds.head? ≠ some 0 := by
  have hnum := numB_bare [UInt8.ofNat (n / 65536), UInt8.ofNat (n / 256), UInt8.ofNat n]
  have e2 : (UInt8.ofNat (n / 65536)).toNat = n / 65536 := ofNat_small (by omega)
  have e1 : (UInt8.ofNat (n / 256)).toNat = n / 256 % 256 := by simp
  have e0 : (UInt8.ofNat n).toNat = n % 256 := by simp
  have hv : numB [UInt8.ofNat (n / 65536), UInt8.ofNat (n / 256), UInt8.ofNat n] = n := by
    simp only [numB, List.foldl_cons, List.foldl_nil, e2, e1, e0]
    omega
  rw [hv] at hnum
  refine ⟨_, rfl, ?_, ?_, hnum, ?_⟩
  · apply Nat.pos_of_ne_zero
    intro e
    rw [List.eq_nil_of_length_eq_zero e] at hnum
    simp [numB] at hnum
    omega
  · exact (List.dropWhile_sublist _).length_le
  · rw [bare3]
    split
    · split
      · split
        · simp
        · rename_i h3
          simp [h3]
      · rename_i h2
        simp [h2]
    · rename_i h1
      simp [h1]
theorem lenL_lenB {n : Nat} (hn : n < 1048576) (r : List UInt8) : lenL (lenB n ++ r) = .ok (n, r) := by
  unfold lenB
  by_cases h : n < 128
  · rw [if_pos h]
    simp only [List.cons_append, List.nil_append, lenL]
    rw [ofNat_small (by omega), if_pos h]
  · rw [if_neg h]
    obtain ⟨ds, e, h1, h3, hv, h0⟩ := len_forms (n := n) (by omega) hn
    rw [e]
    simp only [List.cons_append, lenL]
    rw [ofNat_small (by omega), if_neg (by omega), if_neg (by omega), Nat.add_sub_cancel_left, if_neg (by rw [List.length_append]; omega)]
    have e2 : (ds ++ r).take ds.length = ds := by simp
    have e3 : (ds ++ r).drop ds.length = r := by simp
    have e4 : (ds ++ r).head? = ds.head? := by
      cases ds with
      | nil => simp at h1
      | cons a l => rfl
    rw [e2, e3, e4, hv, if_neg (by intro h; rcases h with h | h; exact h0 h; omega), if_neg (by omega)]
theorem pieceL_put {p : UInt8 × List UInt8} (h : pieceOk p) (r : List UInt8) : pieceL (putL1 p ++ r) = .ok (p, r) := by
  unfold putL1
  simp only [List.cons_append, pieceL]
  rw [if_neg h.1, List.append_assoc, lenL_lenB h.2]
  simp
/-- A length that was read is written as it was. -/
theorem lenL_back {b r : List UInt8} {n : Nat} (h : lenL b = .ok (n, r)) : lenB n ++ r = b ∧ n < 1048576 := by
  cases b with
  | nil => cases h
  | cons f s =>
    simp only [lenL] at h
    have hf := f.toNat_lt
    by_cases h1 : f.toNat < 128
    · rw [if_pos h1] at h
      simp only [Except.ok.injEq, Prod.mk.injEq] at h
      obtain ⟨rfl, rfl⟩ := h
      refine ⟨?_, by omega⟩
      unfold lenB
      rw [if_pos h1]
      simp
    · rw [if_neg h1] at h
      split at h
      · cases h
      · rename_i h2
        split at h
        · cases h
        · rename_i h3
          split at h
          · cases h
          · rename_i h4
            split at h
            · cases h
            · rename_i h5
              simp only [Except.ok.injEq, Prod.mk.injEq] at h
              obtain ⟨rfl, rfl⟩ := h
              generalize hc : f.toNat - 128 = c at *
              refine ⟨?_, by omega⟩
              obtain ⟨ds, e, g1, g3, hv, h0⟩ := len_forms (n := numB (s.take c)) (by omega) (by omega)
              have hd : ds = s.take c := by
                refine numB_inj ?_ ?_ hv
                · cases ds with
                  | nil => rfl
                  | cons a l =>
                    unfold bareL
                    rw [List.dropWhile_cons_of_neg]
                    intro hz
                    exact h0 (by simp at hz; rw [hz]; rfl)
                · cases hs : s.take c with
                  | nil => rfl
                  | cons a l =>
                    unfold bareL
                    rw [List.dropWhile_cons_of_neg]
                    intro hz
                    refine h4 (.inl ?_)
                    cases s with
                    | nil => simp at hs
                    | cons a' s' =>
                      cases c with
                      | zero => simp at hs
                      | succ c =>
                        simp at hs
                        simp at hz
                        rw [hs.1, hz]
                        rfl
              unfold lenB
              rw [if_neg (by omega), e, hd]
              have hl : (s.take c).length = c := by rw [List.length_take]; omega
              rw [hl, List.cons_append, List.take_append_drop]
              congr 1
              apply UInt8.toNat_inj.1
              rw [ofNat_small (by omega)]
              omega
theorem pieceL_back {b r : List UInt8} {p : UInt8 × List UInt8} (h : pieceL b = .ok (p, r)) : putL1 p ++ r = b ∧ pieceOk p := by
  cases b with
  | nil => cases h
  | cons t s =>
    simp only [pieceL] at h
    split at h
    · cases h
    · rename_i h1
      cases hl : lenL s with
      | error k => rw [hl] at h; cases h
      | ok y =>
        obtain ⟨n, q⟩ := y
        rw [hl] at h
        simp only at h
        split at h
        · cases h
        · rename_i h2
          simp only [Except.ok.injEq, Prod.mk.injEq] at h
          obtain ⟨rfl, rfl⟩ := h
          obtain ⟨h3, h4⟩ := lenL_back hl
          have hlq : (q.take n).length = n := by rw [List.length_take]; omega
          refine ⟨?_, h1, by rw [hlq]; exact h4⟩
          unfold putL1
          simp only [List.cons_append, hlq, List.append_assoc, List.take_append_drop]
          rw [h3]
theorem putL1_length (p : UInt8 × List UInt8) : 2 ≤ (putL1 p).length := by
  unfold putL1 lenB
  split <;> simp <;> omega
theorem splitL_put : ∀ (ps : List (UInt8 × List UInt8)) (f : Nat), (∀ p ∈ ps, pieceOk p) → ps.length ≤ f → splitL f (putL ps) = .ok ps
  | [], f, _, _ => by
    cases f with
    | zero => rfl
    | succ f => rw [splitL]; rfl
  | p :: ps, f, h, hf => by
    cases f with
    | zero => simp at hf
    | succ f =>
      have h2 := putL1_length p
      have h3 : putL1 p ++ putL ps ≠ [] := by
        intro e
        have h4 : (putL1 p ++ putL ps).length = 0 := by rw [e]; rfl
        rw [List.length_append] at h4
        omega
      rw [splitL, putL, if_neg h3, pieceL_put (h p (by simp))]
      dsimp only
      rw [splitL_put ps f (fun q hq => h q (by simp [hq])) (by simpa using hf)]
theorem splitL_back : ∀ (f : Nat) (b : List UInt8) (ps : List (UInt8 × List UInt8)), b.length ≤ f → splitL f b = .ok ps → putL ps = b ∧ ∀ p ∈ ps, pieceOk p
  | 0, b, ps, hf, h => by
    have hb : b = [] := List.eq_nil_of_length_eq_zero (by omega)
    simp only [splitL, Except.ok.injEq] at h
    subst h hb
    exact ⟨rfl, fun p hp => by cases hp⟩
  | f + 1, b, ps, hf, h => by
    rw [splitL] at h
    split at h
    · rename_i hb
      simp only [Except.ok.injEq] at h
      subst h hb
      exact ⟨rfl, fun p hp => by cases hp⟩
    · cases hp : pieceL b with
      | error k => rw [hp] at h; cases h
      | ok y =>
        obtain ⟨p, r⟩ := y
        rw [hp] at h
        simp only at h
        obtain ⟨h1, h2⟩ := pieceL_back hp
        have hlen : r.length ≤ f := by
          have h3 := congrArg List.length h1
          have h4 := putL1_length p
          rw [List.length_append] at h3
          omega
        cases hs : splitL f r with
        | error k => rw [hs] at h; cases h
        | ok qs =>
          rw [hs] at h
          simp only [Except.ok.injEq] at h
          subst h
          obtain ⟨h5, h6⟩ := splitL_back f r qs hlen hs
          refine ⟨by rw [putL, h5, h1], fun q hq => ?_⟩
          rcases List.mem_cons.1 hq with rfl | hq
          · exact h2
          · exact h6 q hq
end Go.Proofs.Ythdoginhbhdmbaa
