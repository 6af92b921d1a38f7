/-
  The program's ParseQuery.
-/
import Derived.Test.YtnkefpopkaagaaaDoorFPair
import Derived.Test.YtnkefpopkaagaaaDoorEArg
import Derived.Shelf.Strings.FieldsFuncAny
namespace Go.Proofs.YtnkefpopkaagaaaDoor
open Go.RowKit Ch
set_option maxRecDepth 100000

def asBA (p : List UInt8 × List UInt8) : ByteArray × ByteArray := (⟨p.1.toArray⟩, ⟨p.2.toArray⟩)
def pairCells (l : List (List UInt8 × List UInt8)) : List Value := l.flatMap fun p => [Value.string ⟨p.1.toArray⟩, Value.string ⟨p.2.toArray⟩]
theorem pairCells_snoc (l : List (List UInt8 × List UInt8)) (a b : List UInt8) : pairCells l ++ [Value.string ⟨a.toArray⟩, Value.string ⟨b.toArray⟩] = pairCells (l ++ [(a, b)]) := by simp [pairCells]
theorem pairCells_at : ∀ (l : List (List UInt8 × List UInt8)) (i : Nat) (p : List UInt8 × List UInt8), l[i]? = some p → (pairCells l)[i * 2]? = some (Value.string ⟨p.1.toArray⟩) ∧ (pairCells l)[i * 2 + 1]? = some (Value.string ⟨p.2.toArray⟩)
  | [], i, p, h => by simp at h
  | q :: r, 0, p, h => by
    simp at h
    subst h
    simp [pairCells]
  | q :: r, i + 1, p, h => by
    have ih := pairCells_at r i p (by simpa using h)
    have e : pairCells (q :: r) = Value.string ⟨q.1.toArray⟩ :: Value.string ⟨q.2.toArray⟩ :: pairCells r := by simp [pairCells]
    rw [e, show (i + 1) * 2 = i * 2 + 1 + 1 by omega, show i * 2 + 1 + 1 + 1 = (i * 2 + 1) + 1 + 1 by omega]
    simpa using ih
theorem info40 : ∃ i, Tryd.prog.info? 40 = some i ∧ i.zero = some (.agg #[.string ⟨#[]⟩, .string ⟨#[]⟩]) ∧ i.size = 2 ∧ i.bytes = 32 := info_parts (by kernel_rfl)
theorem own_pairs {w : World} {base : Nat} {v : Value} {l : List (List UInt8 × List UInt8)} (h : w.ownsRow base 40 2 v l.length (pairCells l)) : IsPairs w v (l.map asBA) := by
  have hcl := fun g (hg : v.ownBlock = some g) => World.ownsRow.cells h hg
  rcases h.2 with ⟨hv, h0⟩ | ⟨g, cap, cur, hv, hb, hh, hcap, hmax, _⟩
  · rw [hv]
    have : l = [] := List.eq_nil_of_length_eq_zero h0
    subst this
    exact ⟨none, 0, rfl, Nat.le_refl _, by unfold maxLen; omega, .inl ⟨rfl, rfl, rfl⟩⟩
  · refine ⟨some ⟨g, 0, none⟩, cap, by rw [List.length_map]; exact hv, by rw [List.length_map]; exact hcap, hmax, .inr ⟨_, rfl, .inr ⟨g, 0, rfl, (Array.getElem?_eq_some_iff.1 hh).1, ?_⟩⟩⟩
    intro i p hp
    rw [List.getElem?_map] at hp
    obtain ⟨q, hq, rfl⟩ := Option.map_eq_some_iff.1 hp
    obtain ⟨h1, h2⟩ := pairCells_at l i q hq
    have k1 := hcl g (by rw [hv]; rfl) _ _ h1
    have k2 := hcl g (by rw [hv]; rfl) _ _ h2
    have e : ∀ j, (⟨g, 0, none⟩ : Addr).add j = ⟨g, 0 + j, none⟩ := fun j => by unfold Addr.add; split <;> simp_all
    rw [e] at k1 k2
    exact ⟨k1, by rw [Nat.add_assoc]; exact k2⟩
theorem isAmp_any (x : Nat) (W : World) : Calls Tryd.prog 34 #[.int .i32 (x : Int)] W fun e w' => e = .returned (.bool (isAmp x)) ∧ w' = W := by
  go_enter Tryd.func34, Tryd.ntmps34
  go_wp2
  go_ret
  exact ⟨rfl, rfl⟩
theorem fields_any (s : ByteArray) (w : World) (hs : s.size ≤ 1000000) :
    Calls Tryd.prog 33 #[.string s, .func (.func 34) #[] #[]] w fun e w' => ∃ A, e = .returned (.slice (some ⟨A, 0, none⟩) (ampL s.data.toList).length (ampL s.data.toList).length) ∧ A < w'.heap.size ∧ (∀ i x, (ampL s.data.toList)[i]? = some x → w'.cell? ⟨A, i, none⟩ = some (.string ⟨x.toArray⟩)) ∧ Below w.heap.size w w' := by
  refine (Tryd.strings_FieldsFunc_runes 34 #[] (enters_of Tryd.func34 (by kernel_rfl) rfl) isAmp s w (by omega) (fun W x _ _ => ?_)).mono ?_
  · unfold FnGives
    refine (isAmp_any x W).mono ?_
    rintro e w' ⟨rfl, rfl⟩
    exact ⟨rfl, 0, rfl⟩
  · rintro e w' ⟨A, rfl, hA, hown, hb⟩
    rw [fields_amp] at hown ⊢
    rw [List.length_map] at hown ⊢
    refine ⟨A, rfl, (World.ownsRow.lt hown A rfl).2, fun i x hx => ?_, hb⟩
    have := World.ownsRow.cells hown (g := A) rfl i (.string ⟨x.toArray⟩) (by rw [List.map_map, List.getElem?_map, hx]; rfl)
    have e : (⟨A, 0, none⟩ : Addr).add i = ⟨A, 0 + i, none⟩ := by unfold Addr.add; split <;> simp_all
    rw [e, Nat.zero_add] at this
    exact this

theorem map_snocP {α : Type} {o : Option (List α)} {acc : List α} {c : α} : (o.map (c :: ·)).map (acc ++ ·) = o.map ((acc ++ [c]) ++ ·) := by
  cases o <;> simp
theorem pairsOf_cons (t : List UInt8) (r : List (List UInt8)) {a b : List UInt8} (h : pairOf t = some (a, b)) : pairsOf (t :: r) = (pairsOf r).map ((a, b) :: ·) := by
  rw [pairsOf, h]
  cases pairsOf r <;> rfl
theorem pairsOf_bad (t : List UInt8) (r : List (List UInt8)) (h : pairOf t = none) : pairsOf (t :: r) = none := by
  rw [pairsOf, h]

set_option maxHeartbeats 4000000 in
theorem fParse_any (s : ByteArray) (w : World) (hG : MaxLenIs w) (hs : s.size ≤ 1000000) :
    Calls Tryd.prog 13 #[.string s] w fun e w' => ∃ v, e = .returned (.tuple #[v, .int .i64 (parseE s.data.toList)]) ∧ IsPairs w' v ((parseP s.data.toList).map asBA) ∧ Below w.heap.size w w' := by
  have hpm := fun x (hx : x ∈ ampL s.data.toList) => amp_mem s.data.toList [] x hx
  have hpl := amp_len s.data.toList []
  simp only [List.length_nil, Nat.zero_add, len_eq] at hpm hpl
  have hpl' : (ampL s.data.toList).length ≤ s.size := hpl
  have hE : Hid (parseE s.data.toList = (if 64 < (ampL s.data.toList).length then 12 else if (pairsOf (ampL s.data.toList)).isSome = true then 0 else 10)) := rfl
  have hP : Hid (parseP s.data.toList = (if 64 < (ampL s.data.toList).length then [] else (pairsOf (ampL s.data.toList)).getD [])) := rfl
  have hF := fields_any s w (by omega)
  obtain ⟨P, hPd⟩ : ∃ P, ampL s.data.toList = P := ⟨_, rfl⟩
  obtain ⟨E, hEd⟩ : ∃ E, parseE s.data.toList = E := ⟨_, rfl⟩
  rw [hPd] at hE hP hF hpm hpl'
  rw [hEd] at hE ⊢
  clear hpl hPd hEd
  go_enter Tryd.func13, Tryd.ntmps13
  go_wp2_with fail
  refine hF.mono ?_
  rintro e w1 ⟨A, rfl, hA, hc1, hb1⟩
  have HC : Hid (∀ i x, P[i]? = some x → w1.cell? ⟨A, i, none⟩ = some (.string ⟨x.toArray⟩)) := hc1
  have hG1 := hG.later hb1
  clear hc1 hF
  by_cases h64 : 64 < P.length
  · have hE' : Hid (E = 12) := by have := hE.out; rw [if_pos h64] at this; exact this
    have hP' : Hid (parseP s.data.toList = []) := by have := hP.out; rw [if_pos h64] at this; exact this
    clear hE hP
    go_wp2_with fail
    go_ret2
    refine ⟨_, ret_pair (v := .slice none 0 0) hE'.out.symm, ?_, hb1⟩
    rw [hP'.out]
    exact ⟨none, 0, rfl, Nat.le_refl _, by unfold maxLen; omega, .inl ⟨rfl, rfl, rfl⟩⟩
  · have hE' : Hid (E = (if (pairsOf P).isSome = true then 0 else 10)) := by have := hE.out; rw [if_neg h64] at this; exact this
    have hP' : Hid (parseP s.data.toList = (pairsOf P).getD []) := by have := hP.out; rw [if_neg h64] at this; exact this
    clear hE hP
    obtain ⟨i0, hi, hz0, hz1, hz2⟩ := info40
    go_wp2_with fail
    go_loopw [5, 17] (fun v t wr => ∃ (i : Nat) (acc : List (List UInt8 × List UInt8)), t = .int .i64 (i : Int) ∧ i ≤ P.length ∧ wr.ownsRow w1.heap.size 40 2 v acc.length (pairCells acc) ∧ Below w1.heap.size w1 wr ∧ acc.length ≤ i ∧ Hid ((pairsOf (P.drop i)).map (acc ++ ·) = pairsOf P)) (fun _ t _ => P.length - (intOf t).toNat)
    case atStart =>
      refine ⟨0, [], rfl, Nat.zero_le _, World.ownsRow_nil _ _ _ _, Below.refl _ _, Nat.le_refl _, ?_⟩
      unfold Hid
      rw [List.drop_zero]
      cases pairsOf P <;> rfl
    case round =>
      obtain ⟨i, acc, rfl, hi', hown, hb, hal, hacc⟩ := hrel
      have hbz := hb.size
      by_cases hlt : i < P.length
      · obtain ⟨t, ht⟩ : ∃ t, P[i]? = some t := ⟨_, List.getElem?_eq_getElem hlt⟩
        have htl := hpm t (List.mem_of_getElem? ht)
        have c1 := (hb.cell (p := ⟨A, i, none⟩) hA).trans (HC.out i t ht)
        have hdr : P.drop i = t :: P.drop (i + 1) := by
          rw [List.drop_eq_getElem_cons hlt]
          rw [List.getElem?_eq_getElem hlt] at ht
          rw [Option.some.inj ht]
        rw [hdr] at hacc
        have hPP := fun W h => fParsePair_any ⟨t.toArray⟩ W h (by rw [size_of_list]; omega)
        have hGr := hG1.later hb
        have q1 : (0 : Int) ≤ (i : Int) := by omega
        have q2 : (i : Int) < (P.length : Int) := by omega
        clear ht hdr
        go_wp2_with fail
        refine (hPP wr hGr).mono ?_
        rintro e w2 ⟨hu, hb2⟩
        have hown2 := ownsRow_later hown hb2
        have B2 := hb.trans (hb2.mono hbz)
        have z2 := B2.size
        clear hPP hown
        rcases hu with ⟨hu, rfl⟩ | ⟨a, b, hu, rfl⟩
        · have hN : Hid (pairsOf P = none) := by
            have := hacc.out
            rw [pairsOf_bad t _ hu] at this
            exact this.symm
          have hE2 : Hid (E = 10) := by
            have := hE'.out
            rw [hN.out] at this
            exact this
          have hP2 : Hid (parseP s.data.toList = []) := by
            have := hP'.out
            rw [hN.out] at this
            exact this
          clear hu hacc hown2 hE' hP'
          go_wp2_with fail
          go_ret2
          refine ⟨_, ret_pair (v := .slice none 0 0) hE2.out.symm, ?_, hb1.trans ((B2.alloc z2 _).mono hb1.size)⟩
          rw [hP2.out]
          exact ⟨none, 0, rfl, Nat.le_refl _, by unfold maxLen; omega, .inl ⟨rfl, rfl, rfl⟩⟩
        · have hacc2 : Hid ((pairsOf (P.drop (i + 1))).map ((acc ++ [(a, b)]) ++ ·) = pairsOf P) := by
            have := hacc.out
            rw [pairsOf_cons t _ hu, map_snocP] at this
            exact this
          clear hu hacc
          go_wp2_with (at_builtin; go_must (refine wpList_append_own _ rfl _ _ 30 rfl w1.heap.size 40 i0 (.agg #[.string ⟨#[]⟩, .string ⟨#[]⟩]) 2 32 Tryd.underlying30 hi hz0 hz1 hz2 rfl (by decide) _ _ _ rfl ((hown2.alloc _).alloc _) ⟨w2.heap.size + 1, 0, none⟩ 1 1 [_, _] rfl rfl (by have := cell_two_new' (w2.alloc (.cells #[.string ⟨a.toArray⟩, .string ⟨b.toArray⟩] 40)) (.string ⟨a.toArray⟩) (.string ⟨b.toArray⟩) 40; rw [World.size_alloc] at this; exact this) (by intro u hu; simp at hu; rcases hu with rfl | rfl <;> rfl) (by unfold maxLen; omega) (by omega) (by simp; omega) ?_))
          intro v' w3 hown3 hgrow _
          have hown4 : w3.ownsRow w1.heap.size 40 2 v' (acc ++ [(a, b)]).length (pairCells (acc ++ [(a, b)])) := by
            rw [← pairCells_snoc, List.length_append]
            exact hown3
          have B3 : Below w1.heap.size w1 w3 := (((B2.alloc z2 _).alloc (by simp; omega) _).grown hgrow (by simp; omega) (own_ge hown2))
          clear hown2 hown3 hgrow
          go_wp2_with fail
          go_roundw
          case rel => exact ⟨i + 1, acc ++ [(a, b)], by go_num, by omega, hown4, B3, by simp; omega, hacc2⟩
          case measure => simp [intOf]; omega
      · have hY : Hid (pairsOf P = some acc) := by
          have := hacc.out
          rw [List.drop_of_length_le (by omega)] at this
          have e0 : pairsOf [] = some [] := rfl
          rw [e0, Option.map_some, List.append_nil] at this
          exact this.symm
        have hE2 : Hid (E = 0) := by
          have := hE'.out
          rw [hY.out] at this
          exact this
        have hP2 : Hid (parseP s.data.toList = acc) := by
          have := hP'.out
          rw [hY.out] at this
          exact this
        have hPs := own_pairs hown
        obtain ⟨u5', hu5⟩ : ∃ x, u5 = x := ⟨_, rfl⟩
        clear hacc hown hE' hP'
        go_wp2_with fail
        go_ret2
        refine ⟨_, ret_pair (v := u5) hE2.out.symm, ?_, hb1.trans (hb.mono hb1.size)⟩
        rw [hP2.out]
        exact hPs
end Go.Proofs.YtnkefpopkaagaaaDoor
