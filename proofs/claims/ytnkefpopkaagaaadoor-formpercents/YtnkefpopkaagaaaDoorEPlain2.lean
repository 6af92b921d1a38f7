/-
  Layer 3's plain facts: a query as pairs.
-/
import Derived.Test.YtnkefpopkaagaaaDoorEPlain
import Derived.Test.YtnkefpopkaagaaaDoorEQuery
namespace Go.Proofs.YtnkefpopkaagaaaDoor
open Go.RowKit Ch
set_option maxRecDepth 100000

def flushA (cur : List UInt8) : List (List UInt8) := if cur = [] then [] else [cur]
/-- The pieces between &, without those that are empty. -/
def ampFrom (cur : List UInt8) : List UInt8 → List (List UInt8)
  | [] => flushA cur
  | c :: r => if c = 38 then flushA cur ++ ampFrom [] r else ampFrom (cur ++ [c]) r
def ampL (l : List UInt8) : List (List UInt8) := ampFrom [] l
/-- A piece as a pair, if it is one. -/
def pairOf (t : List UInt8) : Option (List UInt8 × List UInt8) :=
  match unpL true (t.takeWhile (fun c => c != 61)), (if t.dropWhile (fun c => c != 61) = [] then some [] else unpL true (t.dropWhile (fun c => c != 61)).tail) with
  | some a, some b => some (a, b)
  | _, _ => none
def pairsOf : List (List UInt8) → Option (List (List UInt8 × List UInt8))
  | [] => some []
  | t :: r => match pairOf t, pairsOf r with
    | some p, some q => some (p :: q)
    | _, _ => none
/-- What ParseQuery answers: the error, and the pairs. -/
def parseE (l : List UInt8) : Int := if 64 < (ampL l).length then 12 else if (pairsOf (ampL l)).isSome = true then 0 else 10
def parseP (l : List UInt8) : List (List UInt8 × List UInt8) := if 64 < (ampL l).length then [] else (pairsOf (ampL l)).getD []

theorem ampFrom_plain : ∀ (t cur r : List UInt8), (∀ c ∈ t, c ≠ 38) → ampFrom cur (t ++ r) = ampFrom (cur ++ t) r
  | [], cur, r, _ => by simp
  | c :: t, cur, r, h => by
    rw [List.cons_append, ampFrom, if_neg (h c (by simp)), ampFrom_plain t _ r (fun x hx => h x (by simp [hx]))]
    simp
theorem perc_signs : ∀ n : Fin 256, ∀ x ∈ perc8 (UInt8.ofNat n.val), x ≠ 38 ∧ x ≠ 61 := by decide +kernel
theorem perc_no (l : List UInt8) : ∀ x ∈ percL l, x ≠ 38 ∧ x ≠ 61 := by
  intro x hx
  obtain ⟨c, _, hc⟩ := List.mem_flatMap.1 hx
  have hlt := c.toNat_lt
  have e : UInt8.ofNat c.toNat = c := UInt8.toNat_inj.1 (by rw [UInt8.toNat_ofNat']; omega)
  exact perc_signs ⟨c.toNat, by omega⟩ x (by rw [e]; exact hc)
theorem pairL_no (p : ByteArray × ByteArray) : ∀ x ∈ pairL p, x ≠ 38 := by
  intro x hx
  unfold pairL at hx
  rcases List.mem_append.1 hx with hx | hx
  · rcases List.mem_append.1 hx with hx | hx
    · exact (perc_no _ x hx).1
    · simp at hx; rw [hx]; decide
  · exact (perc_no _ x hx).1
theorem pairL_ne (p : ByteArray × ByteArray) : pairL p ≠ [] := by unfold pairL; simp
theorem amp_query : ∀ l : List (ByteArray × ByteArray), ampL (queryL l) = l.map pairL
  | [] => rfl
  | p :: r => by
    have ih := amp_query r
    unfold ampL queryL at ih ⊢
    rw [queryFrom, if_pos rfl, List.nil_append, ampFrom_plain _ _ _ (pairL_no p), List.nil_append, List.map_cons]
    match r, ih with
    | [], _ =>
      rw [queryFrom, ampFrom, flushA, if_neg (pairL_ne p)]
      rfl
    | q :: r', ih =>
      rw [queryFrom, if_neg (by decide), List.cons_append, List.nil_append, ampFrom, if_pos rfl, flushA, if_neg (pairL_ne p)]
      rw [queryFrom, if_pos rfl, List.nil_append] at ih
      rw [ih]
      rfl
theorem pair_back (p : ByteArray × ByteArray) : pairOf (pairL p) = some (p.1.data.toList, p.2.data.toList) := by
  have h1 : (pairL p).takeWhile (fun c => c != 61) = percL p.1.data.toList := by
    unfold pairL
    rw [List.append_assoc, List.takeWhile_append_of_pos (fun c hc => by simpa using (perc_no _ c hc).2)]
    exact List.append_nil _
  have h2 : (pairL p).dropWhile (fun c => c != 61) = 61 :: percL p.2.data.toList := by
    unfold pairL
    rw [List.append_assoc, List.dropWhile_append_of_pos (fun c hc => by simpa using (perc_no _ c hc).2)]
    rfl
  unfold pairOf
  rw [h1, h2, if_neg (by simp), List.tail_cons, unp_perc, unp_perc]
theorem pairs_back : ∀ l : List (ByteArray × ByteArray), pairsOf (l.map pairL) = some (l.map fun p => (p.1.data.toList, p.2.data.toList))
  | [] => rfl
  | p :: r => by rw [List.map_cons, pairsOf, pair_back, pairs_back r]; rfl
/-- Pairs as a query are read as the pairs, if they are 64 at most. -/
theorem parse_query (l : List (ByteArray × ByteArray)) : parseE (queryL l) = (if 64 < l.length then 12 else 0) ∧ parseP (queryL l) = (if 64 < l.length then [] else l.map fun p => (p.1.data.toList, p.2.data.toList)) := by
  unfold parseE parseP
  rw [amp_query, List.length_map, pairs_back]
  constructor
  · by_cases h : 64 < l.length
    · rw [if_pos h, if_pos h]
    · rw [if_neg h, if_neg h]; rfl
  · rfl
end Go.Proofs.YtnkefpopkaagaaaDoor
