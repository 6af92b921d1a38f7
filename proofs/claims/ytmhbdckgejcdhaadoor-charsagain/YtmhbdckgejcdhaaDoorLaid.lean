/-
  From the row's condition on the two tables to what lies in memory; a world for the witness.
-/
import Derived.Test.YtmhbdckgejcdhaaDoorAwake
import Derived.Test.YtmhbdckgejcdhaaDoorTie
import Derived.ProofKit
import Derived.OpenShut
import Derived.Lib.LaidTab
namespace Go.Proofs.YtmhbdckgejcdhaaDoor
open Go.ChangeShapes Go.WideShapes Go.ChangeAt Go.RowKit Ch

theorem gLetters : Tryd.prog.globalNamed "lanyard/chars.letters" = some 0 := by kernel_rfl
theorem gLettersType : (Tryd.prog.globals[0]?).map (·.type) = some 57 := by kernel_rfl
theorem gFollow : Tryd.prog.globalNamed "lanyard/chars.followers" = some 1 := by kernel_rfl
theorem gFollowType : (Tryd.prog.globals[1]?).map (·.type) = some 58 := by kernel_rfl
theorem cells56 : Tryd.prog.cellsOf 56 = 2 := by kernel_rfl
theorem cells57 : Tryd.prog.cellsOf 57 = 30 := by kernel_rfl
theorem cells58 : Tryd.prog.cellsOf 58 = 10 := by kernel_rfl
theorem cells21 : Tryd.prog.cellsOf 21 = 1 := by kernel_rfl

def pairOf (p : Int × Int) : List Value := [.int .i32 p.1, .int .i32 p.2]
def spanData {H : Type} (l : List (Int × Int)) : DataW H := .agg (l.map fun p => .agg [.lit (.int .i32 p.1), .lit (.int .i32 p.2)])

theorem pairs_of : ∀ (l : List (Int × Int)) (cs : List Value), cs.length = 2 * l.length → (∀ i p, l[i]? = some p → (cs.drop (i * 2)).take 2 = pairOf p) → cs = l.flatMap pairOf
  | [], cs, hl, _ => by simpa using hl
  | p :: l, cs, hl, h => by
    have h0 := h 0 p rfl
    rw [Nat.zero_mul, List.drop_zero] at h0
    have ih := pairs_of l (cs.drop 2) (by rw [List.length_drop, hl, List.length_cons]; omega) (fun i q hq => by
      have := h (i + 1) q hq
      rw [List.drop_drop]
      rw [show 2 + i * 2 = (i + 1) * 2 by omega]
      exact this)
    rw [List.flatMap_cons, ← h0, ← ih]
    exact (List.take_append_drop 2 cs).symm

theorem span_one {W : World} {fuel : Nat} {cs : List Value} {p : Int × Int} {q : List MemPlace} {x : DataW Unit × List MemPlace}
    (h : DataW.trod (fun _ => ()) Tryd.prog W 0 (fun _ => true) false fuel 56 cs = some x) (hx : x = (.agg [.lit (.int .i32 p.1), .lit (.int .i32 p.2)], q)) : cs = pairOf p := by
  obtain ⟨y0, y1, n, hx2, hl, h0, h1⟩ := trod_struct2 Tryd.underlying56 h
  rw [hx] at hx2
  simp only [Prod.mk.injEq, DataW.agg.injEq, List.cons.injEq, and_true] at hx2
  obtain ⟨⟨e0, e1⟩, _⟩ := hx2
  rw [cells21] at h0 h1
  obtain ⟨a, ha, hya, _⟩ := DataW.trod_int Tryd.underlying21 h0
  obtain ⟨b, hb, hyb, _⟩ := DataW.trod_int Tryd.underlying21 h1
  rw [hya] at e0
  rw [hyb] at e1
  simp only [DataW.lit.injEq, Lit.int.injEq, true_and] at e0 e1
  rw [cells56] at hl
  match cs, hl with
  | [c0, c1], _ =>
    simp at ha hb
    rw [ha, hb, ← e0, ← e1]
    rfl

theorem span_cells {W : World} {fuel : Nat} {t n : Nat} {cs : List Value} {l : List (Int × Int)} {q : List MemPlace} (ht : Tryd.prog.underlying t = some (.array n 56)) (hct : Tryd.prog.cellsOf t = 2 * n) (hl : l.length = n)
    (h : DataW.trod (fun _ => ()) Tryd.prog W 0 (fun _ => true) false fuel t cs = some (spanData l, q)) : cs = l.flatMap pairOf := by
  obtain ⟨xs, m, _, hx, hlen, hxl, hf⟩ := DataW.trod_array ht h
  refine pairs_of l cs (by rw [hlen, hct, hl]) ?_
  intro i p hp
  have hi : i < n := by rw [← hl]; exact (List.getElem?_eq_some_iff.1 hp).1
  have h1 := hf i hi
  rw [cells56] at h1
  have h2 : xs.map (·.1) = l.map fun p => (DataW.agg [.lit (.int .i32 p.1), .lit (.int .i32 p.2)] : DataW Unit) := by
    have := congrArg Prod.fst hx
    simp only [spanData, DataW.agg.injEq] at this
    exact this.symm
  have h3 : xs[i]? = some xs[i] := List.getElem?_eq_getElem (by omega)
  rw [h3] at h1
  have h4 : (xs.map (·.1))[i]? = some (DataW.agg [.lit (.int .i32 p.1), .lit (.int .i32 p.2)] : DataW Unit) := by rw [h2, List.getElem?_map, hp]; rfl
  rw [List.getElem?_map, h3] at h4
  have h5 : xs[i].1 = (DataW.agg [.lit (.int .i32 p.1), .lit (.int .i32 p.2)] : DataW Unit) := by simpa using h4
  exact span_one (q := xs[i].2) h1 (by rw [← h5])

theorem block_of_var {W : World} {name : String} {g : Nat} {cs : Array Value} (hg : Tryd.prog.globalNamed name = some g) (h : W.var? Tryd.prog name = some cs) : ∃ t fr, W.heap[g]? = some (.cells cs t fr) := by
  unfold World.var? at h
  rw [hg, Option.bind_some] at h
  split at h
  · rename_i c t fr hh
    obtain rfl := Option.some.inj h
    exact ⟨t, fr, hh⟩
  · cases h

theorem tabs_of {W : World} (h : laidMetH Tryd.prog Rows.charsBadRow.laid W) : Tabs W := by
  have h : laidMet Tryd.prog [("lanyard/chars.letters", spanData lettersL), ("lanyard/chars.followers", spanData moreL)] W := h
  obtain ⟨ps, ⟨g, t, cs, fuel, p, q, hg, ht, hv, hd, ⟨g', t', cs', fuel', p', q', hg', ht', hv', hd', _⟩, _⟩, _⟩ := h
  obtain rfl := Option.some.inj (gLetters.symm.trans hg)
  obtain rfl := Option.some.inj (gLettersType.symm.trans ht)
  obtain rfl := Option.some.inj (gFollow.symm.trans hg')
  obtain rfl := Option.some.inj (gFollowType.symm.trans ht')
  have e1 : cs = lettersC := by
    have := span_cells Tryd.underlying57 cells57 rfl hd
    apply Array.toList_inj.1
    rw [this]
    rfl
  have e2 : cs' = followC := by
    have := span_cells Tryd.underlying58 cells58 rfl hd'
    apply Array.toList_inj.1
    rw [this]
    rfl
  subst e1 e2
  exact ⟨block_of_var gLetters hv, block_of_var gFollow hv'⟩

theorem own : ownKnob Tryd.prog.godebug = none := by kernel_rfl
theorem laidOut : laidOutB Tryd.prog = true := by kernel_rfl

def layCells (c : Array Value) : Obj → Obj
  | .cells _ t frozen => .cells c t frozen
  | o => o
/-- A world with the two tables as their initialisers lay them. -/
def layTabs (w : World) : World := { w with heap := (w.heap.modify 0 (layCells lettersC)).modify 1 (layCells followC) }
end Go.Proofs.YtmhbdckgejcdhaaDoor
