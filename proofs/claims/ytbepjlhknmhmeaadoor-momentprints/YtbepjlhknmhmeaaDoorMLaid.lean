/-
  Facts of this program that the cards of layer 10 want: no knob of its own, its types laid out, the two tables as they lie; a [3]int that came in.
-/
import Derived.Test.YtbepjlhknmhmeaaDoorTie
import Derived.Test.YtbepjlhknmhmeaaDoorMAwake
import Derived.ProofKit
import Derived.OpenShut
import Derived.Lay
import Derived.Lib.LaidTab
import Derived.Stop.LaidErr
import Derived.Laws.IdiomArrays
namespace Go.Proofs.YtbepjlhknmhmeaaDoor
open Go.ChangeShapes Go.WideShapes Go.ChangeAt Go.RowKit Ch
set_option maxRecDepth 100000

theorem own : ownKnob Tryd.prog.godebug = none := by kernel_rfl
theorem laidOut : laidOutB Tryd.prog = true := by kernel_rfl
theorem gMonths : Tryd.prog.globalNamed "lanyard/moment.monthDays" = some 0 := by kernel_rfl
theorem gMonthsType : (Tryd.prog.globals[0]?).map (·.type) = some 74 := by kernel_rfl
theorem gPow : Tryd.prog.globalNamed "internal/strconv.uint64pow10" = some 1 := by kernel_rfl
theorem gPowType : (Tryd.prog.globals[1]?).map (·.type) = some 106 := by kernel_rfl
theorem laid10_of {W : World} (h : laidMetH Tryd.prog [("math/bits.deBruijn32tab", Rows.laid_math_bits_deBruijn32tab), ("math/bits.deBruijn64tab", Rows.laid_math_bits_deBruijn64tab), ("internal/strconv.uint64pow10", Rows.laid_internal_strconv_uint64pow10), ("unicode/utf8.acceptRanges", Rows.laid_unicode_utf8_acceptRanges), ("lanyard/moment.monthDays", Rows.laid_lanyard_moment_monthDays), ("unicode/utf8.first", Rows.laid_unicode_utf8_first)] W) : Laid10 W := by
  have h : laidMet Tryd.prog [("math/bits.deBruijn32tab", Rows.laid_math_bits_deBruijn32tab), ("math/bits.deBruijn64tab", Rows.laid_math_bits_deBruijn64tab), ("internal/strconv.uint64pow10", Lib.tabData .u64 Lib.pow10Tab), ("unicode/utf8.acceptRanges", Rows.laid_unicode_utf8_acceptRanges), ("lanyard/moment.monthDays", Lib.tabData .i64 [31, 28, 31, 30, 31, 30, 31, 31, 30, 31, 30, 31]), ("unicode/utf8.first", Rows.laid_unicode_utf8_first)] W := h
  have hp := Lib.tabIs_of_head gPow gPowType Tryd.underlying106 Tryd.underlying83 (by kernel_rfl) (by kernel_rfl) h.tail.tail
  have hm := Lib.tabIs_of_head gMonths gMonthsType Tryd.underlying74 Tryd.underlying3 (by kernel_rfl) (by kernel_rfl) h.tail.tail.tail.tail
  have hM : MTab W := by
    unfold Lib.TabIs World.var? at hm
    rw [gMonths, Option.bind_some] at hm
    split at hm
    · rename_i c t fr hh
      obtain rfl := Option.some.inj hm
      exact ⟨t, fr, hh⟩
    · cases hm
  refine ⟨hM, hp, ?_⟩
  obtain ⟨t, mk, h0⟩ := hM
  have := block_lt h0
  omega
theorem okWide_three {P : Program} {w : World} {r : Reach} {base : Nat} {t : TypeId} {v : Value} {n : Nat} {e : TypeId} (ht : P.underlying t = some (.array n e)) (h : Value.okWide P w r base t v) : ∃ cs, v = .agg cs ∧ cs.size = P.cellsOf t := by
  simp only [Value.okWide, ht] at h
  obtain ⟨cs, h1, h2, _⟩ := h
  exact ⟨cs, h1, h2⟩
theorem three_arg {H : Type} {enc : TypeId × Value → H} {W : World} {cs : Array Value} {d : DataW H} {p : List MemPlace} {base : Nat} {sp : Nat → Bool} {held : Bool} (hsz : cs.size = 3)
    (h : DataW.Trod enc Tryd.prog W base sp held 26 (.agg cs) d p) : ∃ a b c : Int, cs = #[.int .i64 a, .int .i64 b, .int .i64 c] := by
  obtain ⟨fuel, hf⟩ := h
  obtain ⟨l⟩ := cs
  match l, hsz with
  | [x, y, z], _ =>
    obtain ⟨_, _, _, n, _, h0, h1, h2⟩ := trod_array3 Tryd.underlying26 (by kernel_rfl) hf
    obtain ⟨a, ha, _⟩ := DataW.trod_int Tryd.underlying3 h0
    obtain ⟨b, hb, _⟩ := DataW.trod_int Tryd.underlying3 h1
    obtain ⟨c, hc, _⟩ := DataW.trod_int Tryd.underlying3 h2
    simp only [List.cons.injEq, and_true] at ha hb hc
    subst ha hb hc
    exact ⟨a, b, c, rfl⟩
end Go.Proofs.YtbepjlhknmhmeaaDoor
