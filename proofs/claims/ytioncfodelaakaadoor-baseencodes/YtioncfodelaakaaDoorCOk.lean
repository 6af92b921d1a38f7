/-
  What the program's functions of layer 2 answer, all five; and where the variable that a search reads comes from.
-/
import Derived.Test.YtioncfodelaakaaDoorBLaw5
import Derived.Test.YtioncfodelaakaaDoorBLaw3
import Derived.Test.YtioncfodelaakaaDoorCDec2
import Derived.Test.YtioncfodelaakaaDoorCFold2
import Derived.Test.YtioncfodelaakaaDoorCHex
import Derived.Test.YtioncfodelaakaaDoorCUnhex
namespace Go.Proofs.YtioncfodelaakaaDoor
open Go.RowKit Ch

theorem baseOk : BaseOk MaxLenIs where
  later := fun _ _ h hb => h.later hb
  enc := fun a cap s w _ hs h => cEncode_any a cap s w (by omega) h
  dec := fun s w hG hs => cDecode_any s w hG hs
  fold := fun s n w _ hs _ h2 => cFold_any s n w (by omega) h2
  hex := fun a cap s w _ hs h => cHex_any a cap s w (by omega) h
  unhex := fun s w _ hs => cUnhex_any s w (by omega)
theorem maxLen_of {w : World} (h : w.ShapedOpen Tryd.prog) : MaxLenIs w := Tryd.laysM155.s1_3 w h
theorem bytes_le {w : World} {a : Option Addr} {n cap : Nat} {s : ByteArray} (h : IsBytes w (.slice a n cap) s) : s.size ≤ 9223372036854775807 := by
  obtain ⟨a', cap', _, hc, hm, _⟩ := h
  unfold maxLen at hm
  omega
theorem lApart_all (a b : Option Addr) (ca cb : Nat) (s t : ByteArray) (w : World) (hG : MaxLenIs w) (hA : IsBytes w (.slice a s.size ca) s) (hB : IsBytes w (.slice b t.size cb) t) :
    Calls Tryd.prog 7 #[.slice a s.size ca, .slice b t.size cb] w fun e w' => e = .returned (.bool true) ∧ Below w.heap.size w w' := by
  by_cases h : s.size ≤ 2000 ∧ t.size ≤ 2000
  · exact lApart_any baseOk a b ca cb s t w hG h.1 h.2 hA hB
  · exact lApart_long baseOk a b s.size t.size ca cb w hG (bytes_le hA) (bytes_le hB) (by omega)
end Go.Proofs.YtioncfodelaakaaDoor
