/-
  The document's One: the code point with whose bytes a list of bytes begins, for every list.
-/
import Derived.Test.YtmhbdckgejcdhaaDoorBad
import Derived.Laws.BytesArg
namespace Go.Proofs.YtmhbdckgejcdhaaDoor
open Go.RowKit Ch

/-- Cell i of the row at (b, o) holds the byte of the text at p + i. -/
def From (w : World) (b o : Nat) (s : ByteArray) (p : Nat) : Prop := ∀ i, p + i < s.size → w.cell? ⟨b, o + i, none⟩ = some (.int .u8 (byte s (p + i) : Int))

set_option maxRecDepth 100000 in
theorem rOne_ascii (b o cap m b0 : Nat) (w : World) (hm : m ≤ 1000000) (hm0 : 0 < m) (c0 : w.cell? ⟨b, o, none⟩ = some (.int .u8 (b0 : Int))) (a : b0 < 128) :
    Calls Tryd.prog 24 #[.slice (some ⟨b, o, none⟩) m cap] w fun e w' => e = .returned (.tuple #[.int .i64 (b0 : Int), .int .i64 1]) ∧ w' = w := by
  have hne : ((m : Int) == 0) = false := beq_eq_false_iff_ne.2 (by omega)
  go_enter Tryd.func24, Tryd.ntmps24
  go_wp2
  go_ret2
  exact ⟨rfl, rfl⟩

set_option maxRecDepth 100000 in
theorem rOne_lone (b o cap m b0 : Nat) (w : World) (hm : m ≤ 1000000) (hm0 : 0 < m) (c0 : w.cell? ⟨b, o, none⟩ = some (.int .u8 (b0 : Int))) (l0 : b0 < 256) (a : (128 ≤ b0 ∧ b0 < 192) ∨ 248 ≤ b0) :
    Calls Tryd.prog 24 #[.slice (some ⟨b, o, none⟩) m cap] w fun e w' => e = .returned (.tuple #[.int .i64 0, .int .i64 0]) ∧ w' = w := by
  have hne : ((m : Int) == 0) = false := beq_eq_false_iff_ne.2 (by omega)
  rcases a with ⟨a1, a2⟩ | a
  · go_enter Tryd.func24, Tryd.ntmps24
    go_wp2
    go_ret2
    exact ⟨rfl, rfl⟩
  · go_enter Tryd.func24, Tryd.ntmps24
    go_wp2
    go_ret2
    exact ⟨rfl, rfl⟩

theorem two_ints {a b c d : Int} (h1 : a = c) (h2 : b = d) : Ending.returned (.tuple #[.int .i64 a, .int .i64 b]) = .returned (.tuple #[.int .i64 c, .int .i64 d]) := by rw [h1, h2]

end Go.Proofs.YtmhbdckgejcdhaaDoor
