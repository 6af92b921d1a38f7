/-
  Package nat: the closures of Exp and Gcd.
-/
import Derived.Test.YthfgbcpppamboaaNDv
namespace Go.Proofs.Ythfgbcpppamboaa
open Go.RowKit Ch
set_option maxRecDepth 100000

set_option maxHeartbeats 1000000 in
theorem nExpR_any (n m pb : Nat) (u v : Value) (M N : Nat) (w : World) (hu : IsW n w u M) (hc : w.cell? ⟨pb, 0, none⟩ = some v) (hv : IsW m w v N) (hn : n ≤ 20000) (h0 : N ≠ 0) :
    Calls Try.prog 44 #[u, .pointer (some ⟨pb, 0, none⟩)] w fun e w' => (∃ x, e = .returned x ∧ IsW m w' x (M % N)) ∧ Below w.heap.size w w' := by
  have hD := wDivide n m u v M N w hu hv hn h0
  obtain ⟨y, l, c, rfl, _, _⟩ := hv.shape
  obtain ⟨y', l', c', rfl, _, _⟩ := hu.shape
  clear hu hv
  go_enter Try.func44, Try.ntmps44
  go_wp2_with fail
  refine hD.mono ?_
  rintro e w1 ⟨v1, v2, rfl, h1, h2, hb⟩
  go_wp2_with fail
  go_ret
  exact ⟨⟨_, rfl, h2⟩, hb⟩
theorem nGcdS_any (v : Value) (w : World) : Calls Try.prog 46 #[v] w fun e w' => e = .returned (.tuple #[]) ∧ w' = w := by
  go_enter Try.func46, Try.ntmps46
  go_wp2_with fail
  go_end0
  exact ⟨rfl, rfl⟩
end Go.Proofs.Ythfgbcpppamboaa
