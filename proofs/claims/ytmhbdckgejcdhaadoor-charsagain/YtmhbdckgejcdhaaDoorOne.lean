/-
  The document's One: the code point with whose bytes a list of bytes begins, for every list.
-/
import Derived.Test.YtmhbdckgejcdhaaDoorOne2
import Derived.Test.YtmhbdckgejcdhaaDoorOne3
import Derived.Test.YtmhbdckgejcdhaaDoorOne4
namespace Go.Proofs.YtmhbdckgejcdhaaDoor
open Go.RowKit Ch

set_option maxRecDepth 100000 in
theorem rOne_any (b o cap : Nat) (s : ByteArray) (p : Nat) (w : World) (hs : s.size ≤ 1000000) (hp : p < s.size) (hc : From w b o s p) :
    Calls Tryd.prog 24 #[.slice (some ⟨b, o, none⟩) (s.size - p) cap] w fun e w' => e = .returned (.tuple #[.int .i64 ((one s p).1 : Int), .int .i64 ((one s p).2 : Int)]) ∧ w' = w := by
  have c0 : w.cell? ⟨b, o, none⟩ = some (.int .u8 (byte s p : Int)) := hc 0 (by omega)
  have l0 := byte_lt s p
  have l1 := byte_lt s (p + 1)
  have l2 := byte_lt s (p + 2)
  have l3 := byte_lt s (p + 3)
  by_cases a : byte s p < 128
  · have e : one s p = (byte s p, 1) := by unfold one oneN; rw [if_pos a]
    rw [e]
    exact rOne_ascii b o cap _ _ w (by omega) (by omega) c0 a
  by_cases a2 : 192 ≤ byte s p ∧ byte s p < 224
  · by_cases g : p + 1 < s.size
    · have e : one s p = oneOf2 (byte s p) (byte s (p + 1)) := by
        unfold one oneN oneOf2; rw [if_neg a, if_pos a2]; simp [g]
      rw [e]
      exact rOne_2 b o cap _ _ _ w (by omega) (by omega) c0 (hc 1 g) l1 a2.1 a2.2
    · have e : one s p = (0, 0) := by
        unfold one oneN; rw [if_neg a, if_pos a2]; simp [g]
      rw [e]
      exact rOne_cut2 b o cap _ _ w (by omega) (by omega) c0 a2.1 a2.2
  by_cases a3 : 224 ≤ byte s p ∧ byte s p < 240
  · by_cases g : p + 2 < s.size
    · have e : one s p = oneOf3 (byte s p) (byte s (p + 1)) (byte s (p + 2)) := by
        unfold one oneN oneOf3; rw [if_neg a, if_neg a2, if_pos a3]; simp [g]
      rw [e]
      exact rOne_3 b o cap _ _ _ _ w (by omega) (by omega) c0 (hc 1 (by omega)) (hc 2 g) l1 l2 a3.1 a3.2
    · have e : one s p = (0, 0) := by
        unfold one oneN; rw [if_neg a, if_neg a2, if_pos a3]; simp [g]
      rw [e]
      exact rOne_cut3 b o cap _ _ w (by omega) (by omega) c0 a3.1 a3.2
  by_cases a4 : 240 ≤ byte s p ∧ byte s p < 248
  · by_cases g : p + 3 < s.size
    · have e : one s p = oneOf4 (byte s p) (byte s (p + 1)) (byte s (p + 2)) (byte s (p + 3)) := by
        unfold one oneN oneOf4; rw [if_neg a, if_neg a2, if_neg a3, if_pos a4]; simp [g]
      rw [e]
      exact rOne_4 b o cap _ _ _ _ _ w (by omega) (by omega) c0 (hc 1 (by omega)) (hc 2 (by omega)) (hc 3 g) l1 l2 l3 a4.1 a4.2
    · have e : one s p = (0, 0) := by
        unfold one oneN; rw [if_neg a, if_neg a2, if_neg a3, if_pos a4]; simp [g]
      rw [e]
      exact rOne_cut4 b o cap _ _ w (by omega) (by omega) c0 a4.1 a4.2
  · have e : one s p = (0, 0) := by
      unfold one oneN; rw [if_neg a, if_neg a2, if_neg a3, if_neg a4]
    rw [e]
    exact rOne_lone b o cap _ _ w (by omega) (by omega) c0 l0 (by omega)
end Go.Proofs.YtmhbdckgejcdhaaDoor
