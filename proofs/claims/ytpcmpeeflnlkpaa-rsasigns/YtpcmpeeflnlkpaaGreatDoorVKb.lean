
/-
  The document's words, reckoned: the state at first, the rounds' words.
-/
import Derived.Test.YtpcmpeeflnlkpaaGreatDoorVKa
namespace Go.Proofs.YtpcmpeeflnlkpaaGreatDoor
open Go.RowKit Ch
set_option maxRecDepth 100000

theorem words_k4 : (((prK 310).drop 32).take 8).map (fun p => rootN p true) = (roundK.drop 32).take 8 := by decide +kernel
theorem words_k5 : (((prK 310).drop 40).take 8).map (fun p => rootN p true) = (roundK.drop 40).take 8 := by decide +kernel
theorem words_k6 : (((prK 310).drop 48).take 8).map (fun p => rootN p true) = (roundK.drop 48).take 8 := by decide +kernel
theorem words_k7 : (((prK 310).drop 56).take 8).map (fun p => rootN p true) = (roundK.drop 56).take 8 := by decide +kernel
theorem cut8 (l : List Nat) (n : Nat) : (l.drop n).take 8 ++ l.drop (n + 8) = l.drop n := by
  rw [← List.drop_drop, List.take_append_drop]
theorem words_k : (prK 310).map (fun p => rootN p true) = roundK := by
  have e : ∀ l : List Nat, l.length = 64 → l = (l.drop 0).take 8 ++ ((l.drop 8).take 8 ++ ((l.drop 16).take 8 ++ ((l.drop 24).take 8 ++ ((l.drop 32).take 8 ++ ((l.drop 40).take 8 ++ ((l.drop 48).take 8 ++ (l.drop 56).take 8)))))) := by
    intro l hl
    have h8 : (l.drop 56).take 8 = l.drop 56 := List.take_of_length_le (by rw [List.length_drop]; omega)
    rw [h8, cut8 l 48, cut8 l 40, cut8 l 32, cut8 l 24, cut8 l 16, cut8 l 8, cut8 l 0, List.drop_zero]
  rw [e (prK 310) prK_310, e roundK rfl]
  simp only [List.map_append, words_k0, words_k1, words_k2, words_k3, words_k4, words_k5, words_k6, words_k7]
end Go.Proofs.YtpcmpeeflnlkpaaGreatDoor
