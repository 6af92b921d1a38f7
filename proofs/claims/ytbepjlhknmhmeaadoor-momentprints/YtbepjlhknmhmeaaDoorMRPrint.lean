/-
  The reference of layer 10: Print.
-/
import Derived.Test.YtbepjlhknmhmeaaDoorMRDate
import Derived.Test.YtbepjlhknmhmeaaDoorMTwo
import Derived.Test.YtbepjlhknmhmeaaDoorMPrint
namespace Go.Proofs.YtbepjlhknmhmeaaDoor
open Go.RowKit Ch
set_option maxRecDepth 100000

set_option maxHeartbeats 8000000 in
theorem rmPrint_any (ms : Int) (y m d t : Nat) (w : World) (h : MomOf ms y m d t) : Calls Tryd.prog 14 #[.int .i64 ms] w fun e w' => e = .returned (.string ⟨(textL y m d t).toArray⟩) ∧ Below w.heap.size w w' := by
  have hD := rmDate_any ms y m d t w h
  have hF := fun u => rmFirst_any u
  have hs := dayN_small h.day
  have ht := h.time
  have hm := h.is
  obtain ⟨⟨h1, h2⟩, ⟨h3, h4⟩, h5, h6⟩ := h.day
  have hlb := lenM_bounds y m
  obtain ⟨n, hn⟩ : ∃ n, dayN y m d = n := ⟨_, rfl⟩
  rw [hn] at hs hm
  obtain ⟨T, hTT⟩ : ∃ T : Nat, n * 86400000 + t = T := ⟨_, rfl⟩
  have w1 : IntKind.i64.wrap (ms - -62135596800000) = (T : Int) := by rw [IntKind.wrap_i64]; omega
  have w1' : IntKind.i64.wrap (ms + 62135596800000) = (T : Int) := by rw [IntKind.wrap_i64]; omega
  have w2 : (T : Int) % 86400000 = (t : Int) := by clear w1 w1' hm hlb; omega
  have hd31 : d < 100 := by omega
  have q : ∀ (a k : Nat) (x z : Int) (u : World), a < 10000 → k ≤ 8 → x = (a : Int) → z = (k : Int) → Calls Tryd.prog 30 #[.int .i64 x, .int .i64 z] u fun e w' => e = .returned (.string ⟨(padL k a).toArray⟩) ∧ Below u.heap.size u w' := by
    rintro a k x z u ha hk rfl rfl
    exact rmTwo_any a k u (by omega) hk
  have Q := show Hid (∀ (a k : Nat) (x z : Int) (u : World), a < 10000 → k ≤ 8 → x = (a : Int) → z = (k : Int) → Calls Tryd.prog 30 #[.int .i64 x, .int .i64 z] u fun e w' => e = .returned (.string ⟨(padL k a).toArray⟩) ∧ Below u.heap.size u w') from q
  have l1 := padL_length 4 (y)
  have l2 := padL_length 2 (m)
  have l3 := padL_length 2 (d)
  have l4 := padL_length 2 (t / 3600000)
  have l5 := padL_length 2 (t / 60000 % 60)
  have l6 := padL_length 2 (t / 1000 % 60)
  have l7 := padL_length 3 (t % 1000)
  have HT := show Hid (textL y m d t = padL 4 y ++ 45 :: (padL 2 m ++ 45 :: (padL 2 d ++ 84 :: ((padL 2 (t / 3600000) ++ 58 :: (padL 2 (t / 60000 % 60) ++ 58 :: (padL 2 (t / 1000 % 60) ++ (if t % 1000 = 0 then [] else 46 :: padL 3 (t % 1000))))) ++ [90])))) from rfl
  rw [HT.out]
  clear HT h hs hm hlb hn hTT q h6
  generalize hx1 : padL 4 (y) = x1 at l1 ⊢
  generalize hx2 : padL 2 (m) = x2 at l2 ⊢
  generalize hx3 : padL 2 (d) = x3 at l3 ⊢
  generalize hx4 : padL 2 (t / 3600000) = x4 at l4 ⊢
  generalize hx5 : padL 2 (t / 60000 % 60) = x5 at l5 ⊢
  generalize hx6 : padL 2 (t / 1000 % 60) = x6 at l6 ⊢
  generalize hx7 : padL 3 (t % 1000) = x7 at l7 ⊢
  generalize hF0 : (if t % 1000 = 0 then [] else 46 :: x7) = G
  have HG := show Hid ((if t % 1000 = 0 then [] else 46 :: x7) = G) from hF0
  clear hF0
  go_enter Tryd.func14, Tryd.ntmps14
  go_wp2_with fail
  refine hD.mono ?_
  rintro e w1 ⟨rfl, B0⟩
  have HB0 := show Hid (Below w.heap.size w w1) from B0
  clear hD B0
  go_wp2_with fail
  refine (hF w1).mono ?_
  rintro e w1 ⟨rfl, rfl⟩
  clear hF
  go_wp2_with fail
  refine (Q.out (y) 4 _ _ w1 (by omega) (by decide) (by omega) rfl).mono ?_
  rw [hx1]
  rintro e v1 ⟨rfl, b⟩
  have HB1 := show Hid (Below w.heap.size w v1) from bl2 HB0.out b
  clear b HB0
  go_wp2_with fail
  refine (Q.out (m) 2 _ _ v1 (by omega) (by decide) (by omega) rfl).mono ?_
  rw [hx2]
  rintro e v2 ⟨rfl, b⟩
  have HB2 := show Hid (Below w.heap.size w v2) from bl2 HB1.out b
  clear b HB1
  go_wp2_with fail
  refine (Q.out (d) 2 _ _ v2 (by omega) (by decide) (by omega) rfl).mono ?_
  rw [hx3]
  rintro e v3 ⟨rfl, b⟩
  have HB3 := show Hid (Below w.heap.size w v3) from bl2 HB2.out b
  clear b HB2
  go_wp2_with fail
  refine (Q.out (t / 3600000) 2 _ _ v3 (by omega) (by decide) (by omega) rfl).mono ?_
  rw [hx4]
  rintro e v4 ⟨rfl, b⟩
  have HB4 := show Hid (Below w.heap.size w v4) from bl2 HB3.out b
  clear b HB3
  go_wp2_with fail
  refine (Q.out (t / 60000 % 60) 2 _ _ v4 (by omega) (by decide) (by omega) rfl).mono ?_
  rw [hx5]
  rintro e v5 ⟨rfl, b⟩
  have HB5 := show Hid (Below w.heap.size w v5) from bl2 HB4.out b
  clear b HB4
  go_wp2_with fail
  refine (Q.out (t / 1000 % 60) 2 _ _ v5 (by omega) (by decide) (by omega) rfl).mono ?_
  rw [hx6]
  rintro e v6 ⟨rfl, b⟩
  have HB6 := show Hid (Below w.heap.size w v6) from bl2 HB5.out b
  clear b HB5
  by_cases h0 : t % 1000 = 0
  · have z0 : (((t : Int) % 1000) != 0) = false := by
      have : (t : Int) % 1000 = 0 := by omega
      rw [this]; rfl
    have HG0 := show Hid ([] = G) from by have := HG.out; rw [if_pos h0] at this; exact this
    clear h0
    go_wp2_with fail
    go_ret
    refine ⟨?_, HB6.out⟩
    show Ending.returned (Value.string _) = Ending.returned (Value.string _)
    refine congrArg (fun z => Ending.returned (Value.string z)) ?_
    apply ByteArray.ext
    rw [← HG0.out]
    simp
  · have z0 : (((t : Int) % 1000) != 0) = true := bne_iff_ne.2 (by omega)
    have HG0 := show Hid (46 :: x7 = G) from by have := HG.out; rw [if_neg h0] at this; exact this
    clear h0
    go_wp2_with fail
    refine (Q.out (t % 1000) 3 _ _ v6 (by omega) (by decide) (by omega) rfl).mono ?_
    rw [hx7]
    rintro e v7 ⟨rfl, b⟩
    have HB7 := show Hid (Below w.heap.size w v7) from bl2 HB6.out b
    clear b HB6
    go_wp2_with fail
    go_ret
    refine ⟨?_, HB7.out⟩
    show Ending.returned (Value.string _) = Ending.returned (Value.string _)
    refine congrArg (fun z => Ending.returned (Value.string z)) ?_
    apply ByteArray.ext
    rw [← HG0.out]
    simp
end Go.Proofs.YtbepjlhknmhmeaaDoor
