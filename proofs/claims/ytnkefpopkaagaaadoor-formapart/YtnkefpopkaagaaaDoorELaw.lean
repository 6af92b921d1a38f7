/-
  The statements of layer 3: the examples.
-/
import Derived.Test.YtnkefpopkaagaaaDoorEParse
import Derived.Test.YtnkefpopkaagaaaDoorFQuery
import Derived.Test.YtnkefpopkaagaaaDoorFGet
namespace Go.Proofs.YtnkefpopkaagaaaDoor
open Go.RowKit Ch
set_option maxRecDepth 100000

def awakeL : List (ByteArray × ByteArray) := [(⟨#[97]⟩, ⟨#[49]⟩), (⟨#[98]⟩, ⟨#[65, 32, 99]⟩), (⟨#[100]⟩, ⟨#[]⟩)]
theorem awake_parse : parseE [97, 61, 49, 38, 38, 98, 61, 37, 52, 49, 43, 99, 38, 100] = 0 ∧ (parseP [97, 61, 49, 38, 38, 98, 61, 37, 52, 49, 43, 99, 38, 100]).map asBA = awakeL := by decide +kernel
theorem awake_perc : percL [97, 32, 98, 47, 195, 169] = [97, 37, 50, 48, 98, 37, 50, 70, 37, 67, 51, 37, 65, 57] := by decide +kernel
theorem awake_new (w : World) (fr : Nat × Nat) : IsPairs (w.alloc (.cells #[.string ⟨#[97]⟩, .string ⟨#[49]⟩, .string ⟨#[98]⟩, .string ⟨#[65, 32, 99]⟩, .string ⟨#[100]⟩, .string ⟨#[]⟩] 40 fr)) (.slice (some ⟨w.heap.size, 0, none⟩) 3 3) awakeL := by
  refine ⟨_, _, rfl, Nat.le_refl _, by unfold maxLen; omega, .inr ⟨_, rfl, .inr ⟨w.heap.size, 0, rfl, by simp, ?_⟩⟩⟩
  intro i p hp
  have hb := heap_push_at w (.cells #[.string ⟨#[97]⟩, .string ⟨#[49]⟩, .string ⟨#[98]⟩, .string ⟨#[65, 32, 99]⟩, .string ⟨#[100]⟩, .string ⟨#[]⟩] 40 fr)
  rw [cell_of_row _ _ _ _ _ _ hb, cell_of_row _ _ _ _ _ _ hb]
  match i, hp with
  | 0, hp => simp [awakeL] at hp; subst hp; exact ⟨rfl, rfl⟩
  | 1, hp => simp [awakeL] at hp; subst hp; exact ⟨rfl, rfl⟩
  | 2, hp => simp [awakeL] at hp; subst hp; exact ⟨rfl, rfl⟩
  | (i + 3), hp => simp [awakeL] at hp

set_option maxHeartbeats 1000000 in
theorem awakeE_any (w : World) (hG : MaxLenIs w) :
    Calls Tryd.prog 8 #[] w fun e w' => e = .returned (.bool true) ∧ Below w.heap.size w w' := by
  have hQ := fParse_any ⟨#[97, 61, 49, 38, 38, 98, 61, 37, 52, 49, 43, 99, 38, 100]⟩ w hG (by decide)
  rw [show (⟨#[97, 61, 49, 38, 38, 98, 61, 37, 52, 49, 43, 99, 38, 100]⟩ : ByteArray).data.toList = [97, 61, 49, 38, 38, 98, 61, 37, 52, 49, 43, 99, 38, 100] from rfl, awake_parse.1, awake_parse.2] at hQ
  have hP : ∀ W : World, Calls Tryd.prog 9 #[.string ⟨#[97, 32, 98, 47, 195, 169]⟩] W fun e w' => e = .returned (.string ⟨#[97, 37, 50, 48, 98, 37, 50, 70, 37, 67, 51, 37, 65, 57]⟩) ∧ Below W.heap.size W w' := fun W => by
    have := fPercent_any ⟨#[97, 32, 98, 47, 195, 169]⟩ W (by decide)
    rw [show (⟨#[97, 32, 98, 47, 195, 169]⟩ : ByteArray).data.toList = [97, 32, 98, 47, 195, 169] from rfl, awake_perc] at this
    exact this
  go_enter Tryd.func8, Tryd.ntmps8
  go_wp2_with fail
  refine hQ.mono ?_
  rintro e w1 ⟨v, rfl, hv, hb1⟩
  clear hQ
  go_wp2_with fail
  refine (hP w1).mono ?_
  rintro e w2 ⟨rfl, hb2⟩
  have hv2 := hv.later hb2
  clear hv
  go_wp2_with fail
  refine (sSame_any v _ awakeL awakeL _ (by decide) (hv2.later ((Below.refl _ w2).alloc (Nat.le_refl _) _)) (awake_new w2 _)).mono ?_
  rintro e w3 ⟨⟨q, rfl, hq⟩, hb3⟩
  obtain rfl := hq.2 rfl
  clear hv2 hq
  go_wp2_with fail
  go_ret
  exact ⟨rfl, hb1.trans ((hb2.trans ((below_alloc hb3).mono hb2.size)).mono hb1.size)⟩

theorem text_eq (A : ByteArray) : (A.toList == A.toList) = true := by simp
theorem below3 {a b c d : World} (h1 : Below a.heap.size a b) (h2 : Below b.heap.size b c) (h3 : Below c.heap.size c d) : Below a.heap.size a d := h1.trans ((h2.trans (h3.mono h2.size)).mono h1.size)
theorem below2 {a b c : World} (h1 : Below a.heap.size a b) (h2 : Below b.heap.size b c) : Below a.heap.size a c := h1.trans (h2.mono h1.size)
set_option maxHeartbeats 1000000 in
theorem lPercents_any (s : ByteArray) (plus : Bool) (w : World) (hG : MaxLenIs w) (hs : s.size ≤ 9223372036854775807) :
    Calls Tryd.prog 3 #[.string s, .bool plus] w fun e w' => e = .returned (.bool true) ∧ Below w.heap.size w w' := by
  by_cases h : s.size ≤ 2000
  · have hpz := percL_length s.data.toList
    rw [len_eq] at hpz
    have hP := fun W => fPercent_any s W (by omega)
    have hR := fun W => sPercent_any s W (by omega)
    have hu := unp_perc plus s.data.toList
    obtain ⟨p, hp⟩ : ∃ p : ByteArray, ⟨(percL s.data.toList).toArray⟩ = p := ⟨_, rfl⟩
    have hpz' : p.size ≤ 6000 := by rw [← hp, size_of_list]; omega
    have hU1 : ∀ W : World, Calls Tryd.prog 10 #[.string p, .bool plus] W fun e w' => e = .returned (.tuple #[.string s, .int .i64 0]) ∧ Below W.heap.size W w' := fun W => by
      refine (fUnpercent_any p plus W (by omega)).mono ?_
      rintro e w' ⟨hx, hb⟩
      refine ⟨?_, hb⟩
      have hpd : p.data.toList = percL s.data.toList := by rw [← hp]
      unfold UnpProg at hx
      rw [hpd, hu] at hx
      rcases hx with ⟨hx, _⟩ | ⟨t, hx, rfl⟩
      · cases hx
      · rw [← Option.some.inj hx]
    have hU2 := fun W => fUnpercent_any s plus W (by omega)
    have hU3 := fun W => sUnpercent_any s plus W (by omega)
    rw [hp] at hP hR
    have tp := text_eq p
    have ts := text_eq s
    clear hp hu hpz
    go_enter Tryd.func3, Tryd.ntmps3
    go_wp2_with fail
    refine (awakeE_any w hG).mono ?_
    rintro e w1 ⟨rfl, hb1⟩
    go_wp2_with fail
    refine (hP w1).mono ?_
    rintro e w2 ⟨rfl, hb2⟩
    go_wp2_with fail
    refine (hU1 w2).mono ?_
    rintro e w3 ⟨rfl, hb3⟩
    go_wp2_with fail
    refine (hU2 w3).mono ?_
    rintro e4 w4 ⟨hx, hb4⟩
    have hx' : ∃ (U : ByteArray) (E : Int) (b : Bool), e4 = .returned (.tuple #[.string U, .int .i64 E]) ∧ ((E = 0 ∧ b = true) ∨ (E = 10 ∧ b = false)) ∧ ∀ f, UnpSaid plus s f → f = .returned (.tuple #[.string U, .bool b]) := by
      rcases hx with ⟨hx, rfl⟩ | ⟨t, hx, rfl⟩
      · refine ⟨_, _, false, rfl, .inr ⟨rfl, rfl⟩, fun f hf => ?_⟩
        rcases hf with ⟨_, rfl⟩ | ⟨u, k, _⟩
        · rfl
        · rw [hx] at k; cases k
      · refine ⟨_, _, true, rfl, .inl ⟨rfl, rfl⟩, fun f hf => ?_⟩
        rcases hf with ⟨k, _⟩ | ⟨u, k, rfl⟩
        · rw [hx] at k; cases k
        · rw [hx] at k
          rw [Option.some.inj k]
    obtain ⟨U, E, b, rfl, hEb, hf⟩ := hx'
    have tu := text_eq U
    clear hx
    go_wp2_with fail
    refine (hU3 w4).mono ?_
    rintro e5 w5 ⟨hy, hb5⟩
    obtain rfl := hf e5 hy
    clear hf hy
    rcases hEb with ⟨rfl, rfl⟩ | ⟨rfl, rfl⟩
    all_goals
      go_wp2_with fail
      refine (hR w5).mono ?_
      rintro e w6 ⟨rfl, hb6⟩
      go_wp2_with fail
      go_ret
      exact ⟨rfl, below3 hb1 hb2 (below3 hb3 hb4 (below2 hb5 hb6))⟩
  · go_enter Tryd.func3, Tryd.ntmps3
    go_wp2_with fail
    refine (awakeE_any w hG).mono ?_
    rintro e w1 ⟨rfl, hb1⟩
    go_wp2_with fail
    refine (awakeE_any w1 (hG.later hb1)).mono ?_
    rintro e w2 ⟨rfl, hb2⟩
    go_wp2_with fail
    go_ret
    exact ⟨rfl, below2 hb1 hb2⟩
end Go.Proofs.YtnkefpopkaagaaaDoor
