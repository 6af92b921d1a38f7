/-
  The statement on names: one by one and several in a call they are names as the document says, for every list of texts.
-/
import Derived.Test.YtmhbdckgejcdhaaDoorRName
namespace Go.Proofs.YtmhbdckgejcdhaaDoor
open Go.RowKit Ch

/-- A slice of texts that came in. -/
def IsTexts (w : World) (v : Value) (l : List ByteArray) : Prop := ∃ a cap, v = .slice a l.length cap ∧ l.length ≤ cap ∧ cap ≤ maxLen ∧ (∀ x ∈ l, x.size ≤ maxLen) ∧ ((a = none ∧ l = []) ∨ ∃ x, a = some x ∧ (l = [] ∨ ∃ b o, x = ⟨b, o, none⟩ ∧ b < w.heap.size ∧ ∀ (j : Nat) y, l[j]? = some y → w.cell? ⟨b, o + j, none⟩ = some (.string y)))

set_option maxHeartbeats 1000000 in
theorem lNames_long (a : Option Addr) (len cap : Nat) (w : World) (hl63 : len ≤ 9223372036854775807) (h5 : 50 < len) (ht : Tabs w) :
    Calls Tryd.prog 4 #[.slice a len cap] w fun e w' => e = .returned (.bool true) ∧ Below w.heap.size w w' := by
  go_enter Tryd.func4, Tryd.ntmps4
  go_wp2_with fail
  refine (awake_any w ht).mono ?_
  rintro e w1 ⟨rfl, b1⟩
  have t1 := ht.later b1
  go_wp2_with fail
  refine (awake_any w1 t1).mono ?_
  rintro e w2 ⟨rfl, b2⟩
  go_wp2_with fail
  go_ret
  exact ⟨rfl, b1.trans (b2.mono b1.size)⟩

set_option maxHeartbeats 1000000 in
theorem lNames_none (a : Option Addr) (cap : Nat) (w : World) (ht : Tabs w) :
    Calls Tryd.prog 4 #[.slice a 0 cap] w fun e w' => e = .returned (.bool true) ∧ Below w.heap.size w w' := by
  go_enter Tryd.func4, Tryd.ntmps4
  go_wp2_with fail
  refine (awake_any w ht).mono ?_
  rintro e w1 ⟨rfl, b1⟩
  go_wp2_with fail
  go_loop [3, 4] (fun m i => m = .bool true ∧ i = .int .i64 0) (fun _ _ => 0)
  case atStart => exact ⟨rfl, rfl⟩
  case round =>
    obtain ⟨rfl, rfl⟩ := hrel
    go_wp2_with fail
    refine (cName_none a cap _).mono ?_
    rintro e w2 ⟨rfl, b2⟩
    go_wp2_with fail
    go_ret
    exact ⟨rfl, b1.trans (b2.mono b1.size)⟩

set_option maxHeartbeats 2000000 in
theorem lNames_some (b o cap : Nat) (l : List ByteArray) (w : World) (hl : l.length ≤ 50) (hsz : ∀ x ∈ l, x.size ≤ 9223372036854775807) (hb : b < w.heap.size) (hc : ∀ (j : Nat) y, l[j]? = some y → w.cell? ⟨b, o + j, none⟩ = some (.string y)) (ht : Tabs w) :
    Calls Tryd.prog 4 #[.slice (some ⟨b, o, none⟩) l.length cap] w fun e w' => e = .returned (.bool true) ∧ Below w.heap.size w w' := by
  have h50 : decide ((50 : Int) < (l.length : Int)) = false := decide_eq_false (by omega)
  go_enter Tryd.func4, Tryd.ntmps4
  go_wp2_with fail
  refine (awake_any w ht).mono ?_
  rintro e w1 ⟨rfl, b1⟩
  go_wp2_with fail
  go_loopw [3, 4] (fun m i wr => ∃ k : Nat, k ≤ l.length ∧ i = .int .i64 k ∧ m = .bool ((l.take k).all Ch.isName) ∧ Below w.heap.size w wr ∧ Hid (∀ x ∈ l.take k, x.size ≤ 1000)) (fun _ i _ => l.length - (intOf i).toNat)
  case atStart => exact ⟨0, by omega, rfl, rfl, b1, by intro x hx; simp at hx⟩
  case round =>
    obtain ⟨k, hk, rfl, rfl, hbw, hsh⟩ := hrel
    by_cases hlt : k < l.length
    · have hx : l[k]? = some l[k] := List.getElem?_eq_getElem hlt
      have hcell : wr.cell? ⟨b, o + k, none⟩ = some (.string l[k]) := (hbw.cell (p := ⟨b, o + k, none⟩) hb).trans (hc k _ hx)
      have hs0 := hsz l[k] (List.getElem_mem hlt)
      have hbs := hbw.size
      obtain ⟨x, hxe⟩ : ∃ x, l[k] = x := ⟨_, rfl⟩
      have HX : Hid (l[k]? = some x) := by rw [← hxe]; exact hx
      rw [hxe] at hcell hs0
      clear hx hxe
      by_cases h1000 : 1000 < x.size
      · go_wp2_with fail
        go_ret
        exact ⟨rfl, hbw⟩
      · have hR := rName_any x wr (by omega)
        have hT := ht.later hbw
        have hsh2 : Hid (∀ y ∈ l.take (k + 1), y.size ≤ 1000) := by
          unfold Hid
          intro y hy
          rw [List.take_add_one, HX.out] at hy
          rcases List.mem_append.1 hy with hy | hy
          · exact hsh.out y hy
          · simp at hy; subst hy; omega
        have hall : Hid ((l.take (k + 1)).all Ch.isName = ((l.take k).all Ch.isName && Ch.isName x)) := by
          unfold Hid
          rw [List.take_add_one, HX.out, List.all_append]
          simp
        have h1000' : decide ((1000 : Int) < (x.size : Int)) = false := decide_eq_false (by omega)
        generalize hq : (l.take k).all Ch.isName = q at hall
        clear hq hsh
        have hE : Hid ([x].all Ch.isName = Ch.isName x) := by unfold Hid; simp
        generalize Ch.isName x = z at hR hall hE
        go_wp2_with fail
        refine hR.mono ?_
        rintro e w2 ⟨rfl, b2⟩
        have hcell2 : w2.cell? ⟨b, o + k, none⟩ = some (.string x) := (b2.cell (p := ⟨b, o + k, none⟩) (by show b < wr.heap.size; omega)).trans hcell
        have hT2 := hT.later b2
        have hN := awake_name1 x z hE.out (by omega) w2 hT2
        go_wp2_with fail
        refine hN.mono ?_
        rintro e w3 ⟨rfl, b3⟩
        have hz : (z != z) = false := by simp
        have c2 := hbw.trans (b2.mono hbs)
        have c3 := c2.trans (b3.mono c2.size)
        clear hN hR
        cases q <;> cases z
        all_goals
          go_wp2_with fail
          go_roundw
          case rel => exact ⟨k + 1, by omega, by go_num, congrArg Value.bool hall.out.symm, c3, hsh2⟩
          case measure => simp [intOf]; omega
    · obtain rfl : k = l.length := by omega
      rw [List.take_length] at hsh
      have hT := ht.later hbw
      have hN := cName_some b o cap l wr (by omega) (Nat.lt_of_lt_of_le hb hbw.size) (fun j y hj => (hbw.cell (p := ⟨b, o + j, none⟩) hb).trans (hc j y hj)) (fun x hx => Nat.le_trans (hsh.out x hx) (by omega)) hT
      rw [List.take_length]
      generalize l.all Ch.isName = q at hN
      go_wp2_with (go_at_call 12; refine hN.mono ?_)
      rintro e w2 ⟨rfl, b2⟩
      go_wp2_with fail
      go_ret
      exact ⟨ret_bool (by simp), hbw.trans (b2.mono hbw.size)⟩

theorem lNames_walk (a : Option Addr) (len cap : Nat) (l : List ByteArray) (w : World) (hlen : l.length = len) (h : IsTexts w (.slice a len cap) l) (ht : Tabs w) :
    Calls Tryd.prog 4 #[.slice a len cap] w fun e w' => e = .returned (.bool true) ∧ Below w.heap.size w w' := by
  subst hlen
  obtain ⟨a', cap', hv, hc, hm, hs, h⟩ := h
  simp only [Value.slice.injEq, true_and] at hv
  obtain ⟨rfl, rfl⟩ := hv
  unfold maxLen at hm hs
  by_cases h5 : 50 < l.length
  · exact lNames_long a l.length cap w (by omega) h5 ht
  rcases h with ⟨rfl, rfl⟩ | ⟨x, rfl, rfl | ⟨b, o, rfl, hb, hcell⟩⟩
  · exact lNames_none none cap w ht
  · exact lNames_none (some x) cap w ht
  · exact lNames_some b o cap l w (by omega) hs hb hcell ht
end Go.Proofs.YtmhbdckgejcdhaaDoor
