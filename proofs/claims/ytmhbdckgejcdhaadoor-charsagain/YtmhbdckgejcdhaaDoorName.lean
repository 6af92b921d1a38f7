/-
  isName and Name: which texts are names, for every text and any number of them.
-/
import Derived.Test.YtmhbdckgejcdhaaDoorBad
namespace Go.Proofs.YtmhbdckgejcdhaaDoor
open Go.RowKit Ch

/-- The two tables lie in memory as the program's text lays them. -/
structure Tabs (w : World) : Prop where
  letters : ∃ t fr, w.heap[0]? = some (.cells lettersC t fr)
  follow : ∃ t fr, w.heap[1]? = some (.cells followC t fr)
theorem Tabs.size {w : World} (h : Tabs w) : 2 ≤ w.heap.size := by
  obtain ⟨t, fr, e⟩ := h.follow
  exact (Array.getElem?_eq_some_iff.1 e).1
theorem Tabs.below {w w' : World} (h : Tabs w) {B : Nat} (hB : 2 ≤ B) (hb : Below B w w') : Tabs w' := by
  obtain ⟨⟨t, fr, e⟩, ⟨t', fr', e'⟩⟩ := h
  exact ⟨⟨t, fr, (hb.block 0 (by omega)).trans e⟩, ⟨t', fr', (hb.block 1 (by omega)).trans e'⟩⟩
theorem Tabs.later {w w' : World} (h : Tabs w) (hb : Below w.heap.size w w') : Tabs w' := h.below h.size hb

theorem cLetter_tabs (r : Int) (w : World) (h : Tabs w) : Calls Tryd.prog 37 #[.int .i32 r] w fun e w' => e = .returned (.bool (letterB r)) ∧ Below w.heap.size w w' := by
  obtain ⟨t, fr, e⟩ := h.letters
  exact cLetter_any r w t fr e
theorem cFollower_tabs (r : Int) (w : World) (h : Tabs w) : Calls Tryd.prog 38 #[.int .i32 r] w fun e w' => e = .returned (.bool (moreB r)) ∧ Below w.heap.size w w' := by
  obtain ⟨t, fr, e⟩ := h.follow
  exact cFollower_any r w t fr e

theorem isName_short {s : ByteArray} (h : s.size = 0 ∨ 256 < s.size) : Ch.isName s = false := by
  unfold Ch.isName
  rw [decide_eq_false (by omega)]
  rfl
theorem isName_long {s : ByteArray} (h0 : s.size ≠ 0) (h1 : s.size ≤ 256) : Ch.isName s = nameFrom s s.size 0 := by
  unfold Ch.isName
  rw [decide_eq_true ⟨h0, h1⟩]
  rfl

theorem empty_true {s : ByteArray} (h : s.size = 0) : s.toList.isEmpty = true := by
  rw [Lib.toList_data]
  have : s.data.toList.length = s.size := by simp
  have hl : s.data.toList = [] := List.eq_nil_of_length_eq_zero (by omega)
  rw [hl]
  rfl
theorem empty_false {s : ByteArray} (h : s.size ≠ 0) : s.toList.isEmpty = false := by
  rw [Lib.toList_data]
  have : s.data.toList.length = s.size := by simp
  match hl : s.data.toList with
  | [] => rw [hl] at this; exact absurd this.symm h
  | _ :: _ => rfl

set_option maxHeartbeats 1000000 in
theorem cIsName_any (s : ByteArray) (w : World) (hs : s.size ≤ 1000000) (ht : Tabs w) :
    Calls Tryd.prog 27 #[.string s] w fun e w' => e = .returned (.bool (Ch.isName s)) ∧ Below w.heap.size w w' := by
  by_cases h0 : s.size = 0
  · have e0 : s.toList.isEmpty = true := empty_true h0
    have hf : Hid (false = Ch.isName s) := (isName_short (.inl h0)).symm
    clear h0
    go_enter Tryd.func27, Tryd.ntmps27
    go_wp2
    go_ret
    exact ⟨ret_bool hf.out, Below.refl _ _⟩
  have e0 : s.toList.isEmpty = false := empty_false h0
  by_cases h1 : 256 < s.size
  · have hf : Hid (false = Ch.isName s) := (isName_short (.inr h1)).symm
    clear h0
    go_enter Tryd.func27, Tryd.ntmps27
    go_wp2
    go_ret
    exact ⟨ret_bool hf.out, Below.refl _ _⟩
  have hN : Hid (Ch.isName s = nameFrom s s.size 0) := isName_long h0 (by omega)
  have hT2 := ht.size
  clear h0
  have h1' : (decide ((256 : Int) < (s.size : Int))) = false := decide_eq_false (by omega)
  go_enter Tryd.func27, Tryd.ntmps27
  go_wp2
  go_loopw [] (fun wr => ∃ (pos fuel : Nat), wr.heap[w.heap.size]? = some (.stringIter s pos) ∧ Below w.heap.size w wr ∧ Hid (nameFrom s fuel pos = Ch.isName s) ∧ s.size ≤ pos + fuel) (fun wr => s.size - wr.iterPos w.heap.size)
  case atStart =>
    exact ⟨0, s.size, World.iter_heap w s 0, (Below.refl _ w).alloc (Nat.le_refl _) _, hN.out.symm, by omega⟩
  case round =>
    obtain ⟨pos, fuel, hit, hb, hbad, hfu⟩ := hrel
    by_cases hp : pos < s.size
    · have hnx : ∀ ty, (Instr.next (.pointer (some ⟨w.heap.size, 0, none⟩)) true ty).run Tryd.prog wr = _ := fun ty => Lib.run_next_any_at wr w.heap.size s pos ty hit hp
      obtain ⟨f, rfl⟩ : ∃ f, fuel = f + 1 := ⟨fuel - 1, by omega⟩
      by_cases h0 : (one s pos).2 = 0
      · have hst : Hid (false = Ch.isName s) := (nameFrom_stop (f := f) hp (fun h => h.1 h0)).symm.trans hbad.out
        simp only [one_none h0] at hnx
        have hbr : brokenB s pos 65533 = true := by
          have := broken_one s pos
          rw [one_none h0, decide_eq_true h0] at this
          exact this
        have hb2 := Lib.below_iterAt hb (Nat.le_refl _) s (pos + 1)
        clear h0 hbad hb
        go_wp2_with (go_at_call 23; refine (cBroken_any s pos _ _ (by unfold maxLen; omega) (by omega)).mono ?_; rintro e w' ⟨rfl, rfl⟩)
        go_ret
        exact ⟨ret_bool hst.out, hb2⟩
      · obtain ⟨c, n, hcn⟩ : ∃ c n, one s pos = (c, n) := ⟨_, _, rfl⟩
        have hd := one_char h0
        rw [hcn] at hd
        have hbr := broken_one s pos
        simp only [hd] at hnx hbr
        rw [decide_eq_false h0] at hbr
        have hb2 := Lib.below_iterAt hb (Nat.le_refl _) s (pos + n)
        have hit2 := Lib.iterAt_heap wr w.heap.size s pos (pos + n) hit
        have hT1 := ht.below hT2 hb2
        have hsz2 : w.heap.size < (wr.iterAt w.heap.size s (pos + n)).heap.size := (Array.getElem?_eq_some_iff.1 hit2).1
        have hn0 : n ≠ 0 := by rw [hcn] at h0; exact h0
        by_cases hl : letterB (c : Int) = true
        · have hst : Hid (nameFrom s f (pos + n) = Ch.isName s) := by
            have := nameFrom_step (f := f) hp ⟨h0, .inl (by rw [hcn]; exact hl)⟩
            rw [hcn] at this
            exact this.symm.trans hbad.out
          clear h0 hbad hb hd hcn
          go_wp2_with (go_at_call 23; refine (cBroken_any s pos _ _ (by unfold maxLen; omega) (by omega)).mono ?_; rintro e w' ⟨rfl, rfl⟩)
          refine (cLetter_tabs _ _ hT1).mono ?_
          rintro e W2 ⟨rfl, hb3⟩
          go_wp2_with fail
          have hit3 := (hb3.block w.heap.size hsz2).trans hit2
          go_roundw
          case rel => exact ⟨pos + n, f, hit3, hb2.trans (hb3.mono (by omega)), hst, by omega⟩
          case measure =>
            simp only [World.iterPos, hit3, hit]
            omega
        · have hl : letterB (c : Int) = false := Bool.eq_false_iff.2 hl
          by_cases hz : pos = 0
          · have hz' : ((pos : Int) == 0) = true := beq_iff_eq.2 (by omega)
            have hst : Hid (false = Ch.isName s) := (nameFrom_stop (f := f) hp (fun h => h.2.elim (by rw [hcn, hl]; intro q; cases q) (fun q => q.1 hz))).symm.trans hbad.out
            clear h0 hbad hb hd hcn hz
            go_wp2_with (go_at_call 23; refine (cBroken_any s pos _ _ (by unfold maxLen; omega) (by omega)).mono ?_; rintro e w' ⟨rfl, rfl⟩)
            refine (cLetter_tabs _ _ hT1).mono ?_
            rintro e W2 ⟨rfl, hb3⟩
            go_wp2_with fail
            go_ret
            exact ⟨ret_bool hst.out, hb2.trans (hb3.mono (by omega))⟩
          · have hz' : ((pos : Int) == 0) = false := beq_eq_false_iff_ne.2 (by omega)
            by_cases hm : moreB (c : Int) = true
            · have hst : Hid (nameFrom s f (pos + n) = Ch.isName s) := by
                have := nameFrom_step (f := f) hp ⟨h0, .inr ⟨hz, by rw [hcn]; exact hm⟩⟩
                rw [hcn] at this
                exact this.symm.trans hbad.out
              clear h0 hbad hb hd hcn
              go_wp2_with (go_at_call 23; refine (cBroken_any s pos _ _ (by unfold maxLen; omega) (by omega)).mono ?_; rintro e w' ⟨rfl, rfl⟩)
              refine (cLetter_tabs _ _ hT1).mono ?_
              rintro e W2 ⟨rfl, hb3⟩
              go_wp2_with fail
              refine (cFollower_tabs _ _ (hT1.later hb3)).mono ?_
              rintro e W3 ⟨rfl, hb4⟩
              go_wp2_with fail
              have hsz3 := hb3.size
              have hit3 := (hb4.block w.heap.size (by omega)).trans ((hb3.block w.heap.size hsz2).trans hit2)
              go_roundw
              case rel => exact ⟨pos + n, f, hit3, (hb2.trans (hb3.mono (by omega))).trans (hb4.mono (by omega)), hst, by omega⟩
              case measure =>
                simp only [World.iterPos, hit3, hit]
                omega
            · have hm : moreB (c : Int) = false := Bool.eq_false_iff.2 hm
              have hst : Hid (false = Ch.isName s) := (nameFrom_stop (f := f) hp (fun h => h.2.elim (by rw [hcn, hl]; intro q; cases q) (by rw [hcn, hm]; intro q; cases q.2))).symm.trans hbad.out
              clear h0 hbad hb hd hcn
              go_wp2_with (go_at_call 23; refine (cBroken_any s pos _ _ (by unfold maxLen; omega) (by omega)).mono ?_; rintro e w' ⟨rfl, rfl⟩)
              refine (cLetter_tabs _ _ hT1).mono ?_
              rintro e W2 ⟨rfl, hb3⟩
              go_wp2_with fail
              refine (cFollower_tabs _ _ (hT1.later hb3)).mono ?_
              rintro e W3 ⟨rfl, hb4⟩
              go_wp2_with fail
              have hsz3 := hb3.size
              go_ret
              exact ⟨ret_bool hst.out, (hb2.trans (hb3.mono (by omega))).trans (hb4.mono (by omega))⟩
    · have hnx : ∀ ty, (Instr.next (.pointer (some ⟨w.heap.size, 0, none⟩)) true ty).run Tryd.prog wr = _ := fun ty => Lib.run_next_end_at wr w.heap.size s pos ty hit hp
      have hst : Hid (true = Ch.isName s) := (nameFrom_end hp).symm.trans hbad.out
      go_wp2
      go_ret
      exact ⟨ret_bool hst.out, hb⟩

/-- A slice of texts: its cells hold them. -/
def Texts (w : World) (v : Value) (l : List ByteArray) : Prop := ∃ a cap, v = .slice a l.length cap ∧ l.length ≤ cap ∧ ((a = none ∧ l = []) ∨ ∃ b o, a = some ⟨b, o, none⟩ ∧ b < w.heap.size ∧ ∀ (j : Nat) x, l[j]? = some x → w.cell? ⟨b, o + j, none⟩ = some (.string x))

theorem cName_none (a : Option Addr) (cap : Nat) (w : World) :
    Calls Tryd.prog 12 #[.slice a 0 cap] w fun e w' => e = .returned (.bool true) ∧ Below w.heap.size w w' := by
  go_enter Tryd.func12, Tryd.ntmps12
  go_wp2
  go_loop [7] (fun i => i = .int .i64 0) (fun _ => 0)
  case atStart => rfl
  case round =>
    subst hrel
    go_wp2
    go_ret
    exact ⟨rfl, Below.refl _ _⟩

set_option maxHeartbeats 1000000 in
theorem cName_some (b o cap : Nat) (l : List ByteArray) (w : World) (hl : l.length ≤ 1000000) (hb : b < w.heap.size) (hc : ∀ (j : Nat) x, l[j]? = some x → w.cell? ⟨b, o + j, none⟩ = some (.string x)) (hs : ∀ x ∈ l, x.size ≤ 1000000) (ht : Tabs w) :
    Calls Tryd.prog 12 #[.slice (some ⟨b, o, none⟩) l.length cap] w fun e w' => e = .returned (.bool (l.all Ch.isName)) ∧ Below w.heap.size w w' := by
  go_enter Tryd.func12, Tryd.ntmps12
  go_wp2
  go_loopw [7] (fun i wr => ∃ k : Nat, k ≤ l.length ∧ i = .int .i64 k ∧ Hid ((l.take k).all Ch.isName = true) ∧ Below w.heap.size w wr) (fun i _ => l.length - (intOf i).toNat)
  case atStart => exact ⟨0, by omega, rfl, rfl, Below.refl _ _⟩
  case round =>
    obtain ⟨k, hk, rfl, hp, hbw⟩ := hrel
    by_cases hlt : k < l.length
    · have hx : l[k]? = some l[k] := List.getElem?_eq_getElem hlt
      have hcell : wr.cell? ⟨b, o + k, none⟩ = some (.string l[k]) := (hbw.cell (p := ⟨b, o + k, none⟩) hb).trans (hc k _ hx)
      have hT1 := ht.later hbw
      have hsz := hs l[k] (List.getElem_mem hlt)
      have hbs := hbw.size
      obtain ⟨x, hxe⟩ : ∃ x, l[k] = x := ⟨_, rfl⟩
      have HX : Hid (l[k]? = some x) := by rw [← hxe]; exact hx
      rw [hxe] at hcell hsz
      clear hx hxe hc
      by_cases hn : Ch.isName x = true
      · have hst : Hid ((l.take (k + 1)).all Ch.isName = true) := by
          unfold Hid
          rw [List.take_add_one, HX.out, List.all_append, hp.out]
          simp [hn]
        go_wp2_with (go_at_call 27; refine (cIsName_any _ _ hsz hT1).mono ?_)
        rintro e W2 ⟨rfl, hb3⟩
        go_wp2_with fail
        go_roundw
        case rel => exact ⟨k + 1, by omega, by go_num, hst, hbw.trans (hb3.mono (by omega))⟩
        case measure => simp [intOf]; omega
      · have hn : Ch.isName x = false := Bool.eq_false_iff.2 hn
        have hst : Hid (false = l.all Ch.isName) := by
          unfold Hid
          symm
          rw [List.all_eq_false]
          exact ⟨x, List.mem_of_getElem? HX.out, by rw [hn]; decide⟩
        go_wp2_with (go_at_call 27; refine (cIsName_any _ _ hsz hT1).mono ?_)
        rintro e W2 ⟨rfl, hb3⟩
        go_wp2_with fail
        go_ret
        exact ⟨ret_bool hst.out, hbw.trans (hb3.mono (by omega))⟩
    · have hst : Hid (true = l.all Ch.isName) := by
        have := hp.out
        rw [List.take_of_length_le (by omega)] at this
        exact this.symm
      go_wp2
      go_ret
      exact ⟨ret_bool hst.out, hbw⟩

theorem cName_texts (v : Value) (l : List ByteArray) (w : World) (hv : Texts w v l) (hl : l.length ≤ 1000000) (hs : ∀ x ∈ l, x.size ≤ 1000000) (ht : Tabs w) :
    Calls Tryd.prog 12 #[v] w fun e w' => e = .returned (.bool (l.all Ch.isName)) ∧ Below w.heap.size w w' := by
  obtain ⟨a, cap, rfl, hcap, ⟨rfl, rfl⟩ | ⟨b, o, rfl, hb, hc⟩⟩ := hv
  · exact cName_none none cap w
  · exact cName_some b o cap l w hl hb hc hs ht
end Go.Proofs.YtmhbdckgejcdhaaDoor
