/-
  The program's reader: a block by the fixed codes.
-/
import Derived.Test.YtbhnlomppobbkaaHR9
import Derived.Test.YtbhnlomppobbkaaHR6
import Derived.Deep.RegionWith
import Derived.BigRegion
namespace Go.Proofs.Ytbhnlomppobbkaa
open Go.RowKit Ch
set_option maxRecDepth 100000

/-- The fixed codes: not made yet, or there. -/
def FxOk (rb : Nat) (fx bk : Value) (W : World) : Prop := IsCodes rb fixedL fx W ∧ IsCodes rb fixedD bk W
def FxState (rb : Nat) (fx bk : Value) (W : World) : Prop := (fx = .pointer none ∧ bk = .pointer none) ∨ FxOk rb fx bk W
theorem fixedD_eq : fixedD = (List.range 32).map fun _ => 5 := by decide
theorem Rd.setFx {rb : Nat} {s : ByteArray} {most p : Nat} {fv fx bk tv : Value} {text : List UInt8} {W : World} (h : Rd rb s most fv fx bk p text tv W) (u : Value) : Rd rb s most fv u bk p text tv (W.setCell ⟨rb, 4, none⟩ u) :=
  ⟨setCell_block (i := 4) h.box, ownsRow_setCell_below h.row (a := ⟨rb, 4, none⟩) (Nat.lt_succ_self _) _, h.src.later ((Below.refl rb W).setCell (p := ⟨rb, 4, none⟩) (Nat.le_refl _) _), h.le⟩
theorem Rd.setBk {rb : Nat} {s : ByteArray} {most p : Nat} {fv fx bk tv : Value} {text : List UInt8} {W : World} (h : Rd rb s most fv fx bk p text tv W) (u : Value) : Rd rb s most fv fx u p text tv (W.setCell ⟨rb, 5, none⟩ u) :=
  ⟨setCell_block (i := 5) h.box, ownsRow_setCell_below h.row (a := ⟨rb, 5, none⟩) (Nat.lt_succ_self _) _, h.src.later ((Below.refl rb W).setCell (p := ⟨rb, 5, none⟩) (Nat.le_refl _) _), h.le⟩
theorem Rd.later {rb : Nat} {s : ByteArray} {most p : Nat} {fv fx bk tv : Value} {text : List UInt8} {W W' : World} (h : Rd rb s most fv fx bk p text tv W) (hb : Below W.heap.size W W') : Rd rb s most fv fx bk p text tv W' :=
  ⟨(hb.block rb (block_lt h.box)).trans h.box, ownsRow_later h.row hb, h.src.later (hb.mono (by have := block_lt h.box; omega)), h.le⟩
theorem fix_len : ∀ i, i < 288 → (fixC i).2 ≤ 15 := by intro i hi; unfold fixC; split; simp; split; simp; split <;> simp
theorem ints_le {f : Nat → Nat} {n : Nat} (h : ∀ i, i < n → f i ≤ 15) : ∀ i x : Nat, ((List.range n).map f)[i]? = some x → x ≤ 15 := by
  intro i x hx
  rw [List.getElem?_map] at hx
  rcases Nat.lt_or_ge i n with hi | hi
  · rw [List.getElem?_range hi] at hx
    simp at hx
    rw [← hx]
    exact h i hi
  · rw [List.getElem?_eq_none (by simpa using hi)] at hx
    cases hx
set_option maxHeartbeats 8000000 in
/-- With the codes there. -/
theorem rdFixed_have (rb : Nat) (s : ByteArray) (most p : Nat) (fv fx2 bk2 tv : Value) (text : List UInt8) (w : World) (hR3 : Rd rb s most fv fx2 bk2 p text tv w) (hF : FxOk rb fx2 bk2 w) (hs : s.size ≤ 1000000) (hm : most ≤ 9223372036854775807) (hT : text.length ≤ 300 * p) :
    Calls Try.prog 44 #[.pointer (some ⟨rb, 0, none⟩)] w (Ends rb w (signsL fixedL fixedD s.data.toList most p text) fun x e w' => e = .returned (.tuple #[]) ∧ ∃ tv' fx' bk', Rd rb s most fv fx' bk' x.1 x.2 tv' w' ∧ FxOk rb fx' bk' w' ∧ Kept rb w w') := by
  obtain ⟨hC3, hD3⟩ := hF
  obtain ⟨fb, hfb⟩ : ∃ fb, fx2 = .pointer (some ⟨fb, 0, none⟩) := by obtain ⟨cb, _, _, _, _, h, _⟩ := hC3; exact ⟨cb, h⟩
  subst hfb
  go_enter Try.func44, Try.ntmps44
  have hS := fun (W : World) (h : Rd rb s most fv (.pointer (some ⟨fb, 0, none⟩)) bk2 p text tv W) (k : Kept rb w W) => rdSigns_any rb s most p fv (.pointer (some ⟨fb, 0, none⟩)) bk2 tv (.pointer (some ⟨fb, 0, none⟩)) bk2 text fixedL fixedD W h (hC3.kept k) (hD3.kept k) (by decide) (by decide) hs hm hT
  have g4 := hR3.cells.2.2.2.2.1
  have g5 := hR3.cells.2.2.2.2.2
  cases hx : signsL fixedL fixedD s.data.toList most p text with
  | error k =>
    rw [hx] at hS
    clear hx
    go_wp2_with fail
    refine wp_region_any (by kernel_rfl) ?_
    try (change wpAny _ _ _ _ _ _ _ (World.drew _))
    refine wpAny_take (i := 0) (v := ?vb1) rfl (by kernel_rfl) (by kernel_rfl) (by kernel_rfl) (fun _ _ _ h => h) (Or.inl ⟨by rfl, ?hb1⟩) ?rb1
    case hb1 =>
      intro w
      go_simp
      try with_reducible rfl
    refine wpAny_take (i := 1) (v := ?vb2) rfl (by kernel_rfl) (by kernel_rfl) (by kernel_rfl) (fun _ _ _ h => h) (Or.inl ⟨by rfl, ?hb2⟩) ?rb2
    case hb2 =>
      intro w
      go_simp
      try with_reducible rfl
    refine wpAny_take (i := 2) (v := ?vb3) rfl (by kernel_rfl) (by kernel_rfl) (by kernel_rfl) (fun _ _ _ h => h) (Or.inl ⟨by rfl, ?hb3⟩) ?rb3
    case hb3 =>
      intro w
      go_simp
      try with_reducible rfl
    refine wpAny_take (i := 3) (v := ?vb4) rfl (by kernel_rfl) (by kernel_rfl) (by kernel_rfl) (fun _ _ _ h => h) (Or.inl ⟨by rfl, ?hb4⟩) ?rb4
    case hb4 =>
      intro w
      go_simp
      try with_reducible rfl
    refine wpAny_take (i := 5) (v := ?vb5) rfl (by kernel_rfl) (by kernel_rfl) (by kernel_rfl) (fun _ _ _ h => h) (Or.inl ⟨by rfl, ?hb5⟩) ?rb5
    case hb5 =>
      intro w
      go_simp
      try with_reducible rfl
    refine wpAny_take (i := 6) (v := ?vb6) rfl (by kernel_rfl) (by kernel_rfl) (by kernel_rfl) (fun _ _ _ h => h) (Or.inl ⟨by rfl, ?hb6⟩) ?rb6
    case hb6 =>
      intro w
      go_simp
      try with_reducible rfl
    refine wpAny_take (i := 7) (v := ?vb7) rfl (by kernel_rfl) (by kernel_rfl) (by kernel_rfl) (fun _ _ _ h => h) (Or.inl ⟨by rfl, ?hb7⟩) ?rb7
    case hb7 =>
      intro w
      go_simp
      try with_reducible rfl
    refine wpAny_ready (rs := [4, 8]) (by kernel_rfl) (by simp) ?_
    refine AllReady.cons rfl (fun K hK => ?_) ?_
    · go_simp
      refine hK _ _ ?_
      clear hK K
      refine wpAny_ready (rs := [8]) (by kernel_rfl) (by simp) ?_
      refine AllReady.cons rfl (fun K hK => ?_) ?_
      · go_simp
        refine hK _ _ ?_
        clear hK K
        refine wpAny_ready (rs := [9]) (by kernel_rfl) (by simp) ?_
        refine AllReady.cons rfl (fun K hK => ?_) ?_
        · go_simp
          refine (hS _ hR3.drew (Kept.drew (Kept.refl rb w))).mono ?_
          rintro e w4 ⟨rfl, hb4⟩
          exact ⟨rfl, rfl, ((Kept.refl rb w).trans (Kept.refl rb w).drew).below.trans hb4⟩
        exact AllReady.nil
      exact AllReady.nil
    refine AllReady.cons rfl (fun K hK => ?_) ?_
    · go_simp
      refine hK _ _ ?_
      clear hK K
      refine wpAny_ready (rs := [4]) (by kernel_rfl) (by simp) ?_
      refine AllReady.cons rfl (fun K hK => ?_) ?_
      · go_simp
        refine hK _ _ ?_
        clear hK K
        refine wpAny_ready (rs := [9]) (by kernel_rfl) (by simp) ?_
        refine AllReady.cons rfl (fun K hK => ?_) ?_
        · go_simp
          refine (hS _ hR3.drew (Kept.drew (Kept.refl rb w))).mono ?_
          rintro e w4 ⟨rfl, hb4⟩
          exact ⟨rfl, rfl, ((Kept.refl rb w).trans (Kept.refl rb w).drew).below.trans hb4⟩
        exact AllReady.nil
      exact AllReady.nil
    exact AllReady.nil
  | ok x =>
    rw [hx] at hS
    clear hx
    go_wp2_with fail
    refine wp_region_any (by kernel_rfl) ?_
    try (change wpAny _ _ _ _ _ _ _ (World.drew _))
    refine wpAny_take (i := 0) (v := ?va1) rfl (by kernel_rfl) (by kernel_rfl) (by kernel_rfl) (fun _ _ _ h => h) (Or.inl ⟨by rfl, ?ha1⟩) ?ra1
    case ha1 =>
      intro w
      go_simp
      try with_reducible rfl
    refine wpAny_take (i := 1) (v := ?va2) rfl (by kernel_rfl) (by kernel_rfl) (by kernel_rfl) (fun _ _ _ h => h) (Or.inl ⟨by rfl, ?ha2⟩) ?ra2
    case ha2 =>
      intro w
      go_simp
      try with_reducible rfl
    refine wpAny_take (i := 2) (v := ?va3) rfl (by kernel_rfl) (by kernel_rfl) (by kernel_rfl) (fun _ _ _ h => h) (Or.inl ⟨by rfl, ?ha3⟩) ?ra3
    case ha3 =>
      intro w
      go_simp
      try with_reducible rfl
    refine wpAny_take (i := 3) (v := ?va4) rfl (by kernel_rfl) (by kernel_rfl) (by kernel_rfl) (fun _ _ _ h => h) (Or.inl ⟨by rfl, ?ha4⟩) ?ra4
    case ha4 =>
      intro w
      go_simp
      try with_reducible rfl
    refine wpAny_take (i := 5) (v := ?va5) rfl (by kernel_rfl) (by kernel_rfl) (by kernel_rfl) (fun _ _ _ h => h) (Or.inl ⟨by rfl, ?ha5⟩) ?ra5
    case ha5 =>
      intro w
      go_simp
      try with_reducible rfl
    refine wpAny_take (i := 6) (v := ?va6) rfl (by kernel_rfl) (by kernel_rfl) (by kernel_rfl) (fun _ _ _ h => h) (Or.inl ⟨by rfl, ?ha6⟩) ?ra6
    case ha6 =>
      intro w
      go_simp
      try with_reducible rfl
    refine wpAny_take (i := 7) (v := ?va7) rfl (by kernel_rfl) (by kernel_rfl) (by kernel_rfl) (fun _ _ _ h => h) (Or.inl ⟨by rfl, ?ha7⟩) ?ra7
    case ha7 =>
      intro w
      go_simp
      try with_reducible rfl
    refine wpAny_ready (rs := [4, 8]) (by kernel_rfl) (by simp) ?_
    refine AllReady.cons rfl (fun K hK => ?_) ?_
    · go_simp
      refine hK _ _ ?_
      clear hK K
      refine wpAny_ready (rs := [8]) (by kernel_rfl) (by simp) ?_
      refine AllReady.cons rfl (fun K hK => ?_) ?_
      · go_simp
        refine hK _ _ ?_
        clear hK K
        refine wpAny_ready (rs := [9]) (by kernel_rfl) (by simp) ?_
        refine AllReady.cons rfl (fun K hK => ?_) ?_
        · go_simp
          refine (hS _ hR3.drew (Kept.drew (Kept.refl rb w))).mono ?_
          rintro e w4 ⟨rfl, v4, hR4, hK4⟩
          try go_simp
          refine hK _ _ ?_
          clear hK K
          refine wpAny_done (by kernel_rfl) ?_ _
          go_wp2
          go_end0
          exact ⟨rfl, v4, (.pointer (some ⟨fb, 0, none⟩)), bk2, hR4, ⟨hC3.kept ((Kept.refl rb w).drew.trans hK4), hD3.kept ((Kept.refl rb w).drew.trans hK4)⟩, ((Kept.refl rb w).trans (Kept.refl rb w).drew).trans hK4⟩
        exact AllReady.nil
      exact AllReady.nil
    refine AllReady.cons rfl (fun K hK => ?_) ?_
    · go_simp
      refine hK _ _ ?_
      clear hK K
      refine wpAny_ready (rs := [4]) (by kernel_rfl) (by simp) ?_
      refine AllReady.cons rfl (fun K hK => ?_) ?_
      · go_simp
        refine hK _ _ ?_
        clear hK K
        refine wpAny_ready (rs := [9]) (by kernel_rfl) (by simp) ?_
        refine AllReady.cons rfl (fun K hK => ?_) ?_
        · go_simp
          refine (hS _ hR3.drew (Kept.drew (Kept.refl rb w))).mono ?_
          rintro e w4 ⟨rfl, v4, hR4, hK4⟩
          try go_simp
          refine hK _ _ ?_
          clear hK K
          refine wpAny_done (by kernel_rfl) ?_ _
          go_wp2
          go_end0
          exact ⟨rfl, v4, (.pointer (some ⟨fb, 0, none⟩)), bk2, hR4, ⟨hC3.kept ((Kept.refl rb w).drew.trans hK4), hD3.kept ((Kept.refl rb w).drew.trans hK4)⟩, ((Kept.refl rb w).trans (Kept.refl rb w).drew).trans hK4⟩
        exact AllReady.nil
      exact AllReady.nil
    exact AllReady.nil
set_option maxHeartbeats 8000000 in
/-- The codes are made. -/
theorem rdFixed_make (rb : Nat) (s : ByteArray) (most p : Nat) (fv tv : Value) (text : List UInt8) (w : World) (h : Rd rb s most fv (.pointer none) (.pointer none) p text tv w) (hs : s.size ≤ 1000000) (hm : most ≤ 9223372036854775807) (hT : text.length ≤ 300 * p) :
    Calls Try.prog 44 #[.pointer (some ⟨rb, 0, none⟩)] w (Ends rb w (signsL fixedL fixedD s.data.toList most p text) fun x e w' => e = .returned (.tuple #[]) ∧ ∃ tv' fx' bk', Rd rb s most fv fx' bk' x.1 x.2 tv' w' ∧ FxOk rb fx' bk' w' ∧ Kept rb w w') := by
  cases hx : signsL fixedL fixedD s.data.toList most p text with
  | error kk =>
    have HX : Hid (signsL fixedL fixedD s.data.toList most p text = .error kk) := hx
    clear hx
    have h4 := h.cells.2.2.2.2.1
    have hrb := block_lt h.box
    have hLA := fun W => hLengthsOf_any 53 288 (enters_of Try.func53 (by kernel_rfl) rfl) (fun i => (fixC i).2) W (by omega) (fun W i hi => fixedA_any i W hi)
    have hLB := fun W => hLengthsOf_any 54 32 (enters_of Try.func54 (by kernel_rfl) rfl) (fun _ => 5) W (by omega) (fun W i _ => fixedB_any i W)
    have hNA := fun v W hI => hNewCodes_any v fixedL W hI (by decide) (ints_le fix_len)
    have hNB := fun v W hI => hNewCodes_any v fixedD W hI (by decide) (by rw [fixedD_eq]; exact ints_le (fun _ _ => by omega))
    go_enter Try.func44, Try.ntmps44
    go_wp2_with (go_at_call 52; go_must (refine (hLA _).mono ?_; rintro e w1 ⟨⟨v1, rfl, ho1⟩, hb1⟩))
    have hI1 : IsInts w1 v1 fixedL := own_ints (base := w.heap.size) ho1
    have hz1 := hb1.size
    go_wp2_with (go_at_call 51; go_must (refine (hNA v1 w1 hI1).mono ?_; rintro e w2 ⟨⟨c1, rfl, hc1⟩, hb2⟩; have hR2 := (h.later hb1).later hb2; have g4 := hR2.cells.2.2.2.2.1; have f4 := hR2.free 4; have hci := hc1 rb (by omega); obtain ⟨cb1, _, _, _, _, hp1, _⟩ := hci; subst hp1))
    have hci := hc1 rb (by omega)
    have hz2 := hb2.size
    have K2 : Kept rb w w2 := (Kept.of_below hb1 hrb).trans (Kept.of_below hb2 (by omega))
    have hR3 := hR2.setFx (.pointer (some ⟨cb1, 0, none⟩))
    have K3 := K2.setCell 4 (.pointer (some ⟨cb1, 0, none⟩))
    have hci3 : IsCodes rb fixedL (.pointer (some ⟨cb1, 0, none⟩)) (w2.setCell ⟨rb, 4, none⟩ (.pointer (some ⟨cb1, 0, none⟩))) := hci.kept ((Kept.refl rb w2).setCell 4 _)
    obtain ⟨W3, hW3⟩ : ∃ W3, w2.setCell ⟨rb, 4, none⟩ (.pointer (some ⟨cb1, 0, none⟩)) = W3 := ⟨_, rfl⟩
    rw [hW3] at hR3 K3 hci3
    have hrb3 := block_lt hR3.box
    clear hb1 hb2 ho1 hI1 hc1 hR2 g4 f4 hci K2 h4
    rw [hW3]
    clear hW3
    refine (hLB W3).mono ?_
    rintro e w4 ⟨⟨v4, rfl, ho4⟩, hb4⟩
    have hI4 : IsInts w4 v4 fixedD := by rw [fixedD_eq]; exact own_ints (base := W3.heap.size) ho4
    have hz4 := hb4.size
    go_wp2_with (go_at_call 51; go_must (refine (hNB v4 w4 hI4).mono ?_; rintro e w5 ⟨⟨c5, rfl, hc5⟩, hb5⟩; have hR5 := (hR3.later hb4).later hb5; have g5 := hR5.cells.2.2.2.2.2; have f5 := hR5.free 5; have hci5 := hc5 rb (by omega); obtain ⟨cb5, _, _, _, _, hp5, _⟩ := hci5; subst hp5))
    have hci5 := hc5 rb (by omega)
    have hz5 := hb5.size
    have K45 : Kept rb W3 w5 := (Kept.of_below hb4 hrb3).trans (Kept.of_below hb5 (by omega))
    have hR6 := hR5.setBk (.pointer (some ⟨cb5, 0, none⟩))
    have K6 := (K3.trans K45).setCell 5 (.pointer (some ⟨cb5, 0, none⟩))
    have hC6 : IsCodes rb fixedL (.pointer (some ⟨cb1, 0, none⟩)) (w5.setCell ⟨rb, 5, none⟩ (.pointer (some ⟨cb5, 0, none⟩))) := (hci3.kept K45).kept ((Kept.refl rb w5).setCell 5 _)
    have hD6 : IsCodes rb fixedD (.pointer (some ⟨cb5, 0, none⟩)) (w5.setCell ⟨rb, 5, none⟩ (.pointer (some ⟨cb5, 0, none⟩))) := hci5.kept ((Kept.refl rb w5).setCell 5 _)
    obtain ⟨w6, hW6⟩ : ∃ w6, w5.setCell ⟨rb, 5, none⟩ (.pointer (some ⟨cb5, 0, none⟩)) = w6 := ⟨_, rfl⟩
    rw [hW6] at hR6 K6 hC6 hD6
    rw [hW6]
    clear hW6 hb4 hb5 ho4 hI4 hc5 hR5 g5 f5 hci5 K45 hci3 K3 hR3 hLA hLB hNA hNB
    have hS := fun (W : World) (h : Rd rb s most fv (.pointer (some ⟨cb1, 0, none⟩)) (.pointer (some ⟨cb5, 0, none⟩)) p text tv W) (k : Kept rb w6 W) => rdSigns_any rb s most p fv (.pointer (some ⟨cb1, 0, none⟩)) (.pointer (some ⟨cb5, 0, none⟩)) tv (.pointer (some ⟨cb1, 0, none⟩)) (.pointer (some ⟨cb5, 0, none⟩)) text fixedL fixedD W h (hC6.kept k) (hD6.kept k) (by decide) (by decide) hs hm hT
    have g4 := hR6.cells.2.2.2.2.1
    have g5 := hR6.cells.2.2.2.2.2
    rw [HX.out] at hS
    go_wp2_with fail
    refine wp_region_any (by kernel_rfl) ?_
    try (change wpAny _ _ _ _ _ _ _ (World.drew _))
    refine wpAny_take (i := 0) (v := ?vb1) rfl (by kernel_rfl) (by kernel_rfl) (by kernel_rfl) (fun _ _ _ h => h) (Or.inl ⟨by rfl, ?hb1⟩) ?rb1
    case hb1 =>
      intro w
      go_simp
      try with_reducible rfl
    refine wpAny_take (i := 1) (v := ?vb2) rfl (by kernel_rfl) (by kernel_rfl) (by kernel_rfl) (fun _ _ _ h => h) (Or.inl ⟨by rfl, ?hb2⟩) ?rb2
    case hb2 =>
      intro w
      go_simp
      try with_reducible rfl
    refine wpAny_take (i := 2) (v := ?vb3) rfl (by kernel_rfl) (by kernel_rfl) (by kernel_rfl) (fun _ _ _ h => h) (Or.inl ⟨by rfl, ?hb3⟩) ?rb3
    case hb3 =>
      intro w
      go_simp
      try with_reducible rfl
    refine wpAny_take (i := 3) (v := ?vb4) rfl (by kernel_rfl) (by kernel_rfl) (by kernel_rfl) (fun _ _ _ h => h) (Or.inl ⟨by rfl, ?hb4⟩) ?rb4
    case hb4 =>
      intro w
      go_simp
      try with_reducible rfl
    refine wpAny_take (i := 5) (v := ?vb5) rfl (by kernel_rfl) (by kernel_rfl) (by kernel_rfl) (fun _ _ _ h => h) (Or.inl ⟨by rfl, ?hb5⟩) ?rb5
    case hb5 =>
      intro w
      go_simp
      try with_reducible rfl
    refine wpAny_take (i := 6) (v := ?vb6) rfl (by kernel_rfl) (by kernel_rfl) (by kernel_rfl) (fun _ _ _ h => h) (Or.inl ⟨by rfl, ?hb6⟩) ?rb6
    case hb6 =>
      intro w
      go_simp
      try with_reducible rfl
    refine wpAny_take (i := 7) (v := ?vb7) rfl (by kernel_rfl) (by kernel_rfl) (by kernel_rfl) (fun _ _ _ h => h) (Or.inl ⟨by rfl, ?hb7⟩) ?rb7
    case hb7 =>
      intro w
      go_simp
      try with_reducible rfl
    refine wpAny_ready (rs := [4, 8]) (by kernel_rfl) (by simp) ?_
    refine AllReady.cons rfl (fun K hK => ?_) ?_
    · go_simp
      refine hK _ _ ?_
      clear hK K
      refine wpAny_ready (rs := [8]) (by kernel_rfl) (by simp) ?_
      refine AllReady.cons rfl (fun K hK => ?_) ?_
      · go_simp
        refine hK _ _ ?_
        clear hK K
        refine wpAny_ready (rs := [9]) (by kernel_rfl) (by simp) ?_
        refine AllReady.cons rfl (fun K hK => ?_) ?_
        · go_simp
          refine (hS _ hR6.drew (Kept.drew (Kept.refl rb w6))).mono ?_
          rintro e w4 ⟨rfl, hb4⟩
          exact ⟨rfl, rfl, (K6.trans (Kept.refl rb w6).drew).below.trans hb4⟩
        exact AllReady.nil
      exact AllReady.nil
    refine AllReady.cons rfl (fun K hK => ?_) ?_
    · go_simp
      refine hK _ _ ?_
      clear hK K
      refine wpAny_ready (rs := [4]) (by kernel_rfl) (by simp) ?_
      refine AllReady.cons rfl (fun K hK => ?_) ?_
      · go_simp
        refine hK _ _ ?_
        clear hK K
        refine wpAny_ready (rs := [9]) (by kernel_rfl) (by simp) ?_
        refine AllReady.cons rfl (fun K hK => ?_) ?_
        · go_simp
          refine (hS _ hR6.drew (Kept.drew (Kept.refl rb w6))).mono ?_
          rintro e w4 ⟨rfl, hb4⟩
          exact ⟨rfl, rfl, (K6.trans (Kept.refl rb w6).drew).below.trans hb4⟩
        exact AllReady.nil
      exact AllReady.nil
    exact AllReady.nil
  | ok x =>
    have HX : Hid (signsL fixedL fixedD s.data.toList most p text = .ok x) := hx
    clear hx
    have h4 := h.cells.2.2.2.2.1
    have hrb := block_lt h.box
    have hLA := fun W => hLengthsOf_any 53 288 (enters_of Try.func53 (by kernel_rfl) rfl) (fun i => (fixC i).2) W (by omega) (fun W i hi => fixedA_any i W hi)
    have hLB := fun W => hLengthsOf_any 54 32 (enters_of Try.func54 (by kernel_rfl) rfl) (fun _ => 5) W (by omega) (fun W i _ => fixedB_any i W)
    have hNA := fun v W hI => hNewCodes_any v fixedL W hI (by decide) (ints_le fix_len)
    have hNB := fun v W hI => hNewCodes_any v fixedD W hI (by decide) (by rw [fixedD_eq]; exact ints_le (fun _ _ => by omega))
    go_enter Try.func44, Try.ntmps44
    go_wp2_with (go_at_call 52; go_must (refine (hLA _).mono ?_; rintro e w1 ⟨⟨v1, rfl, ho1⟩, hb1⟩))
    have hI1 : IsInts w1 v1 fixedL := own_ints (base := w.heap.size) ho1
    have hz1 := hb1.size
    go_wp2_with (go_at_call 51; go_must (refine (hNA v1 w1 hI1).mono ?_; rintro e w2 ⟨⟨c1, rfl, hc1⟩, hb2⟩; have hR2 := (h.later hb1).later hb2; have g4 := hR2.cells.2.2.2.2.1; have f4 := hR2.free 4; have hci := hc1 rb (by omega); obtain ⟨cb1, _, _, _, _, hp1, _⟩ := hci; subst hp1))
    have hci := hc1 rb (by omega)
    have hz2 := hb2.size
    have K2 : Kept rb w w2 := (Kept.of_below hb1 hrb).trans (Kept.of_below hb2 (by omega))
    have hR3 := hR2.setFx (.pointer (some ⟨cb1, 0, none⟩))
    have K3 := K2.setCell 4 (.pointer (some ⟨cb1, 0, none⟩))
    have hci3 : IsCodes rb fixedL (.pointer (some ⟨cb1, 0, none⟩)) (w2.setCell ⟨rb, 4, none⟩ (.pointer (some ⟨cb1, 0, none⟩))) := hci.kept ((Kept.refl rb w2).setCell 4 _)
    obtain ⟨W3, hW3⟩ : ∃ W3, w2.setCell ⟨rb, 4, none⟩ (.pointer (some ⟨cb1, 0, none⟩)) = W3 := ⟨_, rfl⟩
    rw [hW3] at hR3 K3 hci3
    have hrb3 := block_lt hR3.box
    clear hb1 hb2 ho1 hI1 hc1 hR2 g4 f4 hci K2 h4
    rw [hW3]
    clear hW3
    refine (hLB W3).mono ?_
    rintro e w4 ⟨⟨v4, rfl, ho4⟩, hb4⟩
    have hI4 : IsInts w4 v4 fixedD := by rw [fixedD_eq]; exact own_ints (base := W3.heap.size) ho4
    have hz4 := hb4.size
    go_wp2_with (go_at_call 51; go_must (refine (hNB v4 w4 hI4).mono ?_; rintro e w5 ⟨⟨c5, rfl, hc5⟩, hb5⟩; have hR5 := (hR3.later hb4).later hb5; have g5 := hR5.cells.2.2.2.2.2; have f5 := hR5.free 5; have hci5 := hc5 rb (by omega); obtain ⟨cb5, _, _, _, _, hp5, _⟩ := hci5; subst hp5))
    have hci5 := hc5 rb (by omega)
    have hz5 := hb5.size
    have K45 : Kept rb W3 w5 := (Kept.of_below hb4 hrb3).trans (Kept.of_below hb5 (by omega))
    have hR6 := hR5.setBk (.pointer (some ⟨cb5, 0, none⟩))
    have K6 := (K3.trans K45).setCell 5 (.pointer (some ⟨cb5, 0, none⟩))
    have hC6 : IsCodes rb fixedL (.pointer (some ⟨cb1, 0, none⟩)) (w5.setCell ⟨rb, 5, none⟩ (.pointer (some ⟨cb5, 0, none⟩))) := (hci3.kept K45).kept ((Kept.refl rb w5).setCell 5 _)
    have hD6 : IsCodes rb fixedD (.pointer (some ⟨cb5, 0, none⟩)) (w5.setCell ⟨rb, 5, none⟩ (.pointer (some ⟨cb5, 0, none⟩))) := hci5.kept ((Kept.refl rb w5).setCell 5 _)
    obtain ⟨w6, hW6⟩ : ∃ w6, w5.setCell ⟨rb, 5, none⟩ (.pointer (some ⟨cb5, 0, none⟩)) = w6 := ⟨_, rfl⟩
    rw [hW6] at hR6 K6 hC6 hD6
    rw [hW6]
    clear hW6 hb4 hb5 ho4 hI4 hc5 hR5 g5 f5 hci5 K45 hci3 K3 hR3 hLA hLB hNA hNB
    have hS := fun (W : World) (h : Rd rb s most fv (.pointer (some ⟨cb1, 0, none⟩)) (.pointer (some ⟨cb5, 0, none⟩)) p text tv W) (k : Kept rb w6 W) => rdSigns_any rb s most p fv (.pointer (some ⟨cb1, 0, none⟩)) (.pointer (some ⟨cb5, 0, none⟩)) tv (.pointer (some ⟨cb1, 0, none⟩)) (.pointer (some ⟨cb5, 0, none⟩)) text fixedL fixedD W h (hC6.kept k) (hD6.kept k) (by decide) (by decide) hs hm hT
    have g4 := hR6.cells.2.2.2.2.1
    have g5 := hR6.cells.2.2.2.2.2
    rw [HX.out] at hS
    go_wp2_with fail
    refine wp_region_any (by kernel_rfl) ?_
    try (change wpAny _ _ _ _ _ _ _ (World.drew _))
    refine wpAny_take (i := 0) (v := ?va1) rfl (by kernel_rfl) (by kernel_rfl) (by kernel_rfl) (fun _ _ _ h => h) (Or.inl ⟨by rfl, ?ha1⟩) ?ra1
    case ha1 =>
      intro w
      go_simp
      try with_reducible rfl
    refine wpAny_take (i := 1) (v := ?va2) rfl (by kernel_rfl) (by kernel_rfl) (by kernel_rfl) (fun _ _ _ h => h) (Or.inl ⟨by rfl, ?ha2⟩) ?ra2
    case ha2 =>
      intro w
      go_simp
      try with_reducible rfl
    refine wpAny_take (i := 2) (v := ?va3) rfl (by kernel_rfl) (by kernel_rfl) (by kernel_rfl) (fun _ _ _ h => h) (Or.inl ⟨by rfl, ?ha3⟩) ?ra3
    case ha3 =>
      intro w
      go_simp
      try with_reducible rfl
    refine wpAny_take (i := 3) (v := ?va4) rfl (by kernel_rfl) (by kernel_rfl) (by kernel_rfl) (fun _ _ _ h => h) (Or.inl ⟨by rfl, ?ha4⟩) ?ra4
    case ha4 =>
      intro w
      go_simp
      try with_reducible rfl
    refine wpAny_take (i := 5) (v := ?va5) rfl (by kernel_rfl) (by kernel_rfl) (by kernel_rfl) (fun _ _ _ h => h) (Or.inl ⟨by rfl, ?ha5⟩) ?ra5
    case ha5 =>
      intro w
      go_simp
      try with_reducible rfl
    refine wpAny_take (i := 6) (v := ?va6) rfl (by kernel_rfl) (by kernel_rfl) (by kernel_rfl) (fun _ _ _ h => h) (Or.inl ⟨by rfl, ?ha6⟩) ?ra6
    case ha6 =>
      intro w
      go_simp
      try with_reducible rfl
    refine wpAny_take (i := 7) (v := ?va7) rfl (by kernel_rfl) (by kernel_rfl) (by kernel_rfl) (fun _ _ _ h => h) (Or.inl ⟨by rfl, ?ha7⟩) ?ra7
    case ha7 =>
      intro w
      go_simp
      try with_reducible rfl
    refine wpAny_ready (rs := [4, 8]) (by kernel_rfl) (by simp) ?_
    refine AllReady.cons rfl (fun K hK => ?_) ?_
    · go_simp
      refine hK _ _ ?_
      clear hK K
      refine wpAny_ready (rs := [8]) (by kernel_rfl) (by simp) ?_
      refine AllReady.cons rfl (fun K hK => ?_) ?_
      · go_simp
        refine hK _ _ ?_
        clear hK K
        refine wpAny_ready (rs := [9]) (by kernel_rfl) (by simp) ?_
        refine AllReady.cons rfl (fun K hK => ?_) ?_
        · go_simp
          refine (hS _ hR6.drew (Kept.drew (Kept.refl rb w6))).mono ?_
          rintro e w4 ⟨rfl, v4, hR4, hK4⟩
          try go_simp
          refine hK _ _ ?_
          clear hK K
          refine wpAny_done (by kernel_rfl) ?_ _
          go_wp2
          go_end0
          exact ⟨rfl, v4, (.pointer (some ⟨cb1, 0, none⟩)), (.pointer (some ⟨cb5, 0, none⟩)), hR4, ⟨hC6.kept ((Kept.refl rb w6).drew.trans hK4), hD6.kept ((Kept.refl rb w6).drew.trans hK4)⟩, (K6.trans (Kept.refl rb w6).drew).trans hK4⟩
        exact AllReady.nil
      exact AllReady.nil
    refine AllReady.cons rfl (fun K hK => ?_) ?_
    · go_simp
      refine hK _ _ ?_
      clear hK K
      refine wpAny_ready (rs := [4]) (by kernel_rfl) (by simp) ?_
      refine AllReady.cons rfl (fun K hK => ?_) ?_
      · go_simp
        refine hK _ _ ?_
        clear hK K
        refine wpAny_ready (rs := [9]) (by kernel_rfl) (by simp) ?_
        refine AllReady.cons rfl (fun K hK => ?_) ?_
        · go_simp
          refine (hS _ hR6.drew (Kept.drew (Kept.refl rb w6))).mono ?_
          rintro e w4 ⟨rfl, v4, hR4, hK4⟩
          try go_simp
          refine hK _ _ ?_
          clear hK K
          refine wpAny_done (by kernel_rfl) ?_ _
          go_wp2
          go_end0
          exact ⟨rfl, v4, (.pointer (some ⟨cb1, 0, none⟩)), (.pointer (some ⟨cb5, 0, none⟩)), hR4, ⟨hC6.kept ((Kept.refl rb w6).drew.trans hK4), hD6.kept ((Kept.refl rb w6).drew.trans hK4)⟩, (K6.trans (Kept.refl rb w6).drew).trans hK4⟩
        exact AllReady.nil
      exact AllReady.nil
    exact AllReady.nil
theorem rdFixed_any (rb : Nat) (s : ByteArray) (most p : Nat) (fv fx bk tv : Value) (text : List UInt8) (w : World) (h : Rd rb s most fv fx bk p text tv w) (hF : FxState rb fx bk w) (hs : s.size ≤ 1000000) (hm : most ≤ 9223372036854775807) (hT : text.length ≤ 300 * p) :
    Calls Try.prog 44 #[.pointer (some ⟨rb, 0, none⟩)] w (Ends rb w (signsL fixedL fixedD s.data.toList most p text) fun x e w' => e = .returned (.tuple #[]) ∧ ∃ tv' fx' bk', Rd rb s most fv fx' bk' x.1 x.2 tv' w' ∧ FxOk rb fx' bk' w' ∧ Kept rb w w') := by
  rcases hF with ⟨rfl, rfl⟩ | hF
  · exact rdFixed_make rb s most p fv tv text w h hs hm hT
  · exact rdFixed_have rb s most p fv fx bk tv text w h hF hs hm hT
end Go.Proofs.Ytbhnlomppobbkaa
