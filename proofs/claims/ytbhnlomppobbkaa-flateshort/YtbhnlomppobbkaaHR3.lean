/-
  The program's reader of bits: room, steps.
-/
import Derived.Test.YtbhnlomppobbkaaHR2
import Derived.Test.YtbhnlomppobbkaaHW3
namespace Go.Proofs.Ytbhnlomppobbkaa
open Go.RowKit Ch
set_option maxRecDepth 100000

theorem Rd.text {rb : Nat} {s : ByteArray} {most p : Nat} {fv fx bk tv : Value} {text : List UInt8} {W : World} (h : Rd rb s most fv fx bk p text tv W) : ∃ a cap, tv = .slice a text.length cap := own_shape h.row
set_option maxHeartbeats 4000000 in
theorem rdRoom_ok (rb : Nat) (s : ByteArray) (most p : Nat) (fv fx bk tv : Value) (text : List UInt8) (w : World) (h : Rd rb s most fv fx bk p text tv w) (n : Nat) (hm : most ≤ 9223372036854775807) (hn : text.length + n ≤ most) :
    Calls Try.prog 50 #[.pointer (some ⟨rb, 0, none⟩), .int .i64 (n : Int)] w fun e w' => e = .returned (.tuple #[]) ∧ Rd rb s most fv fx bk p text tv w' ∧ Kept rb w w' := by
  obtain ⟨a, cap, rfl⟩ := h.text
  obtain ⟨_, _, h2, h3, _, _⟩ := h.cells
  have hc : decide ((n : Int) ≤ (most : Int) - (text.length : Int)) = true := decide_eq_true (by omega)
  have hR := fun w => hRequire_ok 12 w
  go_enter Try.func50, Try.ntmps50
  go_wp2_with fail
  go_quiet ((go_at_call 49; exact Calls.quiet_of_same (hR _)))
  go_wp2
  go_end0
  exact ⟨rfl, h.drewN _, (Kept.refl rb w).drewN _⟩
set_option maxHeartbeats 4000000 in
theorem rdRoom_err (rb : Nat) (s : ByteArray) (most p : Nat) (fv fx bk tv : Value) (text : List UInt8) (w : World) (h : Rd rb s most fv fx bk p text tv w) (n : Nat) (hm : most ≤ 9223372036854775807) (hl : text.length ≤ 9223372036854775807) (hn : ¬ text.length + n ≤ most) :
    Calls Try.prog 50 #[.pointer (some ⟨rb, 0, none⟩), .int .i64 (n : Int)] w fun e w' => e = .panicked (PE 12) ∧ Below rb w w' := by
  obtain ⟨a, cap, rfl⟩ := h.text
  obtain ⟨_, _, h2, h3, _, _⟩ := h.cells
  have hc : decide ((n : Int) ≤ (most : Int) - (text.length : Int)) = false := decide_eq_false (by omega)
  have hR := fun w => hRequire_err 12 w
  have k2 : IntKind.i64.wrap ((most : Int) - (text.length : Int)) = (most : Int) - (text.length : Int) := by rw [IntKind.wrap_i64]; omega
  go_enter Try.func50, Try.ntmps50
  go_wp2_with fail
  refine wp_region_any (by kernel_rfl) ?_
  try (change wpAny _ _ _ _ _ _ _ (World.drew _))
  refine wpAny_take (i := 0) (v := ?v1) rfl (by kernel_rfl) (by kernel_rfl) (by kernel_rfl) (fun _ _ _ h => h) (Or.inl ⟨by rfl, ?h1⟩) ?r1
  case h1 =>
    intro w
    go_simp
    try with_reducible rfl
  refine wpAny_take (i := 1) (v := ?v2) rfl (by kernel_rfl) (by kernel_rfl) (by kernel_rfl) (fun _ _ _ h => h) (Or.inl ⟨by rfl, ?h2⟩) ?r2
  case h2 =>
    intro w
    go_simp
    try with_reducible rfl
  refine wpAny_take (i := 2) (v := ?v3) rfl (by kernel_rfl) (by kernel_rfl) (by kernel_rfl) (fun _ _ _ h => h) (Or.inl ⟨by rfl, ?h3⟩) ?r3
  case h3 =>
    intro w
    go_simp
    try with_reducible rfl
  refine wpAny_take (i := 3) (v := ?v4) rfl (by kernel_rfl) (by kernel_rfl) (by kernel_rfl) (fun _ _ _ h => h) (Or.inl ⟨by rfl, ?h4⟩) ?r4
  case h4 =>
    intro w
    go_simp
    try with_reducible rfl
  refine wpAny_take (i := 5) (v := ?v5) rfl (by kernel_rfl) (by kernel_rfl) (by kernel_rfl) (fun _ _ _ h => h) (Or.inl ⟨by rfl, ?h5⟩) ?r5
  case h5 =>
    intro w
    go_simp
    try with_reducible rfl
  refine wpAny_take (i := 6) (v := ?v6) rfl (by kernel_rfl) (by kernel_rfl) (by kernel_rfl) (fun _ _ _ h => h) (Or.inl ⟨by rfl, ?h6⟩) ?r6
  case h6 =>
    intro w
    go_simp
    try with_reducible rfl
  refine wpAny_take (i := 7) (v := ?v7) rfl (by kernel_rfl) (by kernel_rfl) (by kernel_rfl) (fun _ _ _ h => h) (Or.inl ⟨by rfl, ?h7⟩) ?r7
  case h7 =>
    intro w
    go_simp
    try with_reducible rfl
  refine wpAny_ready (rs := [4, 8]) (by kernel_rfl) (by simp) ?_
  refine AllReady.cons rfl (fun K hK => ?_) ?_
  · go_simp
    refine hK _ _ ?_
    clear hK K
    refine wpAny_ready (rs := [8]) (by kernel_rfl) (by simp) ?_
    refine AllReady.cons rfl (fun K hK => ?_) ?_
    · go_simp
      refine hK _ _ ?_
      clear hK K
      refine wpAny_take (i := 9) (v := ?v8) rfl (by kernel_rfl) (by kernel_rfl) (by kernel_rfl) (fun _ _ _ h => h) (Or.inl ⟨by rfl, ?h8⟩) ?r8
      case h8 =>
        intro w
        go_simp
        try with_reducible rfl
      refine wpAny_take (i := 10) (v := ?v9) rfl (by kernel_rfl) (by kernel_rfl) (by kernel_rfl) (fun _ _ _ h => h) (Or.inl ⟨by rfl, ?h9⟩) ?r9
      case h9 =>
        intro w
        go_simp
        try with_reducible rfl
      refine wpAny_take (i := 11) (v := ?v10) rfl (by kernel_rfl) (by kernel_rfl) (by kernel_rfl) (fun _ _ _ h => h) (Or.inl ⟨by rfl, ?h10⟩) ?r10
      case h10 =>
        intro w
        go_simp
        try with_reducible rfl
      refine wpAny_ready (rs := [12]) (by kernel_rfl) (by simp) ?_
      refine AllReady.cons rfl (fun K hK => ?_) ?_
      · go_simp
        refine (hR _).mono ?_
        rintro e w1 ⟨rfl, rfl⟩
        exact ⟨rfl, rfl, (Below.refl rb _).drew⟩
      exact AllReady.nil
    exact AllReady.nil
  refine AllReady.cons rfl (fun K hK => ?_) ?_
  · go_simp
    refine hK _ _ ?_
    clear hK K
    refine wpAny_take (i := 9) (v := ?v11) rfl (by kernel_rfl) (by kernel_rfl) (by kernel_rfl) (fun _ _ _ h => h) (Or.inl ⟨by rfl, ?h11⟩) ?r11
    case h11 =>
      intro w
      go_simp
      try with_reducible rfl
    refine wpAny_ready (rs := [4]) (by kernel_rfl) (by simp) ?_
    refine AllReady.cons rfl (fun K hK => ?_) ?_
    · go_simp
      refine hK _ _ ?_
      clear hK K
      refine wpAny_take (i := 10) (v := ?v12) rfl (by kernel_rfl) (by kernel_rfl) (by kernel_rfl) (fun _ _ _ h => h) (Or.inl ⟨by rfl, ?h12⟩) ?r12
      case h12 =>
        intro w
        go_simp
        try with_reducible rfl
      refine wpAny_take (i := 11) (v := ?v13) rfl (by kernel_rfl) (by kernel_rfl) (by kernel_rfl) (fun _ _ _ h => h) (Or.inl ⟨by rfl, ?h13⟩) ?r13
      case h13 =>
        intro w
        go_simp
        try with_reducible rfl
      refine wpAny_ready (rs := [12]) (by kernel_rfl) (by simp) ?_
      refine AllReady.cons rfl (fun K hK => ?_) ?_
      · go_simp
        refine (hR _).mono ?_
        rintro e w1 ⟨rfl, rfl⟩
        exact ⟨rfl, rfl, (Below.refl rb _).drew⟩
      exact AllReady.nil
    exact AllReady.nil
  exact AllReady.nil
/-- A call of the reader's ends as the plain words say: with a state, or in a panic with an error's number. -/
def Ends (rb : Nat) (w : World) {α : Type} (r : Except Nat α) (good : α → Ending → World → Prop) (e : Ending) (w' : World) : Prop := match r with
  | .ok a => good a e w'
  | .error k => e = .panicked (PE k) ∧ Below rb w w'
theorem rdNumber_any (rb : Nat) (s : ByteArray) (most p : Nat) (fv fx bk tv : Value) (text : List UInt8) (w : World) (h : Rd rb s most fv fx bk p text tv w) (k : Nat) (hk : k ≤ 16) (hs : s.size ≤ 1000000) :
    Calls Try.prog 42 #[.pointer (some ⟨rb, 0, none⟩), .int .i64 (k : Int)] w (Ends rb w (rdNum s.data.toList k p) fun x e w' => e = .returned (.int .i64 (x.1 : Int)) ∧ Rd rb s most fv fx bk x.2 text tv w' ∧ Kept rb w w') := by
  unfold rdNum
  rw [len_eq]
  by_cases hp : p + k ≤ 8 * s.size
  · rw [if_pos hp]
    exact rdNumber_ok rb s most p fv fx bk tv text w h k hk hp hs
  · rw [if_neg hp]
    exact rdNumber_err rb s most p fv fx bk tv text w h k hk hp hs
set_option maxHeartbeats 4000000 in
theorem rdStep_any (rb : Nat) (s : ByteArray) (most p : Nat) (fv fx bk tv : Value) (text : List UInt8) (w : World) (h : Rd rb s most fv fx bk p text tv w) (i g : Nat) (hi : i < 30) (hg : g = 2 ∨ g = 4) (hs : s.size ≤ 1000000) :
    Calls Try.prog 64 #[.pointer (some ⟨rb, 0, none⟩), .int .i64 (i : Int), .int .i64 (g : Int)] w (Ends rb w (stepAt s.data.toList i g p) fun x e w' => e = .returned (.int .i64 (x.1 : Int)) ∧ Rd rb s most fv fx bk x.2 text tv w' ∧ Kept rb w w') := by
  have hM := hBitsMore_any i g w (by omega) hg
  have hwid : (moreN i g).2 ≤ 16 := by unfold moreN; split; simp; rcases hg with rfl | rfl <;> simp <;> omega
  have hle : (moreN i g).1 ≤ 70000 := by
    have h1 := more_two_fin ⟨i, by omega⟩
    have h2 := more_mono hg (i := i) (j := 30) (by omega) (by omega)
    have h3 : (moreN 30 2).1 ≤ 70000 ∧ (moreN 30 4).1 ≤ 70000 := by decide
    rcases hg with rfl | rfl
    · have := h3.1; omega
    · have := h3.2; omega
  have hN := rdNumber_any rb s most p fv fx bk tv text w h (moreN i g).2 hwid hs
  have hlt := fun x q (e : rdNum s.data.toList (moreN i g).2 p = .ok (x, q)) => show x < 2 ^ 16 by
    unfold rdNum at e
    split at e
    · simp only [Except.ok.injEq, Prod.mk.injEq] at e
      rw [← e.1]
      exact Nat.lt_of_lt_of_le (numAt_lt _ _ _) (Nat.pow_le_pow_right (by omega) hwid)
    · cases e
  unfold stepAt
  generalize (moreN i g).1 = a at *
  generalize (moreN i g).2 = b at *
  cases hx : rdNum s.data.toList b p with
  | error k =>
    rw [hx] at hN
    go_enter Try.func64, Try.ntmps64
    go_wp2_with (first | (go_at_call 48; go_must (refine hM.mono ?_; rintro e w1 ⟨rfl, rfl⟩)) | (go_at_call 42; go_must (refine hN.mono ?_; rintro e w1 ⟨rfl, hb⟩)))
    exact ⟨rfl, rfl, hb⟩
  | ok xq =>
    obtain ⟨x, q⟩ := xq
    rw [hx] at hN
    have hx2 := hlt x q hx
    clear hx hlt
    go_enter Try.func64, Try.ntmps64
    go_wp2_with (first | (go_at_call 48; go_must (refine hM.mono ?_; rintro e w1 ⟨rfl, rfl⟩)) | (go_at_call 42; go_must (refine hN.mono ?_; rintro e w1 ⟨rfl, hR, hK⟩)))
    go_wp2
    go_ret
    exact ⟨rfl, hR, hK⟩
end Go.Proofs.Ytbhnlomppobbkaa
