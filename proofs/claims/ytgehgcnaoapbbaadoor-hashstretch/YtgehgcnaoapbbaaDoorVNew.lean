/-
  The document's New.
-/
import Derived.Test.YtgehgcnaoapbbaaDoorVWords
import Derived.Handy
import Derived.Test.YtgehgcnaoapbbaaDoorKRow
namespace Go.Proofs.YtgehgcnaoapbbaaDoor
open Go.RowKit Ch
set_option maxRecDepth 100000

theorem grown_setCell (w : World) (p : Addr) (u : Value) : w.grownBy (w.setCell p u) (some p.block) := by
  have hb := (Below.refl 0 w).setCell (p := p) (Nat.zero_le _) u
  exact ⟨hb.os, hb.tape, hb.output, by rw [setCell_size]; exact Nat.le_refl _, fun k _ hk => Below.heap_setCell _ _ _ _ (fun e => hk (by rw [e]))⟩
theorem own_setOther {w : World} {base n : Nat} {e : TypeId} {v : Value} {xs : List Value} (h : w.ownsRow base e 1 v n xs) (p : Addr) (u : Value) (hp : p.block < base) : (w.setCell p u).ownsRow base e 1 v n xs := by
  refine h.kept (grown_setCell w p u) ?_
  rcases hv : v.ownBlock with _ | k
  · exact .inl rfl
  · refine .inr (fun hk => ?_)
    have := (World.ownsRow.lt h k hv).1
    have := Option.some.inj hk
    omega
set_option maxHeartbeats 1000000 in
theorem vNew_any (w : World) :
    Calls Tryd.prog 11 #[] w fun e w' => (∃ u v, e = .returned (.agg #[u, v]) ∧ IsN .u32 w' u beginS.l ∧ IsN .u32 w' v roundK) ∧ Below w.heap.size w w' := by
  go_enter Tryd.func11, Tryd.ntmps11
  go_wp2_with fail
  refine (vWords_any _).mono ?_
  rintro e w1 ⟨⟨u, v, rfl, hU, hV⟩, hb1⟩
  have hN := heap_push_at w (.cells #[.slice none 0 0, .slice none 0 0] 30)
  have hb0 : Below w.heap.size w (w.alloc (.cells #[.slice none 0 0, .slice none 0 0] 30)) := (Below.refl _ w).alloc (Nat.le_refl _) _
  have hR := (hb1.block _ (block_lt hN)).trans hN
  have hbw := hb0.trans (hb1.mono hb0.size)
  obtain ⟨au, cu, rfl⟩ := own_shape hU
  obtain ⟨av, cv, rfl⟩ := own_shape hV
  have g0 := block_cell 0 hR rfl
  have g1 := block_cell 1 hR rfl
  have f0 := block_free 0 hR
  have f1 := block_free 1 hR
  clear hN hb0 hb1
  go_wp2_with fail
  have hi2 : (Tryd.prog.info? 30).map (·.size) = some 2 := by kernel_rfl
  have hB1 := setCell_block (i := 0) (u := .slice au beginS.l.length cu) hR
  have hB2 := setCell_block (i := 1) (u := .slice av roundK.length cv) hB1
  have hlt : w.heap.size < (w.alloc (.cells #[.slice none 0 0, .slice none 0 0] 30)).heap.size := by simp
  have hU2 := own_n (own_setOther (own_setOther hU ⟨w.heap.size, 0, none⟩ (.slice au beginS.l.length cu) hlt) ⟨w.heap.size, 1, none⟩ (.slice av roundK.length cv) hlt)
  have hV2 := own_n (own_setOther (own_setOther hV ⟨w.heap.size, 0, none⟩ (.slice au beginS.l.length cu) hlt) ⟨w.heap.size, 1, none⟩ (.slice av roundK.length cv) hlt)
  have hbs := (hbw.setCell (p := ⟨w.heap.size, 0, none⟩) (Nat.le_refl _) (.slice au beginS.l.length cu)).setCell (p := ⟨w.heap.size, 1, none⟩) (Nat.le_refl _) (.slice av roundK.length cv)
  refine bodyPost_ret (v := .agg #[.slice au beginS.l.length cu, .slice av roundK.length cv]) ?_ rfl ⟨⟨_, _, rfl, hU2, hV2⟩, hbs⟩
  exact results_cell_row rfl _ _ w.heap.size _ _ _ _ rfl hB2 Tryd.underlying30 rfl hi2
end Go.Proofs.YtgehgcnaoapbbaaDoor
