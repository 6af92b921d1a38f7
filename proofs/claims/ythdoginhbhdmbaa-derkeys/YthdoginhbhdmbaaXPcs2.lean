/-
  Package der: pieces, walked.
-/
import Derived.Test.YthdoginhbhdmbaaXPcs
namespace Go.Proofs.Ythdoginhbhdmbaa
open Go.RowKit Ch
set_option maxRecDepth 100000

/-- What pieces answers. -/
def PcsIs (w : World) (r : Except Nat (List (UInt8 × List UInt8))) (e : Ending) (w' : World) : Prop := match r with
  | .error k => e = .panicked (PE k) ∧ Below w.heap.size w w'
  | .ok ps => (∃ v, e = .returned v ∧ IsPs w' v ps) ∧ Below w.heap.size w w'
def behind (d : List (UInt8 × List UInt8)) (r : Except Nat (List (UInt8 × List UInt8))) : Except Nat (List (UInt8 × List UInt8)) := match r with
  | .error k => .error k
  | .ok ps => .ok (d ++ ps)
def leftAt (w : World) (rb : Nat) : Nat := match w.cell? ⟨rb, 0, none⟩ with
  | some (.slice _ n _) => n
  | _ => 0
theorem XRd.left {rb : Nat} {l : List UInt8} {W : World} (h : XRd rb l W) : leftAt W rb = l.length := by
  obtain ⟨y, c, h1, _⟩ := h
  unfold leftAt
  rw [block_cell (v := .slice y l.length c) 0 h1 rfl]
theorem splitL_nil (f : Nat) : splitL f [] = .ok [] := by
  cases f with
  | zero => rfl
  | succ f => rw [splitL, if_pos rfl]
theorem behind_nil (r : Except Nat (List (UInt8 × List UInt8))) : behind [] r = r := by cases r <;> rfl
theorem PsOwn.kept {base rb : Nat} {w w' : World} {v : Value} {qs : List ((UInt8 × List UInt8) × Value)} (h : PsOwn base rb w v qs) (hk : KeptX [rb] w w') (hb : rb < base) : PsOwn base rb w' v qs := by
  refine ⟨⟨h.1.1, ?_⟩, fun q hq => (h.2 q hq).kept hk (fun k hk => by simp at hk; simp [hk])⟩
  rcases h.1.2 with h2 | ⟨g, cap, cur, hv, hg2, hh, r⟩
  · exact .inl h2
  · exact .inr ⟨g, cap, cur, hv, hg2, (hk.block g (block_lt hh) (by simp; omega)).trans hh, r⟩
set_option maxHeartbeats 4000000 in
theorem xPieces_any (x : Option Addr) (cx : Nat) (s : ByteArray) (w : World) (hS : IsBytes w (.slice x s.size cx) s) (hs : s.size ≤ 1000000) :
    Calls Try.prog 24 #[.slice x s.size cx] w (PcsIs w (splitL s.size s.data.toList)) := by
  obtain ⟨R, hR⟩ : ∃ R, splitL s.size s.data.toList = R := ⟨_, rfl⟩
  have hN := heap_push_at w (.cells #[.slice x s.size cx] 66)
  have hb0 : Below w.heap.size w (w.alloc (.cells #[.slice x s.size cx] 66)) := (Below.refl _ w).alloc (Nat.le_refl _) _
  have hsl : s.data.toList.length = s.size := len_eq s
  have hcx : s.size ≤ cx := by
    obtain ⟨_, _, e1, e2, _⟩ := hS
    simp only [Value.slice.injEq] at e1
    omega
  have hx0 : XRd w.heap.size s.data.toList (w.alloc (.cells #[.slice x s.size cx] 66)) := ⟨x, cx, by rw [hsl]; exact hN, by rw [hsl]; exact hcx, w, Nat.le_refl _, by rw [hsl]; exact hS, hb0⟩
  have HR := show Hid (splitL s.size s.data.toList = R ∧ s.data.toList.length ≤ s.size) from ⟨hR, by omega⟩
  have HX := show Hid (XRd w.heap.size s.data.toList (w.alloc (.cells #[.slice x s.size cx] 66)) ∧ Below w.heap.size w (w.alloc (.cells #[.slice x s.size cx] 66))) from ⟨hx0, hb0⟩
  rw [hR]
  clear hS hR hN hb0 hsl hcx hx0
  go_enter Try.func24, Try.ntmps24
  go_wp2_with fail
  obtain ⟨rb, hrb⟩ : ∃ rb, w.heap.size = rb := ⟨_, rfl⟩
  generalize (w.alloc (.cells #[.slice x s.size cx] 66)) = W0 at *
  rw [hrb] at HX ⊢
  have HRB := show Hid (w.heap.size = rb) from hrb
  clear hrb
  go_loopw [3] (fun v wr => ∃ (f : Nat) (l : List UInt8) (qs : List ((UInt8 × List UInt8) × Value)), Hid (behind (qs.map Prod.fst) (splitL f l) = R ∧ l.length ≤ f ∧ l.length + qs.length ≤ 1000000) ∧ Hid (XRd rb l wr) ∧ Hid (PsOwn (rb + 1) rb wr v qs) ∧ Hid (Below rb w wr)) (fun _ wr => leftAt wr rb)
  case atStart => exact ⟨s.size, s.data.toList, [], ⟨by rw [List.map_nil, behind_nil]; exact HR.out.1, HR.out.2, by have := HR.out.2; simp; omega⟩, HX.out.1, ⟨World.ownsRow_nil _ _ _ _, fun q hq => by cases hq⟩, HX.out.2⟩
  case round =>
    obtain ⟨f, l, qs, hI, hX, hP, hB⟩ := hrel
    obtain ⟨y, c, hbx, hlc, _⟩ := id hX.out
    have g0 := block_cell (v := .slice y l.length c) 0 hbx rfl
    have HLA := show Hid (leftAt wr rb = l.length) from hX.out.left
    cases l with
    | nil =>
      have HF := show Hid (PcsIs w R (.returned u3) wr) from by
        have h1 := hI.out.1
        rw [splitL_nil] at h1
        unfold Hid
        rw [← h1]
        refine ⟨⟨_, rfl, ?_⟩, by rw [HRB.out]; exact hB.out⟩
        have h2 := own_isPs hP.out
        rw [List.append_nil]
        exact h2
      clear hI hX hP hB hbx HLA
      go_wp2_with fail
      go_ret
      exact HF.out
    | cons t r =>
      have hn0 : (0 : Int) < ((t :: r).length : Int) := by simp only [List.length_cons]; omega
      have hlm : (t :: r).length ≤ 1000000 := by have := hI.out.2.2; omega
      have hPc := xPiece_any rb (t :: r) wr hX.out hlm
      obtain ⟨f, rfl⟩ : ∃ f', f = f' + 1 := ⟨f - 1, by have := hI.out.2.1; simp at this; omega⟩
      have HSp := show Hid (behind (qs.map Prod.fst) (match pieceL (t :: r) with
        | .error k => .error k
        | .ok (p, q) => match splitL f q with
          | .error k => .error k
          | .ok ps => .ok (p :: ps)) = R) from by
        have h1 := hI.out.1
        rw [splitL, if_neg (by simp)] at h1
        exact h1
      obtain ⟨n, hn⟩ : ∃ n, (t :: r).length = n := ⟨_, rfl⟩
      rw [hn] at g0 hn0 HLA
      have HI2 := show Hid (n ≤ f + 1 ∧ n + qs.length ≤ 1000000 ∧ (t :: r).length = n) from ⟨by have := hI.out.2.1; omega, by have := hI.out.2.2; omega, hn⟩
      have hrbl := show Hid (rb < wr.heap.size) from hX.out.lt
      clear hI hX hbx hlc hlm hn
      cases hp : pieceL (t :: r) with
      | error k =>
        rw [hp] at hPc HSp
        have HF : R = .error k := HSp.out.symm
        subst HF
        clear HSp HI2 hp
        go_wp2_with fail
        refine hPc.mono ?_
        rintro e w1 ⟨rfl, hk1⟩
        exact ⟨rfl, rfl, by rw [HRB.out]; exact hB.out.trans (hk1.one hrbl.out)⟩
      | ok pq =>
        obtain ⟨⟨tt, bb⟩, q⟩ := pq
        rw [hp] at hPc HSp
        have hback := pieceL_back hp
        have hql : q.length + 2 ≤ n := by
          have h9 := congrArg List.length hback.1
          have h10 := putL1_length (tt, bb)
          rw [List.length_append, HI2.out.2.2] at h9
          omega
        have HSq := show Hid (behind (qs.map Prod.fst ++ [(tt, bb)]) (splitL f q) = R) from by
          have h1 := HSp.out
          dsimp only at h1
          unfold Hid
          rw [← h1]
          cases splitL f q with
          | error k => rfl
          | ok ps => simp [behind]
        clear hp HSp hback
        go_wp2_with fail
        refine hPc.mono ?_
        rintro e w1 ⟨⟨bv, rfl, yb, cb, rfl, hbI, hbF⟩, hX1, hk1⟩
        have hP1 := hP.out.kept hk1 (Nat.lt_succ_self rb)
        have hlt1 := fun g (hg : u3.ownBlock = some g) => World.ownsRow.lt hP.out.1 g hg
        have hoff : ∀ k o, yb = some ⟨k, o, none⟩ → k ≠ rb ∧ ∀ g, u3.ownBlock = some g → k ≠ g := fun k o hy => by
          have h1 := hbF k o hy
          have h2 := hrbl.out
          exact ⟨by omega, fun g hg => by have := (hlt1 g hg).2; omega⟩
        have hql2 : qs.length ≤ 1000000 := by have := HI2.out.2.1; omega
        have hbase : rb + 1 ≤ w1.heap.size := by have := hk1.size; have := hrbl.out; omega
        go_wp2_with (at_builtin; go_must (refine wpList_append_ps rfl _ _ rfl (rb + 1) rb u3 qs rfl hP1 tt bb yb cb hbI hoff rfl hql2 hbase ?_; intro v2 w2 ho2 hk2))
        have hX2 : XRd rb q w2 := by
          obtain ⟨y9, c9, h1, h2, h3⟩ := hX1
          have h4 : ∀ k ∈ u3.ownBlock.toList, rb < k := fun k hk => by
            have h5 : u3.ownBlock = some k := by simpa using hk
            exact (hlt1 k h5).1
          refine ⟨y9, c9, (hk2.block rb (block_lt h1) (fun h => by have := h4 rb h; omega)).trans h1, h2, ?_⟩
          obtain ⟨W9, h6, h7, h8⟩ := h3
          exact ⟨W9, h6, h7, h8.trans (hk2.below h8.size (fun k hk => by have := h4 k hk; omega))⟩
        have hB2 : Below rb w w2 := (hB.out.trans (hk1.one hrbl.out)).trans (hk2.below (by omega) (fun k hk => by
          have h5 : u3.ownBlock = some k := by simpa using hk
          have := (hlt1 k h5).1
          omega))
        have HN := show Hid (XRd rb q w2 ∧ PsOwn (rb + 1) rb w2 v2 (qs ++ [((tt, bb), .slice yb bb.length cb)]) ∧ Below rb w w2 ∧ leftAt w2 rb = q.length) from ⟨hX2, ho2, hB2, hX2.left⟩
        have HQ2 := show Hid (behind ((qs ++ [((tt, bb), Value.slice yb bb.length cb)]).map Prod.fst) (splitL f q) = R ∧ q.length ≤ f ∧ q.length + (qs ++ [((tt, bb), Value.slice yb bb.length cb)]).length ≤ 1000000) from ⟨by rw [List.map_append]; exact HSq.out, by have := HI2.out.1; omega, by have := HI2.out.2.1; rw [List.length_append]; simp; omega⟩
        clear hX1 hk1 hP1 hlt1 hoff hbI hbF ho2 hk2 hX2 hB2 hPc
        go_roundw
        case rel => exact ⟨f, q, _, HQ2, HN.out.1, HN.out.2.1, HN.out.2.2.1⟩
        case measure =>
          rw [HN.out.2.2.2, HLA.out]
          omega
end Go.Proofs.Ythdoginhbhdmbaa
