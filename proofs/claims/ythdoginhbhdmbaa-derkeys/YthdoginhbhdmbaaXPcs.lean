/-
  Package der: pieces.
-/
import Derived.Test.YthdoginhbhdmbaaXPiece
import Derived.Test.YthdoginhbhdmbaaUTwo
namespace Go.Proofs.Ythdoginhbhdmbaa
open Go.RowKit Ch
set_option maxRecDepth 100000

/-- A slice of pieces. -/
def IsPs (w : World) (v : Value) (ps : List (UInt8 × List UInt8)) : Prop := ∃ y c, v = .slice y ps.length c ∧ ps.length ≤ c ∧ ∀ i p, ps[i]? = some p → ∃ b o yb cb, y = some ⟨b, o, none⟩ ∧ b < w.heap.size ∧ w.cell? ⟨b, o + i * 2, none⟩ = some (.int .u8 (p.1.toNat : Int)) ∧ w.cell? ⟨b, o + i * 2 + 1, none⟩ = some (.slice yb p.2.length cb) ∧ IsBytes w (.slice yb p.2.length cb) ⟨p.2.toArray⟩
theorem IsPs.later {w w' : World} {v : Value} {ps : List (UInt8 × List UInt8)} (h : IsPs w v ps) (hb : Below w.heap.size w w') : IsPs w' v ps := by
  obtain ⟨y, c, h1, h2, h3⟩ := h
  refine ⟨y, c, h1, h2, fun i p hp => ?_⟩
  obtain ⟨b, o, yb, cb, h4, h5, h6, h7, h8⟩ := h3 i p hp
  exact ⟨b, o, yb, cb, h4, Nat.lt_of_lt_of_le h5 hb.size, (hb.cell (p := ⟨b, o + i * 2, none⟩) h5).trans h6, (hb.cell (p := ⟨b, o + i * 2 + 1, none⟩) h5).trans h7, h8.later hb⟩
/-- The cells of pieces with their contents' slices. -/
def psC : List ((UInt8 × List UInt8) × Value) → List Value
  | [] => []
  | q :: qs => .int .u8 (q.1.1.toNat : Int) :: q.2 :: psC qs
theorem psC_append (a b : List ((UInt8 × List UInt8) × Value)) : psC (a ++ b) = psC a ++ psC b := by
  induction a with
  | nil => rfl
  | cons q a ih => simp [psC, ih]
theorem psC_at : ∀ (qs : List ((UInt8 × List UInt8) × Value)) (i : Nat) (q : (UInt8 × List UInt8) × Value), qs[i]? = some q → (psC qs)[i * 2]? = some (.int .u8 (q.1.1.toNat : Int)) ∧ (psC qs)[i * 2 + 1]? = some q.2
  | [], i, q, h => by simp at h
  | x :: qs, 0, q, h => by
    simp at h
    subst h
    exact ⟨rfl, rfl⟩
  | x :: qs, i + 1, q, h => by
    simp at h
    have := psC_at qs i q h
    rw [show (i + 1) * 2 = i * 2 + 2 by omega]
    simp only [psC, List.getElem?_cons_succ]
    exact this
/-- Pieces under way: a row of the call's own, whose contents lie elsewhere. -/
def PsOwn (base rb : Nat) (w : World) (v : Value) (qs : List ((UInt8 × List UInt8) × Value)) : Prop :=
  w.ownsRow base 26 2 v qs.length (psC qs) ∧ ∀ q ∈ qs, BytesOff (rb :: v.ownBlock.toList) w q.2 q.1.2
theorem own_isPs {base rb : Nat} {w : World} {v : Value} {qs : List ((UInt8 × List UInt8) × Value)} (h : PsOwn base rb w v qs) : IsPs w v (qs.map Prod.fst) := by
  obtain ⟨h1, h2⟩ := h
  have hcl := fun g (hg : v.ownBlock = some g) => World.ownsRow.cells h1 hg
  have hlen : (qs.map Prod.fst).length = qs.length := by simp
  rcases h1.2 with ⟨hv, h0⟩ | ⟨g, cap, cur, hv, hb, hh, hcap, hmax, _⟩
  · have hq : qs = [] := List.eq_nil_of_length_eq_zero h0
    subst hq
    exact ⟨none, 0, by rw [hv]; rfl, Nat.le_refl _, fun i p hp => by simp at hp⟩
  · refine ⟨some ⟨g, 0, none⟩, cap, by rw [hv, hlen], by rw [hlen]; exact hcap, fun i p hp => ?_⟩
    rw [List.getElem?_map] at hp
    obtain ⟨q, hq, rfl⟩ : ∃ q, qs[i]? = some q ∧ q.1 = p := by
      cases hqi : qs[i]? with
      | none => rw [hqi] at hp; cases hp
      | some q => rw [hqi] at hp; exact ⟨q, rfl, Option.some.inj hp⟩
    obtain ⟨h3, h4⟩ := psC_at qs i q hq
    have e : ∀ k, (⟨g, 0, none⟩ : Addr).add k = ⟨g, 0 + k, none⟩ := fun k => by unfold Addr.add; split <;> simp_all
    have h5 := hcl g (by rw [hv]; rfl) _ _ h3
    have h6 := hcl g (by rw [hv]; rfl) _ _ h4
    rw [e] at h5 h6
    obtain ⟨yb, cb, h7, h8, _⟩ := h2 q (List.mem_of_getElem? hq)
    rw [h7] at h6
    exact ⟨g, 0, yb, cb, rfl, block_lt hh, h5, h6, h8⟩
theorem run_append_where2 {P : Program} (w : World) (base : Nat) (t ty e : TypeId) (i : TypeInfo) (z : Value) (bytes : Nat) (ht : P.underlying t = some (.slice e)) (hi : P.info? e = some i) (hz : i.zero = some z)
    (hsize : i.size = 2) (hby : i.bytes = bytes) (hzs : z.cells.size = 2)
    (v : Value) (n : Nat) (xs : List Value) (hown : w.ownsRow base e 2 v n xs)
    (a : Addr) (c : Nat) (news : List Value) (hl : news.length = 1 * 2) (hnews : ∀ j u, news[j]? = some u → w.cell? (a.add j) = some u) (h1 : ∀ u ∈ news, u.oneCell' = true)
    (h63 : n + 1 ≤ maxLen) (hbytes : (n + 1) * bytes ≤ 140737488355328) (hbase : base ≤ w.heap.size) :
    ∃ v' w', (Builtin.append_ #[t, t] ty #[v, .slice (some a) 1 c]).run P w = .ok v' w' ∧ w'.ownsRow base e 2 v' (n + 1) (xs ++ news) ∧ w.grownBy w' v.ownBlock ∧ (v'.ownBlock = v.ownBlock ∨ v'.ownBlock = some w.heap.size) := by
  obtain ⟨v', w', hr, h2, h3, _⟩ := run_append_own (P := P) w base t ty e i z 2 bytes ht hi hz hsize hby hzs (by decide) v n xs hown a 1 c news hl hnews h1 h63 hbytes hbase
  refine ⟨v', w', hr, h2, h3, ?_⟩
  have hsmall : n + 1 ≤ 9223372036854775807 := by simp only [maxLen] at h63; omega
  have hl' : news.length = 1 * i.size := by rw [hsize]; exact hl
  have hbytes' : (n + 1) * i.bytes ≤ 140737488355328 := by rw [hby]; exact hbytes
  rcases hown.2 with ⟨hv, hn⟩ | ⟨g, cap, cur, hv, hbg, hg, hnc, hcm, hcs, htake⟩
  · subst hv hn
    have hr2 := run_append_nil (P := P) w t ty e i z ht hi hz a 1 c news hl' hnews (by decide) (by omega) (by have hb := hbytes'; simp only [Nat.zero_add] at hb; omega)
    rw [hr] at hr2
    simp only [Result.ok.injEq] at hr2
    rw [hr2.1]
    exact .inr rfl
  · subst hv
    by_cases hroom : n + 1 ≤ cap
    · have hr2 := run_append_room (P := P) w t ty e i ht hi g n cap cur hg a 1 c news hl' hnews h1 hroom (by rw [hl, hcs, hsize]; omega)
      rw [hr] at hr2
      simp only [Result.ok.injEq] at hr2
      rw [hr2.1]
      exact .inl rfl
    · have hr2 := run_append_grow (P := P) w t ty e i z ht hi hz ⟨g, 0, none⟩ n cap xs (by rw [hsize]; exact hown.1) (hown.cells (g := g) rfl) a 1 c news hl' hnews (by omega) (by omega) (growslice_fits (by omega) hbytes')
      rw [hr] at hr2
      simp only [Result.ok.injEq] at hr2
      rw [hr2.1]
      exact .inr rfl
theorem kept_grown {w w' : World} {g : Option Nat} (h : w.grownBy w' g) : KeptX g.toList w w' :=
  ⟨h.os, h.tape, h.output, h.size, fun k hk hn => h.block k hk (fun e => hn (by simp [e]))⟩
/-- append of a piece onto pieces under way. -/
theorem wpList_append_ps {w : World} {ops : Array Oper} {rest : List Oper} {o : Oper} {ac : Act} {Q : Exit → Act → World → Prop} (hgd : o.guard = none) (s x : Operand)
    (ho : o.op = .call { callee := .builtin .append, args := #[s, x], argTypes := #[22, 22] })
    (base rb : Nat) (v : Value) (qs : List ((UInt8 × List UInt8) × Value)) (hs : ac.eval s = v) (hown : PsOwn base rb w v qs)
    (t : UInt8) (b : List UInt8) (y : Option Addr) (c : Nat) (hy : IsBytes w (.slice y b.length c) ⟨b.toArray⟩) (hoff : ∀ k o, y = some ⟨k, o, none⟩ → k ≠ rb ∧ ∀ g, v.ownBlock = some g → k ≠ g) (hx : ac.eval x = .slice (some ⟨w.heap.size, 0, none⟩) 1 1)
    (hlen : qs.length ≤ 1000000) (hbase : base ≤ w.heap.size)
    (h : ∀ v' w', PsOwn base rb w' v' (qs ++ [((t, b), .slice y b.length c)]) → KeptX v.ownBlock.toList w w' → wpList Try.prog ops Q rest (ac.put o.dst v') w') :
    wpList Try.prog ops Q (o :: rest) ac (w.alloc (.cells #[.int .u8 (t.toNat : Int), .slice y b.length c] 26)) := by
  have hu : Try.prog.underlying 22 = some (.slice 26) := by kernel_rfl
  have hi0 : (Try.prog.info? 26).map (fun i => (i.zero, i.size, i.bytes)) = some (some (.agg #[.int .u8 0, .slice none 0 0]), 2, 32) := by kernel_rfl
  obtain ⟨i0, hi, hz0, hz1, hz2⟩ := info_parts hi0
  refine wpList_plain hgd fun K hK => ?_
  have hal : Below w.heap.size w (w.alloc (.cells #[.int .u8 (t.toNat : Int), .slice y b.length c] 26)) := (Below.refl _ w).alloc (Nat.le_refl _) _
  have hN := heap_push_at w (.cells #[.int .u8 (t.toNat : Int), .slice y b.length c] 26)
  obtain ⟨v', w', hr, h2, h3, h4⟩ := run_append_where2 (P := Try.prog) (w.alloc (.cells #[.int .u8 (t.toNat : Int), .slice y b.length c] 26)) base 22 o.type 26 i0 _ 32 hu hi hz0 hz1 hz2 rfl v qs.length (psC qs) (hown.1.alloc _) ⟨w.heap.size, 0, none⟩ 1 [.int .u8 (t.toNat : Int), .slice y b.length c] rfl (by
    intro j u hj
    have e : (⟨w.heap.size, 0, none⟩ : Addr).add j = ⟨w.heap.size, 0 + j, none⟩ := by unfold Addr.add; split <;> simp_all
    rw [e, Nat.zero_add]
    exact block_cell j hN (by rw [← hj]; simp)) (by
    intro u hu
    simp at hu
    rcases hu with rfl | rfl <;> rfl) (by unfold maxLen; omega) (by omega) (by simp; omega)
  unfold Oper.wp execOp
  simp only [ho, resolve, invoke, builtin, Sem.run_bind, Sem.run_pure, Result.andThen_ok, List.map_toArray, List.map_cons, List.map_nil, hs, hx, hr]
  have hk := kept_grown h3
  refine hK _ _ (h v' w' ⟨?_, ?_⟩ ((KeptX.of hal).trans hk))
  · have e : psC (qs ++ [((t, b), Value.slice y b.length c)]) = psC qs ++ [.int .u8 (t.toNat : Int), .slice y b.length c] := by rw [psC_append]; rfl
    rw [e, List.length_append]
    exact h2
  · intro q hq
    have hoff2 : BytesOff (rb :: v.ownBlock.toList) w q.2 q.1.2 := by
      rcases List.mem_append.1 hq with hq | hq
      · exact hown.2 q hq
      · rw [List.mem_singleton.1 hq]
        refine ⟨y, c, rfl, hy, fun k oo _ hyk => ?_⟩
        obtain ⟨h5, h6⟩ := hoff k oo hyk
        cases hv : v.ownBlock with
        | none => simp [h5]
        | some g => simp [h5, h6 g hv]
    have h7 := (hoff2.kept (KeptX.of hal) (fun k hk => (List.not_mem_nil hk).elim)).kept hk (fun k hk => List.mem_cons_of_mem _ hk)
    rcases h4 with h4 | h4
    · rw [h4]
      exact h7
    · rw [h4]
      obtain ⟨yy, cc, h8, h9, h10⟩ := h7
      refine ⟨yy, cc, h8, h9, fun k oo h0 hyk => ?_⟩
      have h11 := h10 k oo h0 hyk
      obtain ⟨y2, c2, h12, h13, _⟩ := hoff2
      rw [h8] at h12
      simp only [Value.slice.injEq, true_and] at h12
      obtain ⟨rfl, rfl⟩ := h12
      have hz : (⟨q.1.2.toArray⟩ : ByteArray).size = q.1.2.length := size_of_list _
      obtain ⟨b3, o3, h14, h15, _⟩ := IsBytes.cellAt (s := ⟨q.1.2.toArray⟩) (by rw [hz]; exact h13) (i := 0) (by rw [hz]; omega)
      rw [hyk] at h14
      simp only [Option.some.injEq, Addr.mk.injEq, and_true] at h14
      have h16 : k ≠ rb := fun e => h11 (by simp [e])
      simp [h16]
      omega
end Go.Proofs.Ythdoginhbhdmbaa
