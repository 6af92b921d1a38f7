/-
  A []api.Piece that came in, told by the pieces.
-/
import Derived.Test.YthdoginhbhdmbaaXPcs
namespace Go.Proofs.Ythdoginhbhdmbaa
open Go.ChangeShapes Go.WideShapes Go.ChangeAt Go.RowKit Ch
set_option maxRecDepth 100000

theorem cellsPc : Try.prog.cellsOf 26 = 2 := by kernel_rfl
theorem cellsU8 : Try.prog.cellsOf 5 = 1 := by kernel_rfl
theorem cellsSlc : Try.prog.cellsOf 24 = 1 := by kernel_rfl
theorem list_ofP {α : Type} {P : Nat → α → Prop} : ∀ n : Nat, (∀ i, i < n → ∃ x, P i x) → ∃ l : List α, l.length = n ∧ ∀ i x, l[i]? = some x → P i x
  | 0, _ => ⟨[], rfl, fun i x h => by simp at h⟩
  | n + 1, h => by
    obtain ⟨l, hl, hp⟩ := list_ofP n (fun i hi => h i (by omega))
    obtain ⟨x, hx⟩ := h n (by omega)
    refine ⟨l ++ [x], by simp [hl], fun i y hy => ?_⟩
    rcases Nat.lt_or_ge i l.length with h' | h'
    · rw [List.getElem?_append_left h'] at hy
      exact hp i y hy
    · rw [List.getElem?_append_right h'] at hy
      have : i - l.length = 0 := by
        rcases Nat.eq_zero_or_pos (i - l.length) with h2 | h2
        · exact h2
        · rw [List.getElem?_eq_none (by simp; omega)] at hy; cases hy
      rw [this] at hy
      simp at hy
      obtain rfl : i = n := by omega
      rw [← hy]
      exact hx
theorem slc_cells {H : Type} {enc : TypeId × Value → H} {W : World} {base : Nat} {sp : Nat → Bool} {held : Bool} {n : Nat} {cs : List Value} {x : DataW H × List MemPlace}
    (h : DataW.trod enc Try.prog W base sp held n 24 cs = some x) : ∃ (bl : List UInt8) (y : Option Addr) (c : Nat), cs = [.slice y bl.length c] ∧ IsBytes W (.slice y bl.length c) ⟨bl.toArray⟩ := by
  have h' := h
  have fit : ∀ (y : Option Addr) (ln cp : Nat), DataW.Trod enc Try.prog W base sp held 24 (.slice y ln cp) x.1 x.2 → ∃ bl : List UInt8, bl.length = ln ∧ IsBytes W (.slice y bl.length cp) ⟨bl.toArray⟩ := fun y ln cp hT => by
    obtain ⟨s, hs, hb⟩ := bytes_arg hT
    have hl : s.data.toList.length = ln := by rw [← hs]; exact len_eq s
    refine ⟨s.data.toList, hl, ?_⟩
    rw [hl]
    have e : (⟨s.data.toList.toArray⟩ : ByteArray) = s := by simp
    rw [e]
    exact hb
  rcases DataW.trod_slice Try.underlying24 h with ⟨hcs, _⟩ | ⟨y, ln, cp, elems, rest, m, _, hcs, _⟩
  · subst hcs
    obtain ⟨bl, hl, hb⟩ := fit none 0 0 ⟨n, h'⟩
    exact ⟨bl, none, 0, by rw [hl], hb⟩
  · subst hcs
    obtain ⟨bl, hl, hb⟩ := fit (some y) ln cp ⟨n, h'⟩
    exact ⟨bl, some y, cp, by rw [hl], hb⟩
theorem piece_cells {H : Type} {enc : TypeId × Value → H} {W : World} {base : Nat} {sp : Nat → Bool} {held : Bool} {n : Nat} {cs : List Value} {x : DataW H × List MemPlace}
    (h : DataW.trod enc Try.prog W base sp held n 26 cs = some x) : ∃ (p : UInt8 × List UInt8) (y : Option Addr) (c : Nat), cs = [.int .u8 (p.1.toNat : Int), .slice y p.2.length c] ∧ IsBytes W (.slice y p.2.length c) ⟨p.2.toArray⟩ := by
  obtain ⟨y0, y1, m, _, hl, h0, h1⟩ := trod_struct2 Try.underlying26 h
  simp only at h0 h1
  rw [cellsU8] at h0
  rw [cellsSlc] at h1
  obtain ⟨z, hz, _, wz⟩ := DataW.trod_int Try.underlying5 h0
  obtain ⟨bl, y, c, ht, hb⟩ := slc_cells h1
  rw [cellsPc] at hl
  have hz8 := wf_u8 wz
  match cs, hl with
  | [c0, c1], _ =>
    simp at hz ht
    refine ⟨(UInt8.ofNat z.toNat, bl), y, c, ?_, hb⟩
    have e : ((UInt8.ofNat z.toNat).toNat : Int) = z := by
      rw [UInt8.toNat_ofNat']
      omega
    simp only
    rw [e, hz, ht]
theorem pieces_arg {H : Type} {enc : TypeId × Value → H} {W : World} {a : Option Addr} {len cap : Nat} {d : DataW H} {p : List MemPlace} {base : Nat} {sp : Nat → Bool} {held : Bool}
    (h : DataW.Trod enc Try.prog W base sp held 22 (.slice a len cap) d p) : ∃ l : List (UInt8 × List UInt8), l.length = len ∧ IsPs W (.slice a len cap) l := by
  obtain ⟨fuel, hf⟩ := h
  rcases DataW.trod_slice Try.underlying22 hf with ⟨hcs, _⟩ | ⟨x, ln, cp, elems, rest, n, _, hcs, _, hb, hl, hm, hlen, hel, _, _⟩
  · simp [Value.cells] at hcs
    obtain ⟨rfl, rfl, rfl⟩ := hcs
    exact ⟨[], rfl, none, 0, rfl, Nat.le_refl _, fun i p hp => by simp at hp⟩
  · simp [Value.cells] at hcs
    obtain ⟨rfl, rfl, rfl⟩ := hcs
    rw [cellsPc] at hel
    have key : ∀ i, i < len → ∃ q : UInt8 × List UInt8, ∃ y c, (W.cell? (x.add (i * 2)) = some (.int .u8 (q.1.toNat : Int)) ∧ W.cell? ((x.add (i * 2)).add 1) = some (.slice y q.2.length c)) ∧ IsBytes W (.slice y q.2.length c) ⟨q.2.toArray⟩ := fun i hi => by
      have h1 := hel i hi
      rw [List.getElem?_eq_getElem (by omega)] at h1
      obtain ⟨cs, h2, h3⟩ := Option.bind_eq_some_iff.1 h1
      obtain ⟨q, y, c, rfl, hb⟩ := piece_cells h3
      obtain ⟨_, _, h4⟩ := World.cells?_some h2
      have h5 := h4 0 (by omega)
      have h6 := h4 1 (by omega)
      have e0 : (x.add (i * 2)).add 0 = x.add (i * 2) := by unfold Addr.add; split <;> simp_all
      rw [e0] at h5
      exact ⟨q, y, c, ⟨h5, h6⟩, hb⟩
    obtain ⟨l, hll, hlp⟩ := list_ofP len key
    refine ⟨l, hll, some x, cap, by rw [hll], by rw [hll]; exact hl, fun i q hq => ?_⟩
    obtain ⟨y, c, ⟨k0, k1⟩, k2⟩ := hlp i q hq
    have hi : i < len := by
      have := (List.getElem?_eq_some_iff.1 hq).1
      omega
    obtain ⟨q0, _, _, ⟨z0, _⟩, _⟩ := key 0 (by omega)
    have hspot : x.spot = none := by
      have := World.cell?_spot z0
      simpa [Addr.add] using this
    clear z0 key
    obtain ⟨b, off, spot⟩ := x
    simp only at hspot
    subst hspot
    have e1 : ∀ j, (⟨b, off, none⟩ : Addr).add j = ⟨b, off + j, none⟩ := fun j => by unfold Addr.add; split <;> simp_all
    have e2 : ∀ j, ((⟨b, off, none⟩ : Addr).add j).add 1 = ⟨b, off + j + 1, none⟩ := fun j => by rw [e1]; unfold Addr.add; split <;> simp_all
    rw [e2] at k1
    rw [e1] at k0
    exact ⟨b, off, y, c, rfl, cell_lt k0, k0, k1, k2⟩
end Go.Proofs.Ythdoginhbhdmbaa
