/-
  The law's joined: bytes one behind the other.
-/
import Derived.Test.YtgehgcnaoapbbaaDoorKWordEtc
import Derived.Test.YtgehgcnaoapbbaaDoorKHex
namespace Go.Proofs.YtgehgcnaoapbbaaDoor
open Go.RowKit Ch
set_option maxRecDepth 100000

def joinOk (ls : List ByteArray) : Bool := decide (ls.length ≤ 20) && ls.all fun t => decide (t.size ≤ 300)
theorem flat_take {ls : List ByteArray} {i : Nat} {t : ByteArray} (h : ls[i]? = some t) : flatB (ls.take (i + 1)) = flatB (ls.take i) ++ t.data.toList := by
  rw [List.take_add_one, h]
  unfold flatB
  simp
theorem flat_small : ∀ (ls : List ByteArray), (∀ t ∈ ls, t.size ≤ 300) → (flatB ls).length ≤ 300 * ls.length
  | [], _ => Nat.le_refl _
  | t :: ls, h => by
    have h1 := flat_small ls (fun x hx => h x (List.mem_cons_of_mem _ hx))
    have h2 := h t List.mem_cons_self
    have e : flatB (t :: ls) = t.data.toList ++ flatB ls := rfl
    rw [e, List.length_append, len_eq, List.length_cons]
    omega
theorem own_nil' (w : World) : w.ownsRow w.heap.size 5 1 (.slice none 0 0) (flatB ([] : List ByteArray)).length (Lib.byteCells (flatB ([] : List ByteArray))) := ⟨rfl, .inl ⟨rfl, rfl⟩⟩
theorem own_text' {w : World} {base : Nat} {v : Value} {l : List UInt8} (h : w.ownsRow base 5 1 v l.length (Lib.byteCells l)) : IsBytes w v ⟨l.toArray⟩ := by
  have e : (⟨l.toArray⟩ : ByteArray).size = l.length := size_of_list l
  refine own_bytes (base := base) ?_
  rw [e]
  exact h
set_option maxHeartbeats 2000000 in
theorem lkJoined_any (v : Value) (ls : List ByteArray) (w : World) (hI : IsSl w v ls) :
    Calls Tryd.prog 8 #[v] w fun e w' => (∃ v', e = .returned (.tuple #[v', .bool (joinOk ls)]) ∧ (joinOk ls = true → IsBytes w' v' ⟨(flatB ls).toArray⟩)) ∧ Below w.heap.size w w' := by
  obtain ⟨a, cap, rfl, hrest⟩ := id hI
  obtain ⟨n, hn⟩ : ∃ n, ls.length = n := ⟨_, rfl⟩
  have HN := show Hid (ls.length = n) from hn
  rw [hn] at hrest ⊢
  have HI := show Hid (n = 0 ∨ ∃ b o, a = some ⟨b, o, none⟩ ∧ b < w.heap.size ∧ ∀ i t, ls[i]? = some t → ∃ u, w.cell? ⟨b, o + i, none⟩ = some u ∧ IsBytes w u t) from hrest
  clear hn hrest hI
  by_cases h20 : n ≤ 20
  · have h202 : ¬ (20 : Int) < (n : Int) := by omega
    go_enter Tryd.func8, Tryd.ntmps8
    go_wp2_with fail
    go_loopw [4, 5] (fun u t wr => ∃ (i m c : Nat) (y : Option Addr), i ≤ n ∧ t = .int .i64 (i : Int) ∧ u = .slice y m c ∧ Hid (m = (flatB (ls.take i)).length) ∧ m ≤ 6000 ∧ Hid (∀ t ∈ ls.take i, t.size ≤ 300) ∧ wr.ownsRow w.heap.size 5 1 (.slice y m c) (flatB (ls.take i)).length (Lib.byteCells (flatB (ls.take i))) ∧ Below w.heap.size w wr) (fun _ t _ => n - (intOf t).toNat)
    case atStart => exact ⟨0, 0, 0, none, by omega, rfl, rfl, rfl, by omega, fun t ht => (by cases ht), own_nil' w, Below.refl _ _⟩
    case round =>
      obtain ⟨i, m, c, y, hi, rfl, rfl, hm, hm6, hall, ho, hb⟩ := hrel
      by_cases hlt : i < n
      · have hlt2 : (i : Int) < (n : Int) := by omega
        have hlt3 : i < ls.length := by rw [HN.out]; exact hlt
        obtain ⟨t, ht⟩ : ∃ t, ls[i]? = some t := ⟨_, List.getElem?_eq_getElem hlt3⟩
        have hpos : ¬ n = 0 := by omega
        obtain ⟨b, o, rfl, hbl, hcell⟩ := HI.out.resolve_left hpos
        obtain ⟨u, hu, hT⟩ := hcell i t ht
        have hT2 := hT.later hb
        have gU := (hb.cell (p := ⟨b, o + i, none⟩) hbl).trans hu
        obtain ⟨xt, ct, rfl, hx1⟩ := id hT
        clear hx1 hcell hu
        by_cases h300 : t.size ≤ 300
        · have h3002 : ¬ (300 : Int) < (t.size : Int) := by omega
          have hz := hb.size
          obtain ⟨R, hR⟩ : ∃ R, flatB (ls.take i) ++ t.data.toList = R := ⟨_, rfl⟩
          have HR := show Hid (flatB (ls.take i) ++ t.data.toList = R) from hR
          have HR2 := show Hid (R = flatB (ls.take (i + 1))) from by unfold Hid; rw [← hR, flat_take ht]
          have hall2 : Hid (∀ t ∈ ls.take (i + 1), t.size ≤ 300) := by
            intro q hq
            rw [List.take_add_one, ht] at hq
            rcases List.mem_append.1 hq with h | h
            · exact hall.out q h
            · simp at h; rw [h]; exact h300
          have hRl : R.length ≤ 6000 := by
            rw [HR2.out]
            have := flat_small _ hall2.out
            rw [List.length_take] at this
            omega
          have hms : m + t.size ≤ 1000000 := by omega
          have hml := hm.out
          rw [← hml] at ho
          have hoB : wr.ownsRow w.heap.size 5 1 (.slice y m c) (⟨(flatB (ls.take i)).toArray⟩ : ByteArray).size (byteVals ⟨(flatB (ls.take i)).toArray⟩) := by rw [size_of_list, ← hm.out]; exact ho
          have hsB : (⟨(flatB (ls.take i)).toArray⟩ : ByteArray).size + t.size ≤ 1000000 := by rw [size_of_list, ← hm.out]; exact hms
          clear hR hml ho
          go_wp2_with (at_builtin; go_must (refine wpList_append_bytes rfl _ _ rfl w.heap.size _ ⟨(flatB (ls.take i)).toArray⟩ rfl hoB _ t rfl hT2 hsB hz ?_; intro v9 w9 ho9 hb9))
          have hcat : cat ⟨(flatB (ls.take i)).toArray⟩ t = ⟨R.toArray⟩ := by rw [← HR.out]; unfold cat; simp
          rw [hcat] at ho9
          have ho9' : w9.ownsRow w.heap.size 5 1 v9 R.length (Lib.byteCells R) := by have := ho9; rw [size_of_list] at this; exact this
          obtain ⟨y9, c9, rfl⟩ := own_shape ho9'
          have hb9' := hb.trans hb9
          go_roundw
          case rel => exact ⟨i + 1, R.length, c9, y9, by omega, by go_num, rfl, by rw [HR2.out]; rfl, hRl, hall2.out, by rw [← HR2.out]; exact ho9', hb9'⟩
          case measure => simp [intOf]; omega
        · have h3002 : (300 : Int) < (t.size : Int) := by omega
          have hno : joinOk ls = false := by
            unfold joinOk
            rw [Bool.and_eq_false_iff]
            right
            rw [List.all_eq_false]
            exact ⟨t, List.mem_of_getElem? ht, by simpa using h300⟩
          have HNO := show Hid (joinOk ls = false) from hno
          clear hno
          go_wp2_with fail
          go_ret2
          exact ⟨⟨_, by rw [HNO.out]; rfl, fun h => by rw [HNO.out] at h; cases h⟩, hb⟩
      · have hlt2 : ¬ (i : Int) < (n : Int) := by omega
        obtain rfl : i = n := by omega
        have htk : ls.take i = ls := List.take_of_length_le (by rw [HN.out]; exact Nat.le_refl _)
        rw [htk] at ho hall
        have hyes : joinOk ls = true := by
          unfold joinOk
          rw [Bool.and_eq_true, List.all_eq_true]
          exact ⟨by rw [HN.out]; simpa using h20, fun t ht => by simpa using hall.out t ht⟩
        have hIB : IsBytes wr (.slice y m c) ⟨(flatB ls).toArray⟩ := own_text' ho
        have HY := show Hid (joinOk ls = true) from hyes
        clear hyes
        go_wp2_with fail
        go_ret2
        exact ⟨⟨_, by rw [HY.out]; rfl, fun _ => hIB⟩, hb⟩
  · have h202 : (20 : Int) < (n : Int) := by omega
    have hno : joinOk ls = false := by
      unfold joinOk
      rw [HN.out]
      simp; omega
    have HNO := show Hid (joinOk ls = false) from hno
    clear hno
    go_enter Tryd.func8, Tryd.ntmps8
    go_wp2_with fail
    go_ret2
    exact ⟨⟨_, by rw [HNO.out]; rfl, fun h => by rw [HNO.out] at h; cases h⟩, Below.refl _ _⟩
end Go.Proofs.YtgehgcnaoapbbaaDoor
