/-
  Package der: put; calls that answer bytes, told by the value alone.
-/
import Derived.Test.YthdoginhbhdmbaaXGrow
import Derived.Test.YthdoginhbhdmbaaXRKind
import Derived.Lib.SlBytesConst
namespace Go.Proofs.Ythdoginhbhdmbaa
open Go.RowKit Ch
set_option maxRecDepth 100000

/-- The call answers these bytes. -/
def Gives (w : World) (R : List UInt8) (e : Ending) (w' : World) : Prop := (∃ v, e = .returned v ∧ IsBytes w' v ⟨R.toArray⟩) ∧ Below w.heap.size w w'
theorem allc {α : Type} {P : α → Prop} {q : α} {qs : List α} (h : P q) (t : ∀ x ∈ qs, P x) : ∀ x ∈ q :: qs, P x := List.forall_mem_cons.2 ⟨h, t⟩
theorem alln {α : Type} {P : α → Prop} : ∀ x ∈ ([] : List α), P x := fun _ h => by cases h
theorem litM (w : World) (s : ByteArray) (C : Array Value) (m : Nat × Nat) (hC : C.toList = byteVals s) (hn : s.size ≤ maxLen) : IsBytes (w.alloc (.cells C 5 m)) (.slice (some ⟨w.heap.size, 0, none⟩) s.size s.size) s := by
  refine ⟨some ⟨w.heap.size, 0, none⟩, s.size, rfl, Nat.le_refl _, hn, .inr ⟨_, rfl, .inr ⟨w.heap.size, 0, rfl, by simp, ?_⟩⟩⟩
  intro i hi
  rw [Nat.zero_add] at hi
  have e1 : (byteVals s)[i]? = some (.int .u8 (byte s i : Int)) := by
    unfold byteVals
    rw [List.getElem?_map, list_at s i hi, byte_eq s i hi]
    rfl
  rw [← hC, Array.getElem?_toList] at e1
  rw [Nat.zero_add]
  have hb := heap_push_at w (.cells C 5 m)
  unfold World.cell?
  rw [hb]
  exact e1
theorem isSl_lit (W : World) (qs : List (Value × ByteArray)) (h : ∀ q ∈ qs, IsBytes W q.1 q.2) (C : Array Value) (hC : C.toList = qs.map Prod.fst) (n : Nat) (hn : qs.length = n) : IsSl (W.alloc (.cells C 24)) (.slice (some ⟨W.heap.size, 0, none⟩) n n) (qs.map Prod.snd) := by
  have hN := heap_push_at W (.cells C 24)
  refine ⟨_, n, by rw [List.length_map, hn], .inr ⟨W.heap.size, 0, rfl, block_lt hN, fun i t ht => ?_⟩⟩
  rw [List.getElem?_map] at ht
  cases hq : qs[i]? with
  | none => rw [hq] at ht; cases ht
  | some q =>
    rw [hq] at ht
    obtain rfl := Option.some.inj ht
    refine ⟨q.1, ?_, (h q (List.mem_of_getElem? hq)).alloc _⟩
    rw [Nat.zero_add]
    refine block_cell i hN ?_
    rw [← Array.getElem?_toList, hC, List.getElem?_map, hq]
    rfl
theorem below_bytesW (w : World) (s : ByteArray) : Below w.heap.size w (Lib.bytesWorld w 5 s) :=
  ⟨rfl, rfl, rfl, by rw [Lib.bytesWorld_size]; omega, fun k hk => Lib.bytesWorld_at_old w 5 s k hk⟩
/-- []byte of a string. -/
theorem conv_any (s : ByteArray) (w : World) (hs : s.size ≤ 1000000) : ∃ v u, (convert 9 24 (.string s)).run Try.prog w = .ok v u ∧ IsBytes u v ⟨s.data.toList.toArray⟩ ∧ Below w.heap.size w u := by
  have e : (⟨s.data.toList.toArray⟩ : ByteArray) = s := by cases s; simp
  rw [e]
  refine ⟨_, _, Lib.run_convert_string_bytes (P := Try.prog) w 9 24 5 s Try.underlying9 Try.underlying24 Try.underlying5, ⟨_, _, rfl, grownCap_ge w s.size 0 5, grownCap_le_maxLen w s.size 0 5 (by unfold maxLen; omega), .inr ⟨_, rfl, .inr ⟨w.heap.size, 0, rfl, by rw [Lib.bytesWorld_size]; omega, fun i hi => ?_⟩⟩⟩, below_bytesW w s⟩
  rw [Nat.zero_add] at hi
  have := Lib.bytesWorld_cell w 5 s i hi
  rw [Nat.zero_add, this, byte_eq s i hi]
  have e := list_at s i hi
  simp [List.getD, e]
theorem own_gives {w : World} {R : List UInt8} {e : Ending} {w' : World} (h : (∃ v, e = .returned v ∧ OwnL w.heap.size w' v R) ∧ Below w.heap.size w w') : Gives w R e w' := by
  obtain ⟨⟨v, h1, h2⟩, h3⟩ := h
  exact ⟨⟨v, h1, h2.is⟩, h3⟩
theorem isb_shape {w : World} {v : Value} {l : List UInt8} (h : IsBytes w v ⟨l.toArray⟩) : ∃ y c, v = .slice y l.length c := by
  obtain ⟨a, c, hv, _⟩ := h
  exact ⟨a, c, by rw [hv, size_of_list]⟩
theorem isb_open {w : World} {v : Value} {s : ByteArray} (h : IsBytes w v s) : ∃ y k c, v = .slice y k c := by
  obtain ⟨a, c, hv, _⟩ := h
  exact ⟨a, _, c, hv⟩
theorem tk {t : UInt8} (h : (t.toNat % 32 != 31) = true) : tagOk t := by
  unfold tagOk
  simpa using h
theorem rxPutV (t : UInt8) (l : List UInt8) (v : Value) (w : World) (h : IsBytes w v ⟨l.toArray⟩) (hl : l.length ≤ 60000) : Calls Try.prog 7 #[.int .u8 (t.toNat : Int), v] w (Gives w (putL1 (t, l))) := by
  obtain ⟨y, c, rfl⟩ := isb_shape h
  exact (rxPutW_any t l y c w h hl).mono fun _ _ => own_gives
theorem rxCatV (v u : Value) (a b : List UInt8) (w : World) (hA : IsBytes w v ⟨a.toArray⟩) (hB : IsBytes w u ⟨b.toArray⟩) (hl : a.length + b.length ≤ 900000) : Calls Try.prog 33 #[v, u] w (Gives w (a ++ b)) := by
  obtain ⟨y, c, rfl⟩ := isb_shape hA
  obtain ⟨y2, c2, rfl⟩ := isb_shape hB
  exact (rxCat_any y y2 c c2 a b w hA hB hl).mono fun _ _ => own_gives
theorem rxNumberV (v : Value) (l : List UInt8) (w : World) (h : IsBytes w v ⟨l.toArray⟩) (hl : l.length ≤ 50000) : Calls Try.prog 34 #[v] w (Gives w (putL1 (2, numL l))) := by
  obtain ⟨y, c, rfl⟩ := isb_shape h
  have hz : (⟨l.toArray⟩ : ByteArray).size = l.length := size_of_list l
  have := rxNumber_any y c ⟨l.toArray⟩ w (by rw [hz]; exact h) (by rw [hz]; exact hl)
  rw [hz] at this
  exact this.mono fun _ _ => own_gives
theorem rxKindV (d : UInt8) (w : World) : Calls Try.prog 35 #[.int .u8 (d.toNat : Int)] w (Gives w (kindL d)) := (rxKind_any d w).mono fun _ _ => own_gives
set_option maxHeartbeats 4000000 in
/-- The program's put. -/
theorem dPut_any (t : UInt8) (ht : tagOk t) (v : Value) (ls : List ByteArray) (w : World) (h : IsSl w v ls) (R : List UInt8) (hR : flatL ls = R) (hl : ls.length ≤ 100) (hs : R.length ≤ 60000) :
    Calls Try.prog 30 #[.int .u8 (t.toNat : Int), v] w (Gives w (putL1 (t, R))) := by
  obtain ⟨a, c, rfl⟩ : ∃ a c, v = .slice a ls.length c := by
    obtain ⟨a, c, hv, _⟩ := h
    exact ⟨a, c, hv⟩
  obtain ⟨n, hn⟩ : ∃ n, ls.length = n := ⟨_, rfl⟩
  rw [hn] at h hl ⊢
  have hC := sConcat_any a c n ls w h hn (by rw [hR]; omega) (by omega)
  rw [hR] at hC
  have HS := show Hid (R.length ≤ 60000 ∧ tagOk t) from ⟨hs, ht⟩
  clear h hR hn hl hs ht
  go_enter Try.func30, Try.ntmps30
  go_wp2_with fail
  refine hC.mono ?_
  rintro e w1 ⟨⟨v1, rfl, o1⟩, b1⟩
  obtain ⟨y1, c1, rfl⟩ := own_shape o1
  obtain ⟨k, hk⟩ : ∃ k, R.length = k := ⟨_, rfl⟩
  obtain ⟨W2, hW2⟩ : ∃ W, w1.alloc (.cells #[.int .u8 (t.toNat : Int), .slice y1 k c1] 26) = W := ⟨_, rfl⟩
  have b2 : Below w1.heap.size w1 W2 := by rw [← hW2]; exact alB _ _
  have i2 : IsPs W2 (.slice (some ⟨w1.heap.size, 0, none⟩) 1 1) [(t, R)] := by rw [← hW2, ← hk]; exact isPs_one w1 t R y1 c1 o1.is
  have hlp : (putL1 (t, R)).length ≤ 70000 := by have := putL1_up (t, R) (by have := HS.out.1; simp only; omega); simp only at this; have := HS.out.1; omega
  have hP := show Calls Try.prog 8 #[.slice (some ⟨w1.heap.size, 0, none⟩) 1 1] W2 _ from xPut_any _ 1 [(t, R)] W2 i2 (by intro p hp; simp at hp; subst hp; exact ⟨HS.out.2, by have := HS.out.1; simp only; omega⟩) (by simp) (by simp [putL]; omega)
  have e9 : putL [(t, R)] = putL1 (t, R) := by simp [putL]
  rw [e9] at hP
  have HB := show Hid (Below w.heap.size w W2) from bl2 b1 b2
  rw [hk]
  clear b1 b2 i2 o1 hC hk hlp e9
  go_wp2_with fail
  refine hP.mono ?_
  rintro e w3 ⟨⟨v3, rfl, o3⟩, b3⟩
  have HF := show Hid (OwnL W2.heap.size w3 v3 (putL1 (t, R)) ∧ Below w.heap.size w w3) from ⟨o3, bl2 HB.out b3⟩
  clear hP o3 b3 HB hW2
  go_wp2_with fail
  go_ret
  exact ⟨⟨_, rfl, HF.out.1.is⟩, HF.out.2⟩
end Go.Proofs.Ythdoginhbhdmbaa
