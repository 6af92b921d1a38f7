/-
  The statements of layer 2, told what the program's own functions answer: the examples, Decode, Unhex.
-/
import Derived.Test.YtioncfodelaakaaDoorBDec2
import Derived.Test.YtioncfodelaakaaDoorBPlain3
import Derived.Test.YtioncfodelaakaaDoorBFold
import Derived.Test.YtioncfodelaakaaDoorBHex
import Derived.Lib.SlBytesConst
import Derived.Laws.Rows
namespace Go.Proofs.YtioncfodelaakaaDoor
open Go.RowKit Ch

/-- What the program's functions answer, where G holds of the memory (the program's own variables lie as they should). -/
structure BaseOk (G : World → Prop) : Prop where
  later : ∀ w w' : World, G w → Below w.heap.size w w' → G w'
  enc : ∀ (a : Option Addr) (cap : Nat) (s : ByteArray) (w : World), G w → s.size ≤ 10000 → IsBytes w (.slice a s.size cap) s →
    Calls Tryd.prog 9 #[.slice a s.size cap] w fun e w' => e = .returned (.string ⟨(encL s).toArray⟩) ∧ Below w.heap.size w w'
  dec : ∀ (s : ByteArray) (w : World), G w → s.size ≤ 20000 →
    Calls Tryd.prog 15 #[.string s] w fun e w' => ∃ v E b, e = .returned (.tuple #[v, .int .i64 E]) ∧ IsBytes w' v b ∧ DecSaid s.data.toList E b ∧ Below w.heap.size w w'
  fold : ∀ (s : ByteArray) (n : Int) (w : World), G w → s.size ≤ 10000 → -9223372036854775808 ≤ n → n ≤ 9223372036854775807 →
    Calls Tryd.prog 13 #[.string s, .int .i64 n] w fun e w' => e = .returned (.string ⟨(foldL n s.data.toList).toArray⟩) ∧ Below w.heap.size w w'
  hex : ∀ (a : Option Addr) (cap : Nat) (s : ByteArray) (w : World), G w → s.size ≤ 10000 → IsBytes w (.slice a s.size cap) s →
    Calls Tryd.prog 10 #[.slice a s.size cap] w fun e w' => e = .returned (.string ⟨(hexL s.data.toList).toArray⟩) ∧ Below w.heap.size w w'
  unhex : ∀ (s : ByteArray) (w : World), G w → s.size ≤ 10000 →
    Calls Tryd.prog 16 #[.string s] w fun e w' => ∃ v, e = .returned (.tuple #[v, .int .i64 (unhexE s.data.toList)]) ∧ IsBytes w' v ⟨(unhexB s.data.toList).toArray⟩ ∧ Below w.heap.size w w'

theorem zh_form {E : Int} {b : ByteArray} (h : DecSaid [90, 104, 61, 61] E b) : E = 10 := by
  have hk : keptL [90, 104, 61, 61] = [90, 104, 61, 61] := by decide
  have ho : ([90, 104, 61, 61] : List UInt8).all okSign = true := by decide
  rcases h with ⟨_, _, h⟩ | ⟨_, ⟨h, _, _⟩ | ⟨_, h⟩⟩
  · rw [hk, ho] at h; cases h
  · exact h
  · exfalso
    rw [hk] at h
    have hr : readL [90, 104, 61, 61] = [102] := by decide +kernel
    have h2 := read_enc b
    rw [h, hr] at h2
    have h3 : b = ⟨#[102]⟩ := ByteArray.ext (Array.toList_inj.1 h2.symm)
    rw [h3] at h
    exact absurd h (by decide +kernel)
theorem enc_f : encL ⟨#[102]⟩ = [90, 103, 61, 61] := by decide +kernel
theorem enc_fo : encL ⟨#[102, 111]⟩ = [90, 109, 56, 61] := by decide +kernel
theorem enc_foo : encL ⟨#[102, 111, 111]⟩ = [90, 109, 57, 118] := by decide +kernel
theorem hex_ff : hexL [255, 10] = [102, 102, 48, 97] := by decide +kernel

theorem bytes_new (w : World) (s : ByteArray) (cs : Array Value) (fr : Nat × Nat) (h : cs = (byteVals s).toArray) (hs : s.size ≤ 1000) : IsBytes (w.alloc (.cells cs 5 fr)) (.slice (some ⟨w.heap.size, 0, none⟩) s.size s.size) s := by
  refine ⟨_, _, rfl, Nat.le_refl _, by unfold maxLen; omega, .inr ⟨_, rfl, .inr ⟨w.heap.size, 0, rfl, by simp, ?_⟩⟩⟩
  intro i hi
  rw [Nat.zero_add] at hi
  rw [Nat.zero_add]
  have hb := heap_push_at w (.cells cs 5 fr)
  have : (w.alloc (.cells cs 5 fr)).cell? ⟨w.heap.size, i, none⟩ = cs[i]? := cell_of_row _ _ i _ _ _ hb
  rw [this, h, List.getElem?_toArray]
  unfold byteVals
  rw [List.getElem?_map, list_at s i hi, byte_eq s i hi]
  rfl
theorem enc_lit {G : World → Prop} (OK : BaseOk G) (w : World) (hG : G w) (s : ByteArray) (hs : s.size ≤ 10) (cs : Array Value) (fr : Nat × Nat) (h : cs = (byteVals s).toArray) :
    Calls Tryd.prog 9 #[.slice (some ⟨w.heap.size, 0, none⟩) s.size s.size] (w.alloc (.cells cs 5 fr)) fun e w' => e = .returned (.string ⟨(encL s).toArray⟩) ∧ Below w.heap.size w w' := by
  refine (OK.enc _ _ s _ (OK.later w _ hG ((Below.refl _ w).alloc (Nat.le_refl _) _)) (by omega) (bytes_new w s cs fr h (by omega))).mono ?_
  rintro e w' ⟨rfl, hb⟩
  exact ⟨rfl, below_alloc hb⟩
theorem hex_lit {G : World → Prop} (OK : BaseOk G) (w : World) (hG : G w) (s : ByteArray) (hs : s.size ≤ 10) (cs : Array Value) (fr : Nat × Nat) (h : cs = (byteVals s).toArray) :
    Calls Tryd.prog 10 #[.slice (some ⟨w.heap.size, 0, none⟩) s.size s.size] (w.alloc (.cells cs 5 fr)) fun e w' => e = .returned (.string ⟨(hexL s.data.toList).toArray⟩) ∧ Below w.heap.size w w' := by
  refine (OK.hex _ _ s _ (OK.later w _ hG ((Below.refl _ w).alloc (Nat.le_refl _) _)) (by omega) (bytes_new w s cs fr h (by omega))).mono ?_
  rintro e w' ⟨rfl, hb⟩
  exact ⟨rfl, below_alloc hb⟩

set_option maxHeartbeats 1000000 in
theorem awakeB_any {G : World → Prop} (OK : BaseOk G) (w : World) (hG : G w) :
    Calls Tryd.prog 8 #[] w fun e w' => e = .returned (.bool true) ∧ Below w.heap.size w w' := by
  have E1 : ∀ w : World, G w → Calls Tryd.prog 9 #[.slice (some ⟨w.heap.size, 0, none⟩) 1 1] (w.alloc (.cells #[.int .u8 102] 5 (1, 2))) fun e w' => e = .returned (.string ⟨#[90, 103, 61, 61]⟩) ∧ Below w.heap.size w w' := fun w h => by
    have := enc_lit OK w h ⟨#[102]⟩ (by decide) #[.int .u8 102] (1, 2) rfl
    rw [enc_f] at this
    exact this
  have E2 : ∀ w : World, G w → Calls Tryd.prog 9 #[.slice (some ⟨w.heap.size, 0, none⟩) 2 2] (w.alloc (.cells #[.int .u8 102, .int .u8 111] 5 (2, 3))) fun e w' => e = .returned (.string ⟨#[90, 109, 56, 61]⟩) ∧ Below w.heap.size w w' := fun w h => by
    have := enc_lit OK w h ⟨#[102, 111]⟩ (by decide) #[.int .u8 102, .int .u8 111] (2, 3) rfl
    rw [enc_fo] at this
    exact this
  have E3 : ∀ w : World, G w → Calls Tryd.prog 9 #[.slice (some ⟨w.heap.size, 0, none⟩) 3 3] (w.alloc (.cells #[.int .u8 102, .int .u8 111, .int .u8 111] 5 (3, 4))) fun e w' => e = .returned (.string ⟨#[90, 109, 57, 118]⟩) ∧ Below w.heap.size w w' := fun w h => by
    have := enc_lit OK w h ⟨#[102, 111, 111]⟩ (by decide) #[.int .u8 102, .int .u8 111, .int .u8 111] (3, 4) rfl
    rw [enc_foo] at this
    exact this
  have H1 : ∀ w : World, G w → Calls Tryd.prog 10 #[.slice (some ⟨w.heap.size, 0, none⟩) 2 2] (w.alloc (.cells #[.int .u8 255, .int .u8 10] 5)) fun e w' => e = .returned (.string ⟨#[102, 102, 48, 97]⟩) ∧ Below w.heap.size w w' := fun w h => by
    have := hex_lit OK w h ⟨#[255, 10]⟩ (by decide) #[.int .u8 255, .int .u8 10] (0, 0) rfl
    rw [hex_ff] at this
    exact this
  have kc := fun (w : World) (C : Array Value) (n c : Nat) => Lib.run_convert_bytes_const (P := Tryd.prog) w 22 5 C n c Tryd.underlying22 Tryd.underlying5
  go_enter Tryd.func8, Tryd.ntmps8
  go_wp2_with fail
  refine (OK.dec ⟨#[90, 104, 61, 61]⟩ w hG (by decide)).mono ?_
  rintro e w1 ⟨v, E, b, rfl, _, hd, hb1⟩
  obtain rfl := zh_form hd
  have hG1 := OK.later _ _ hG hb1
  clear hd
  go_wp2_with fail
  refine (E1 w1 hG1).mono ?_
  rintro e w2 ⟨rfl, hb2⟩
  have hG2 := OK.later _ _ hG1 hb2
  go_wp2_with fail
  refine (E2 w2 hG2).mono ?_
  rintro e w3 ⟨rfl, hb3⟩
  have hG3 := OK.later _ _ hG2 hb3
  go_wp2_with fail
  refine (E3 w3 hG3).mono ?_
  rintro e w4 ⟨rfl, hb4⟩
  have hG4 := OK.later _ _ hG3 hb4
  go_wp2_with fail
  refine (H1 w4 hG4).mono ?_
  rintro e w5 ⟨rfl, hb5⟩
  go_wp2_with fail
  go_ret
  have s1 := hb1.size
  have s2 := hb2.size
  have s3 := hb3.size
  have s4 := hb4.size
  exact ⟨rfl, hb1.trans ((hb2.trans ((hb3.trans ((hb4.trans (hb5.mono s4)).mono s3)).mono s2)).mono s1)⟩

/-- Where the statement lets the input go. -/
theorem text_eq (A : ByteArray) : (A.toList == A.toList) = true := by simp

set_option maxHeartbeats 1000000 in
theorem lDecodes_any {G : World → Prop} (OK : BaseOk G) (s : ByteArray) (w : World) (hG : G w) (hs : s.size ≤ 9223372036854775807) :
    Calls Tryd.prog 4 #[.string s] w fun e w' => e = .returned (.bool true) ∧ Below w.heap.size w w' := by
  by_cases h : s.size ≤ 4000
  · go_enter Tryd.func4, Tryd.ntmps4
    go_wp2_with fail
    refine (awakeB_any OK w hG).mono ?_
    rintro e w1 ⟨rfl, hb1⟩
    have hG1 := OK.later _ _ hG hb1
    go_wp2_with fail
    refine (OK.dec s w1 hG1 (by omega)).mono ?_
    rintro e w2 ⟨v, E, b, rfl, hv, hd, hb2⟩
    go_wp2_with fail
    refine (sDecode_any s w2 (by omega)).mono ?_
    rintro e w3 ⟨v', F, b', rfl, hv', hd', hb3⟩
    obtain ⟨rfl, rfl⟩ := dec_one hd hd'
    have c1 := (hv.later hb3).convert
    have c2 := hv'.convert
    have te := text_eq b
    clear hd hd' hv hv'
    go_wp2_with fail
    go_ret
    have s1 := hb1.size
    have s2 := hb2.size
    exact ⟨rfl, hb1.trans ((hb2.trans (hb3.mono s2)).mono s1)⟩
  · go_enter Tryd.func4, Tryd.ntmps4
    go_wp2_with fail
    refine (awakeB_any OK w hG).mono ?_
    rintro e w1 ⟨rfl, hb1⟩
    have hG1 := OK.later _ _ hG hb1
    go_wp2_with fail
    refine (awakeB_any OK w1 hG1).mono ?_
    rintro e w2 ⟨rfl, hb2⟩
    go_wp2_with fail
    go_ret
    have s1 := hb1.size
    exact ⟨rfl, hb1.trans (hb2.mono s1)⟩

set_option maxHeartbeats 1000000 in
theorem lUnhex_any {G : World → Prop} (OK : BaseOk G) (s : ByteArray) (w : World) (hG : G w) (hs : s.size ≤ 9223372036854775807) :
    Calls Tryd.prog 5 #[.string s] w fun e w' => e = .returned (.bool true) ∧ Below w.heap.size w w' := by
  by_cases h : s.size ≤ 4000
  · go_enter Tryd.func5, Tryd.ntmps5
    go_wp2_with fail
    refine (awakeB_any OK w hG).mono ?_
    rintro e w1 ⟨rfl, hb1⟩
    have hG1 := OK.later _ _ hG hb1
    go_wp2_with fail
    refine (OK.unhex s w1 hG1 (by omega)).mono ?_
    rintro e w2 ⟨v, rfl, hv, hb2⟩
    go_wp2_with fail
    refine (sUnhex_any s w2 (by omega)).mono ?_
    rintro e w3 ⟨v', rfl, hv', hb3⟩
    have c1 := (hv.later hb3).convert
    have c2 := hv'.convert
    obtain ⟨b, hb⟩ : ∃ b : ByteArray, (⟨(unhexB s.data.toList).toArray⟩ : ByteArray) = b := ⟨_, rfl⟩
    obtain ⟨E, hE⟩ : ∃ E, unhexE s.data.toList = E := ⟨_, rfl⟩
    rw [hb] at c1 c2
    rw [hE]
    have te := text_eq b
    clear hv hv' hb hE
    go_wp2_with fail
    go_ret
    have s1 := hb1.size
    have s2 := hb2.size
    exact ⟨rfl, hb1.trans ((hb2.trans (hb3.mono s2)).mono s1)⟩
  · go_enter Tryd.func5, Tryd.ntmps5
    go_wp2_with fail
    refine (awakeB_any OK w hG).mono ?_
    rintro e w1 ⟨rfl, hb1⟩
    have hG1 := OK.later _ _ hG hb1
    go_wp2_with fail
    refine (awakeB_any OK w1 hG1).mono ?_
    rintro e w2 ⟨rfl, hb2⟩
    go_wp2_with fail
    go_ret
    have s1 := hb1.size
    exact ⟨rfl, hb1.trans (hb2.mono s1)⟩
end Go.Proofs.YtioncfodelaakaaDoor
