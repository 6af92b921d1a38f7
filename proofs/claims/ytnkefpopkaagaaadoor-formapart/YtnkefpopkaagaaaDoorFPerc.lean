/-
  The program's Percent.
-/
import Derived.Test.YtnkefpopkaagaaaDoorFTurn
namespace Go.Proofs.YtnkefpopkaagaaaDoor
open Go.RowKit Ch
set_option maxRecDepth 100000

def tellP (c : UInt8) : List UInt8 := if plain8 c = true then [] else perc8 c
theorem tellP_instead (l : List UInt8) : insteadL tellP l = percL l := by
  unfold insteadL percL
  congr 1
  funext c
  unfold instead8 tellP perc8
  by_cases h : plain8 c = true
  · rw [if_pos h, if_pos rfl, if_pos h]
  · rw [if_neg h, if_neg h, if_neg (by simp)]
theorem tellP_le (c : UInt8) : (tellP c).length ≤ 10 := by
  unfold tellP perc8
  split
  · simp
  · simp
def alnum (n : Nat) : Bool := (decide (65 ≤ n) && decide (n ≤ 90)) || (decide (97 ≤ n) && decide (n ≤ 122)) || (decide (48 ≤ n) && decide (n ≤ 57))
theorem plain_fin : ∀ n : Fin 256, (alnum n.val = true → plain8 (UInt8.ofNat n.val) = true) ∧ (alnum n.val = false → decide (0 ≤ Lib.indexByte [45, 46, 95, 126] (UInt8.ofNat n.val)) = plain8 (UInt8.ofNat n.val)) := by decide +kernel
theorem of_nat8 (c : UInt8) : UInt8.ofNat c.toNat = c := UInt8.toNat_inj.1 (by rw [UInt8.toNat_ofNat']; have := c.toNat_lt; omega)
theorem plain_yes {c : UInt8} (h : alnum c.toNat = true) : Hid (true = plain8 c) := by
  have := (plain_fin ⟨c.toNat, c.toNat_lt⟩).1 h
  simp only [of_nat8] at this
  exact this.symm
theorem plain_idx {c : UInt8} (h : alnum c.toNat = false) : Hid (decide (0 ≤ Lib.indexByte [45, 46, 95, 126] c) = plain8 c) := by
  have := (plain_fin ⟨c.toNat, c.toNat_lt⟩).2 h
  simp only [of_nat8] at this
  exact this
theorem nat_u8 (c : UInt8) : ((c.toNat : Int).toNat.toUInt8) = c := by
  rw [Int.toNat_natCast]
  exact of_nat8 c
theorem ret_bool' {a b : Bool} (h : Hid (a = b)) : Ending.returned (.bool a) = .returned (.bool b) := by rw [h.out]

set_option maxHeartbeats 1000000 in
theorem isPlain_any (c : UInt8) (w : World) :
    Calls Tryd.prog 26 #[.int .u8 (c.toNat : Int)] w fun e w' => e = .returned (.bool (plain8 c)) ∧ w' = w := by
  have hc := c.toNat_lt
  have hI : ∀ W, Calls Tryd.prog 41 #[.string ⟨#[45, 46, 95, 126]⟩, .int .u8 (c.toNat : Int)] W fun e w' => e = .returned (.int .i64 (Lib.indexByte [45, 46, 95, 126] c)) ∧ w' = W := fun W => by
    have := Tryd.strings_IndexByte ⟨#[45, 46, 95, 126]⟩ (c.toNat : Int) W
    rw [nat_u8] at this
    exact this
  rcases (show c.toNat < 48 ∨ (48 ≤ c.toNat ∧ c.toNat ≤ 57) ∨ (58 ≤ c.toNat ∧ c.toNat ≤ 64) ∨ (65 ≤ c.toNat ∧ c.toNat ≤ 90) ∨ (91 ≤ c.toNat ∧ c.toNat ≤ 96) ∨ (97 ≤ c.toNat ∧ c.toNat ≤ 122) ∨ 123 ≤ c.toNat by omega) with h | ⟨h, h'⟩ | ⟨h, h'⟩ | ⟨h, h'⟩ | ⟨h, h'⟩ | ⟨h, h'⟩ | h
  all_goals first
    | (have hP := plain_yes (c := c) (by unfold alnum; simp; omega)
       go_enter Tryd.func26, Tryd.ntmps26
       go_wp2
       go_ret
       exact ⟨ret_bool' hP, rfl⟩)
    | (have hP := plain_idx (c := c) (by unfold alnum; simp; omega)
       go_enter Tryd.func26, Tryd.ntmps26
       go_wp2_with (go_at_call 41; refine (hI _).mono ?_; rintro e w' ⟨rfl, hw'⟩; rw [hw']; clear hw' w')
       go_ret
       exact ⟨ret_bool' hP, rfl⟩)

theorem bytes_one (w : World) (c : UInt8) : IsBytes (w.alloc (.cells #[.int .u8 (c.toNat : Int)] 5)) (.slice (some ⟨w.heap.size, 0, none⟩) (⟨#[c]⟩ : ByteArray).size 1) ⟨#[c]⟩ := by
  refine ⟨_, _, rfl, Nat.le_refl _, by unfold maxLen; omega, .inr ⟨_, rfl, .inr ⟨w.heap.size, 0, rfl, by simp, ?_⟩⟩⟩
  intro i hi
  have : i = 0 := by
    have hs : (⟨#[c]⟩ : ByteArray).size = 1 := rfl
    omega
  subst this
  exact (cell_of_block (heap_push_at w (.cells #[.int .u8 (c.toNat : Int)] 5))).1
theorem upper_fin : ∀ n : Fin 256, Lib.toUpperA (hexL [UInt8.ofNat n.val]) = [big8 (n.val / 16), big8 (n.val % 16)] ∧ ∀ x ∈ hexL [UInt8.ofNat n.val], x.toNat < 128 := by decide +kernel
theorem upper_hex (c : UInt8) : Lib.toUpperA (hexL [c]) = [big8 (c.toNat / 16), big8 (c.toNat % 16)] ∧ ∀ x ∈ hexL [c], x.toNat < 128 := by
  have := upper_fin ⟨c.toNat, c.toNat_lt⟩
  simp only [of_nat8] at this
  exact this

set_option maxHeartbeats 1000000 in
theorem percentF_any (c : UInt8) (w : World) :
    Calls Tryd.prog 25 #[.int .u8 (c.toNat : Int)] w fun e w' => e = .returned (.string ⟨(tellP c).toArray⟩) ∧ Below w.heap.size w w' := by
  have hP := isPlain_any c w
  by_cases hp : plain8 c = true
  · rw [hp] at hP
    have hN : Hid ([] = tellP c) := (if_pos hp).symm
    clear hp
    go_enter Tryd.func25, Tryd.ntmps25
    go_wp2_with fail
    refine hP.mono ?_
    rintro e w1 ⟨rfl, rfl⟩
    go_wp2_with fail
    go_ret
    exact ⟨ret_text hN.out, Below.refl _ _⟩
  · have hp' : plain8 c = false := by simpa using hp
    rw [hp'] at hP
    have hH := cHex_any (some ⟨w.heap.size, 0, none⟩) 1 ⟨#[c]⟩ _ (by show 1 ≤ 100000; omega) (bytes_one w c)
    obtain ⟨hu1, hu2⟩ := upper_hex c
    have hN : Hid ((⟨#[37]⟩ : ByteArray) ++ ⟨(Lib.toUpperA (hexL [c])).toArray⟩ = ⟨(tellP c).toArray⟩) := by
      unfold Hid tellP
      rw [if_neg hp, hu1]
      unfold perc8
      rw [if_neg hp]
      exact ByteArray.ext (Array.toList_inj.1 (by rw [cat_text]; rfl))
    have hU := fun W => Tryd.strings_ToUpper_ascii ⟨(hexL [c]).toArray⟩ W (by rw [size_of_list]; show 2 ≤ _; omega) (fun j b hb => hu2 b (List.mem_of_getElem? hb))
    have hz : (⟨(Lib.toUpperA (hexL [c])).toArray⟩ : ByteArray).size = 2 := by rw [size_of_list]; rfl
    obtain ⟨U, hUe⟩ : ∃ U : ByteArray, ⟨(Lib.toUpperA (hexL [c])).toArray⟩ = U := ⟨_, rfl⟩
    have hU2 : ∀ W : World, Calls Tryd.prog 27 #[.string ⟨(hexL [c]).toArray⟩] W fun e w' => e = .returned (.string U) ∧ Below W.heap.size W w' := fun W => by rw [← hUe]; exact hU W
    rw [hUe] at hN hz
    clear hp hp' hu1 hu2 hU hUe
    go_enter Tryd.func25, Tryd.ntmps25
    go_wp2_with fail
    refine hP.mono ?_
    rintro e w1 ⟨rfl, rfl⟩
    go_wp2_with fail
    refine hH.mono ?_
    rintro e w2 ⟨rfl, hb2⟩
    go_wp2_with fail
    refine (hU2 w2).mono ?_
    rintro e w3 ⟨rfl, hb3⟩
    go_wp2_with fail
    go_ret
    exact ⟨ret_str hN.out, below_alloc (hb2.trans (hb3.mono hb2.size))⟩
theorem fPercent_any (s : ByteArray) (w : World) (hs : s.size ≤ 1000000) :
    Calls Tryd.prog 9 #[.string s] w fun e w' => e = .returned (.string ⟨(percL s.data.toList).toArray⟩) ∧ Below w.heap.size w w' := by
  go_enter Tryd.func9, Tryd.ntmps9
  go_wp2_with fail
  refine (rewritten_any 25 (enters_of Tryd.func25 (by kernel_rfl) rfl) tellP tellP_le s w hs (fun W c _ => percentF_any c W)).mono ?_
  rintro e w1 ⟨rfl, hb⟩
  rw [tellP_instead]
  go_wp2_with fail
  go_ret
  exact ⟨rfl, hb⟩
end Go.Proofs.YtnkefpopkaagaaaDoor
