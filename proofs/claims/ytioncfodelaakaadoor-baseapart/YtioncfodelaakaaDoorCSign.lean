/-
  The program's signWorth: the number of a sign of base64, or -1, at every code point.
-/
import Derived.Test.YtioncfodelaakaaDoorCFlat
import Derived.Test.YtioncfodelaakaaDoorBPlain
import Derived.Laws.Runes
import Derived.WalkMore
import Derived.Deep.QuietTactic
import Derived.BigQuiet
namespace Go.Proofs.YtioncfodelaakaaDoor
open Go.RowKit Ch

/-- The last byte of a code point beyond 127 is none of the first 128. -/
theorem encode_high (c : Nat) (h : 128 ≤ c) (hc : c ≤ 1114111) : 2 ≤ (Utf8.encode (c : Int)).size ∧ (Utf8.encode (c : Int)).size ≤ 4 ∧ 128 ≤ byte (Utf8.encode (c : Int)) ((Utf8.encode (c : Int)).size - 1) := by
  have key : ∀ d : Nat, 128 ≤ d → d ≤ 1114111 → ∀ t : ByteArray, t = (if d < 0x80 then (⟨#[UInt8.ofNat d]⟩ : ByteArray) else if d < 0x800 then ⟨#[UInt8.ofNat (0xC0 + d / 64), UInt8.ofNat (0x80 + d % 64)]⟩
      else if d < 0x10000 then ⟨#[UInt8.ofNat (0xE0 + d / 4096), UInt8.ofNat (0x80 + d / 64 % 64), UInt8.ofNat (0x80 + d % 64)]⟩
      else ⟨#[UInt8.ofNat (0xF0 + d / 262144), UInt8.ofNat (0x80 + d / 4096 % 64), UInt8.ofNat (0x80 + d / 64 % 64), UInt8.ofNat (0x80 + d % 64)]⟩) → 2 ≤ t.size ∧ t.size ≤ 4 ∧ 128 ≤ byte t (t.size - 1) := by
    intro d h1 h2 t ht
    have hb : 128 ≤ (UInt8.ofNat (0x80 + d % 64)).toNat := by rw [UInt8.toNat_ofNat']; omega
    rw [if_neg (by omega)] at ht
    split at ht
    · rw [ht]; exact ⟨Nat.le_of_ble_eq_true rfl, Nat.le_of_ble_eq_true rfl, hb⟩
    · split at ht
      · rw [ht]; exact ⟨Nat.le_of_ble_eq_true rfl, Nat.le_of_ble_eq_true rfl, hb⟩
      · rw [ht]; exact ⟨Nat.le_of_ble_eq_true rfl, Nat.le_of_ble_eq_true rfl, hb⟩
  by_cases hv : Utf8.valid (c : Int) = true
  · exact key c h hc _ (by unfold Utf8.encode; simp only [hv, if_true]; rfl)
  · exact key 65533 (by omega) (by omega) _ (by unfold Utf8.encode; simp only [hv]; rfl)

theorem below_draws (w : World) (n : Nat) : Below w.heap.size w (w.drewN n) := ⟨rfl, rfl, rfl, Nat.le_refl _, fun _ _ => rfl⟩
theorem indexByte_none {l : List UInt8} {c : UInt8} (h : ∀ x ∈ l, x ≠ c) : Lib.indexByte l c = -1 := by
  induction l with
  | nil => rfl
  | cons b l ih =>
    rw [Lib.indexByte, if_neg (by simpa using h b (by simp)), ih (fun x hx => h x (by simp [hx]))]
    rfl
theorem mem_drop_low {S : ByteArray} (hS : ∀ x ∈ S.data.toList, x.toNat < 128) {a b : Nat} {L : Nat} (hL : 128 ≤ L) (hL2 : L < 256) : Lib.indexByte (S.extract a b).data.toList (L : Int).toNat.toUInt8 = -1 := by
  apply indexByte_none
  intro x hx e
  rw [Lib.extract_data] at hx
  have h1 := hS x (List.mem_of_mem_drop (List.mem_of_mem_take hx))
  rw [e] at h1
  have e2 : ((L : Int).toNat.toUInt8).toNat = L := by
    show (UInt8.ofNat _).toNat = L
    rw [UInt8.toNat_ofNat']
    omega
  omega

set_option maxHeartbeats 2000000 in
set_option maxRecDepth 1000000 in
theorem iRune_valid (S rs : ByteArray) (c L k : Nat) (w : World) (hS1 : S.size = 64) (hS : ∀ x ∈ S.data.toList, x.toNat < 128) (h : 128 ≤ c) (hc : c ≤ 1114111) (hne : c ≠ 65533) (hv : Lib.validRune (c : Int) = true)
    (hrs : Utf8.encode (c : Int) = rs) (hk : rs.size = k + 1) (h1 : 1 ≤ k) (h4 : k ≤ 3) (hL : 128 ≤ L) (hLb : byte rs k = L) :
    Calls Tryd.prog 42 #[.string S, .int .i32 (c : Int)] w fun e w' => e = .returned (.int .i64 (-1)) ∧ Below w.heap.size w w' := by
  have e1 : ((c : Int) == 65533) = false := beq_eq_false_iff_ne.2 (by omega)
  have hkS : k < S.size := by omega
  have hkr : k < rs.size := by omega
  have hSk : (S[k]'hkS).toNat < 128 := hS _ (by
    have := list_at S k hkS
    exact List.mem_of_getElem? this)
  have hrk : (rs[k]'hkr).toNat = L := by rw [← byte_eq rs k hkr]; exact hLb
  have hne2 : (((S[k]'hkS).toNat : Int) != ((rs[k]'hkr).toNat : Int)) = true := by rw [bne_iff_ne]; omega
  have hdrop : ∀ a b : Nat, Lib.indexByte (S.extract a b).data.toList ((rs[k]'hkr).toNat : Int).toNat.toUInt8 = -1 := fun a b => mem_drop_low hS (by omega) (by have := byte_lt rs k; rw [hLb] at this; omega)
  have hz1 : (rs.size : Int) - 1 = (k : Int) := by omega
  have HH : Hid (S.size = 64 ∧ (((S[k]'hkS).toNat : Int) != ((rs[k]'hkr).toNat : Int)) = true ∧ (∀ a b : Nat, Lib.indexByte (S.extract a b).data.toList ((rs[k]'hkr).toNat : Int).toNat.toUInt8 = -1) ∧ (rs.size : Int) - 1 = (k : Int)) := ⟨hS1, hne2, hdrop, hz1⟩
  have HK : Hid (k < S.size ∧ k < rs.size ∧ rs.size ≤ 4 ∧ Utf8.encode (c : Int) = rs) := ⟨hkS, hkr, by omega, hrs⟩
  clear hS hL hLb hSk hrk hz1 hdrop hne2 hS1 hk h1 h4 hrs
  go_enter Tryd.func42, Tryd.ntmps42
  go_wp2_with (go_at_call 49; refine (Tryd.utf8_ValidRune _ _).mono ?_; rintro e w' ⟨rfl, rfl⟩; rw [hv])
  clear e1 hv hne
  go_step3
  obtain ⟨_, _, h4, hrs⟩ := HK.out
  go_wp2_with fail
  clear hrs
  rename_i ka
  clear ka
  obtain ⟨hS1, hne2, hdrop, hz1⟩ := HH.out
  simp only [hz1]
  have hw1 : IntKind.i64.wrap ((k : Int) + 1) = (k : Int) + 1 := IntWalk.i64_in _ (by omega)
  have q1 : (0 : Int) ≤ (k : Int) + 1 := by omega
  have q2 : (k : Int) + 1 ≤ 64 := by omega
  have hcall : ∀ (a b : Nat) (w : World), Calls Tryd.prog 48 #[.string (S.extract a b), .int .u8 ((rs[k]'hkr).toNat : Int)] w fun e w' => e = .returned (.int .i64 (-1)) ∧ w' = w := fun a b w => by
    refine (Tryd.strings_IndexByte _ _ _).mono ?_
    rintro e w2 ⟨rfl, h⟩
    rw [hdrop]
    exact ⟨rfl, h⟩
  clear hdrop
  refine wp_loop_once ?_
  go_wp2_with fail
  go_step3
  go_wp2_with fail
  go_quiet (fail)
  have hB1 := below_draws w' nq
  generalize w'.drewN nq = wq at *
  go_wp2_with fail
  go_quiet ((exact Calls.quiet_of_same (hcall _ _ _)))
  have hB2 := hB1.trans ((below_draws wq nq).mono hB1.size)
  generalize wq.drewN nq = wq2 at *
  go_wp2_with fail
  rw [Exit.noGoto_ret]
  go_wp2_with fail
  try rw [Exit.noGoto_ret]
  go_ret
  exact ⟨rfl, hB2⟩
end Go.Proofs.YtioncfodelaakaaDoor
