/-
  The statement that base64 and digits are the document's, and are read as the bytes; told what the program's own functions answer.
-/
import Derived.Test.YtioncfodelaakaaDoorBLaw
namespace Go.Proofs.YtioncfodelaakaaDoor
open Go.RowKit Ch

theorem enc_length (s : ByteArray) : (encL s).length ≤ 2 * s.size + 4 := by
  unfold encL
  rw [List.length_append, signsL_length, List.length_replicate]
  unfold signCount
  omega
theorem fold_length (n : Int) (l : List UInt8) : ∀ i, (foldFrom n i l).length ≤ 2 * l.length := by
  induction l with
  | nil => intro i; simp [foldFrom]
  | cons c r ih =>
    intro i
    have := ih (i + 1)
    rw [foldFrom]
    split <;> simp only [List.length_cons] <;> omega
theorem list_text (s : ByteArray) : (⟨s.data.toList.toArray⟩ : ByteArray) = s := rfl
theorem unhex_text {H s : ByteArray} (h : H.data.toList = hexL s.data.toList) : unhexE H.data.toList = 0 ∧ (⟨(unhexB H.data.toList).toArray⟩ : ByteArray) = s := by
  rw [h, (unhex_hex s.data.toList).1, (unhex_hex s.data.toList).2]
  exact ⟨rfl, rfl⟩

set_option maxHeartbeats 1000000 in
theorem lEncodes_any {G : World → Prop} (OK : BaseOk G) (a : Option Addr) (cap : Nat) (s : ByteArray) (n : Int) (w : World) (hG : G w) (hs : s.size ≤ 9223372036854775807) (hB : IsBytes w (.slice a s.size cap) s) (hn0 : -9223372036854775808 ≤ n) (hn1 : n ≤ 9223372036854775807) :
    Calls Tryd.prog 3 #[.slice a s.size cap, .int .i64 n] w fun e w' => e = .returned (.bool true) ∧ Below w.heap.size w w' := by
  have HB : Hid (IsBytes w (.slice a s.size cap) s) := hB
  clear hB
  by_cases h : s.size ≤ 3000
  · obtain ⟨S, hS⟩ : ∃ S : ByteArray, (⟨(encL s).toArray⟩ : ByteArray) = S := ⟨_, rfl⟩
    have hSl : S.data.toList = encL s := by rw [← hS]
    have hSz : S.size ≤ 8000 := by rw [← hS, size_of_list]; have := enc_length s; omega
    obtain ⟨H, hH⟩ : ∃ H : ByteArray, (⟨(hexL s.data.toList).toArray⟩ : ByteArray) = H := ⟨_, rfl⟩
    have hHl : H.data.toList = hexL s.data.toList := by rw [← hH]
    have hHz : H.size ≤ 8000 := by rw [← hH, size_of_list, hex_length, len_eq]; omega
    obtain ⟨F, hF⟩ : ∃ F : ByteArray, (⟨(foldL n S.data.toList).toArray⟩ : ByteArray) = F := ⟨_, rfl⟩
    have hFl : F.data.toList = foldL n (encL s) := by rw [← hF, ← hSl]
    have hFz : F.size ≤ 16000 := by rw [← hF, size_of_list]; have := fold_length n S.data.toList 0; rw [len_eq] at this; unfold foldL; omega
    have hU := unhex_text hHl
    clear hSl
    have tS := text_eq S
    have tH := text_eq H
    have tF := text_eq F
    have ts := text_eq s
    go_enter Tryd.func3, Tryd.ntmps3
    go_wp2_with fail
    refine (awakeB_any OK w hG).mono ?_
    rintro e w1 ⟨rfl, hb1⟩
    have hG1 := OK.later _ _ hG hb1
    have B1 : Hid (IsBytes w1 (.slice a s.size cap) s) := HB.out.later hb1
    go_wp2_with fail
    refine (OK.enc a cap s w1 hG1 (by omega) B1.out).mono ?_
    rintro e w2 ⟨rfl, hb2⟩
    have hG2 := OK.later _ _ hG1 hb2
    have B2 : Hid (IsBytes w2 (.slice a s.size cap) s) := B1.out.later hb2
    rw [hS]
    go_wp2_with fail
    refine (OK.hex a cap s w2 hG2 (by omega) B2.out).mono ?_
    rintro e w3 ⟨rfl, hb3⟩
    have hG3 := OK.later _ _ hG2 hb3
    have B3 : Hid (IsBytes w3 (.slice a s.size cap) s) := B2.out.later hb3
    rw [hH]
    go_wp2_with fail
    refine (sEncode_any a cap s w3 (by omega) B3.out).mono ?_
    rintro e w4 ⟨rfl, hb4⟩
    have hG4 := OK.later _ _ hG3 hb4
    have B4 : Hid (IsBytes w4 (.slice a s.size cap) s) := B3.out.later hb4
    rw [hS]
    go_wp2_with fail
    refine (sHex_any a cap s w4 (by omega) B4.out).mono ?_
    rintro e w5 ⟨rfl, hb5⟩
    have hG5 := OK.later _ _ hG4 hb5
    have B5 : Hid (IsBytes w5 (.slice a s.size cap) s) := B4.out.later hb5
    rw [hH]
    go_wp2_with fail
    refine (OK.fold S n w5 hG5 (by omega) hn0 hn1).mono ?_
    rintro e w6 ⟨rfl, hb6⟩
    have hG6 := OK.later _ _ hG5 hb6
    have B6 : Hid (IsBytes w6 (.slice a s.size cap) s) := B5.out.later hb6
    rw [hF]
    go_wp2_with fail
    refine (sFold_any S n w6 (by omega) hn0 hn1).mono ?_
    rintro e w7 ⟨rfl, hb7⟩
    have hG7 := OK.later _ _ hG6 hb7
    have B7 : Hid (IsBytes w7 (.slice a s.size cap) s) := B6.out.later hb7
    rw [hF]
    go_wp2_with fail
    refine (OK.fold S n w7 hG7 (by omega) hn0 hn1).mono ?_
    rintro e w8 ⟨rfl, hb8⟩
    have hG8 := OK.later _ _ hG7 hb8
    have B8 : Hid (IsBytes w8 (.slice a s.size cap) s) := B7.out.later hb8
    rw [hF]
    go_wp2_with fail
    refine (OK.dec F w8 hG8 (by omega)).mono ?_
    rintro e w9 ⟨v, E, b, rfl, hv, hd, hb9⟩
    rw [hFl] at hd
    obtain ⟨rfl, rfl⟩ := dec_enc hd
    have hG9 := OK.later _ _ hG8 hb9
    have B9 : Hid (IsBytes w9 (.slice a b.size cap) b) := B8.out.later hb9
    have Hv : Hid (IsBytes w9 v b) := hv
    clear hv hd
    go_wp2_with fail
    refine (OK.unhex H w9 hG9 (by omega)).mono ?_
    rintro e w10 ⟨v', rfl, hv', hb10⟩
    rw [hU.1]
    rw [hU.2] at hv'
    have c1 := (Hv.out.later hb10).convert
    have c2 := hv'.convert
    have c3 := (B9.out.later hb10).convert
    clear hv' hU hFl hHl hS hH hF
    go_wp2_with fail
    go_ret
    have s1 := hb1.size
    have s2 := hb2.size
    have s3 := hb3.size
    have s4 := hb4.size
    have s5 := hb5.size
    have s6 := hb6.size
    have s7 := hb7.size
    have s8 := hb8.size
    have s9 := hb9.size
    exact ⟨rfl, hb1.trans ((hb2.trans ((hb3.trans ((hb4.trans ((hb5.trans ((hb6.trans ((hb7.trans ((hb8.trans ((hb9.trans (hb10.mono s9)).mono s8)).mono s7)).mono s6)).mono s5)).mono s4)).mono s3)).mono s2)).mono s1)⟩
  · go_enter Tryd.func3, Tryd.ntmps3
    go_wp2_with fail
    refine (awakeB_any OK w hG).mono ?_
    rintro e w1 ⟨rfl, hb1⟩
    have hG1 := OK.later _ _ hG hb1
    go_wp2_with fail
    refine (awakeB_any OK w1 hG1).mono ?_
    rintro e w2 ⟨rfl, hb2⟩
    go_wp2_with fail
    go_ret
    have s1 := hb1.size
    exact ⟨rfl, hb1.trans (hb2.mono s1)⟩
end Go.Proofs.YtioncfodelaakaaDoor
