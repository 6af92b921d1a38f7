/-
  The statement that unlike bytes are written unlike: the walk.
-/
import Derived.Test.YtioncfodelaakaaDoorBLaw4
namespace Go.Proofs.YtioncfodelaakaaDoor
open Go.RowKit Ch

set_option maxHeartbeats 1000000 in
theorem lApart_any {G : World → Prop} (OK : BaseOk G) (a b : Option Addr) (ca cb : Nat) (s t : ByteArray) (w : World) (hG : G w) (hs : s.size ≤ 2000) (ht : t.size ≤ 2000) (hA : IsBytes w (.slice a s.size ca) s) (hB : IsBytes w (.slice b t.size cb) t) :
    Calls Tryd.prog 7 #[.slice a s.size ca, .slice b t.size cb] w fun e w' => e = .returned (.bool true) ∧ Below w.heap.size w w' := by
  have HA : Hid (IsBytes w (.slice a s.size ca) s) := hA
  have HB : Hid (IsBytes w (.slice b t.size cb) t) := hB
  have hca : s.size ≤ ca ∧ ca ≤ 9223372036854775807 := by
    obtain ⟨a', cap', hv, hc, hm, _⟩ := hA
    simp only [Value.slice.injEq, true_and] at hv
    unfold maxLen at hm
    omega
  obtain ⟨hca1, hca2⟩ := hca
  clear hA hB
  obtain ⟨β, hβ⟩ : ∃ β, (s.toList == t.toList) = β := ⟨_, rfl⟩
  have hSb := enc_beq s t
  have hHb := hex_beq s t
  rw [hβ] at hSb hHb
  obtain ⟨q, hq⟩ : ∃ q, s.size / 3 = q := ⟨_, rfl⟩
  have e1 : (s.size : Int).tdiv 3 = (q : Int) := by rw [Int.tdiv_eq_ediv_of_nonneg (by omega)]; omega
  have e1' : (s.size : Int) / 3 = (q : Int) := by omega
  obtain ⟨k, hk⟩ : ∃ k, 3 * q = k := ⟨_, rfl⟩
  have hks : k ≤ s.size := by omega
  have e2 : (q : Int) * 3 = (k : Int) := by omega
  obtain ⟨V, hV⟩ : ∃ V : ByteArray, (⟨(seg s 0 k).toArray⟩ : ByteArray) = V := ⟨_, rfl⟩
  have hVz : Hid (V.size = k) := by unfold Hid; rw [← hV]; exact seg_text_size s hks
  have hfin := enc_threes V t q (by rw [hVz.out, hk])
  have HV : Hid (∀ W : World, IsBytes W (.slice a s.size ca) s → IsBytes W (.slice a k ca) V) := fun W h => by rw [← hV]; exact h.head hks
  obtain ⟨S1, hS1⟩ : ∃ S : ByteArray, (⟨(encL s).toArray⟩ : ByteArray) = S := ⟨_, rfl⟩
  obtain ⟨S2, hS2⟩ : ∃ S : ByteArray, (⟨(encL t).toArray⟩ : ByteArray) = S := ⟨_, rfl⟩
  obtain ⟨H1, hH1⟩ : ∃ S : ByteArray, (⟨(hexL s.data.toList).toArray⟩ : ByteArray) = S := ⟨_, rfl⟩
  obtain ⟨H2, hH2⟩ : ∃ S : ByteArray, (⟨(hexL t.data.toList).toArray⟩ : ByteArray) = S := ⟨_, rfl⟩
  obtain ⟨P1, hP1⟩ : ∃ S : ByteArray, (⟨(encL V).toArray⟩ : ByteArray) = S := ⟨_, rfl⟩
  obtain ⟨C, hC⟩ : ∃ C : ByteArray, Hid (cat V t = C) := ⟨_, rfl⟩
  have hCz : C.size ≤ 4000 := by rw [← hC.out, cat_size, hVz.out]; omega
  have hVz2 : V.size ≤ 2000 := by rw [hVz.out]; omega
  rw [hC.out] at hfin
  obtain ⟨R, hR⟩ : ∃ S : ByteArray, (⟨(encL C).toArray⟩ : ByteArray) = S := ⟨_, rfl⟩
  have zP1 : P1.size ≤ 10000 := by rw [← hP1, size_of_list]; have := enc_length V; omega
  have zS2 : S2.size ≤ 10000 := by rw [← hS2, size_of_list]; have := enc_length t; omega
  have zz : (9223372036854775807 < P1.size + S2.size) = False := eq_false (by omega)
  rw [hS1, hS2] at hSb
  rw [hH1, hH2] at hHb
  rw [hR, hP1, hS2] at hfin
  have c1 := HA.out.convert
  clear hV hq hk
  go_enter Tryd.func7, Tryd.ntmps7
  go_wp2_with fail
  refine (awakeB_any OK w hG).mono ?_
  rintro e w1 ⟨rfl, hb1⟩
  have hG1 := OK.later _ _ hG hb1
  have A1 : Hid (IsBytes w1 (.slice a s.size ca) s) := HA.out.later hb1
  have B1 : Hid (IsBytes w1 (.slice b t.size cb) t) := HB.out.later hb1
  have cA := A1.out.convert
  have cB := B1.out.convert
  clear c1
  go_wp2_with fail
  refine (OK.enc a ca s w1 hG1 (by omega) A1.out).mono ?_
  rintro e w2 ⟨rfl, hb2⟩
  have hG2 := OK.later _ _ hG1 hb2
  have A2 : Hid (IsBytes w2 (.slice a s.size ca) s) := A1.out.later hb2
  have B2 : Hid (IsBytes w2 (.slice b t.size cb) t) := B1.out.later hb2
  rw [hS1]
  clear cA cB
  go_wp2_with fail
  refine (OK.enc b cb t w2 hG2 (by omega) B2.out).mono ?_
  rintro e w3 ⟨rfl, hb3⟩
  have hG3 := OK.later _ _ hG2 hb3
  have A3 : Hid (IsBytes w3 (.slice a s.size ca) s) := A2.out.later hb3
  have B3 : Hid (IsBytes w3 (.slice b t.size cb) t) := B2.out.later hb3
  rw [hS2]
  have hββ : (β != β) = false := by simp
  go_wp2_with fail
  refine (OK.hex a ca s w3 hG3 (by omega) A3.out).mono ?_
  rintro e w4 ⟨rfl, hb4⟩
  have hG4 := OK.later _ _ hG3 hb4
  have A4 : Hid (IsBytes w4 (.slice a s.size ca) s) := A3.out.later hb4
  have B4 : Hid (IsBytes w4 (.slice b t.size cb) t) := B3.out.later hb4
  rw [hH1]
  go_wp2_with fail
  refine (OK.hex b cb t w4 hG4 (by omega) B4.out).mono ?_
  rintro e w5 ⟨rfl, hb5⟩
  have hG5 := OK.later _ _ hG4 hb5
  have A5 : Hid (IsBytes w5 (.slice a s.size ca) s) := A4.out.later hb5
  have B5 : Hid (IsBytes w5 (.slice b t.size cb) t) := B4.out.later hb5
  rw [hH2]
  have s1 := hb1.size
  have s2 := hb2.size
  have s3 := hb3.size
  have s4 := hb4.size
  have hbw : Below w.heap.size w w5 := hb1.trans ((hb2.trans ((hb3.trans ((hb4.trans (hb5.mono s4)).mono s3)).mono s2)).mono s1)
  have A6 : Hid (IsBytes w5.drew (.slice a s.size ca) s) := A5.out.later (Below.refl _ w5).drew
  have B6 : Hid (IsBytes w5.drew (.slice b t.size cb) t) := B5.out.later (Below.refl _ w5).drew
  have hG6 := OK.later _ _ hG5 (Below.refl _ w5).drew
  have EV : ∀ W : World, G W → IsBytes W (.slice a s.size ca) s → Calls Tryd.prog 9 #[.slice a k ca] W fun e w' => e = .returned (.string P1) ∧ Below W.heap.size W w' := fun W hg h => by
    have h2 := OK.enc a ca V W hg (by omega) (by rw [hVz.out]; exact HV.out W h)
    rw [hVz.out, hP1] at h2
    exact h2
  have Et : ∀ W : World, G W → IsBytes W (.slice b t.size cb) t → Calls Tryd.prog 9 #[.slice b t.size cb] W fun e w' => e = .returned (.string S2) ∧ Below W.heap.size W w' := fun W hg h => by
    have h2 := OK.enc b cb t W hg (by omega) h
    rw [hS2] at h2
    exact h2
  have EC : ∀ (W : World) (a' : Option Addr) (cap' : Nat), G W → IsBytes W (.slice a' C.size cap') C → Calls Tryd.prog 9 #[.slice a' C.size cap'] W fun e w' => e = .returned (.string R) ∧ Below W.heap.size W w' := fun W a' cap' hg h => by
    have h2 := OK.enc a' cap' C W hg (by omega) h
    rw [hR] at h2
    exact h2
  have k0 : (0 : Int) ≤ (k : Int) := by omega
  have k1 : (k : Int) ≤ (ca : Int) := by omega
  have k2 := wrap_nat k (by omega)
  have k3 : k ≤ ca := by omega
  clear hS1 hS2 hH1 hH2 hP1 hR A1 A2 A3 A4 B1 B2 B3 B4 hb1 hb2 hb3 hb4 hb5 s1 s2 s3 s4 hG1 hG2 hG3 hG4
  go_wp2_with fail
  go_region_law (first
    | (refine step_append_bytes rfl (.tmp 49) (.tmp 50) rfl w5.drew.heap.size (.slice a7 V.size cap7) V (by simp [Act.eval]) hown7 (.slice b t.size cb) t (by simp [Act.eval]) B7.out (by omega) hz7 C hC ?_
       intro a8 cap8 w8 hown8 hb8
       have HB8 : Hid (Below w5.drew.heap.size w5.drew w8) := HB7.out.trans hb8
       have HC8 : Hid (IsBytes w8 (.slice a8 C.size cap8) C) := own_bytes hown8
       have A8 : Hid (IsBytes w8 (.slice a s.size ca) s) := A6.out.later HB8.out
       have B8 : Hid (IsBytes w8 (.slice b t.size cb) t) := B6.out.later HB8.out
       have hG8 := OK.later _ _ hG6 HB8.out
       clear hown8 hb8)
    | ((refine step_append_bytes rfl (.tmp 45) (.tmp 48) rfl w5.drew.heap.size (.slice (some ⟨w5.drew.heap.size, 0, none⟩) 0 0) ByteArray.empty (by simp [Act.eval]) (own_empty w5.drew _ (Nat.le_refl _)) (.slice a k ca) V (by simp [Act.eval]) ((HV.out _ A6.out).alloc _) (by simp; omega) (by simp) V (cat_empty V) ?_)
       intro a7 cap7 w7 hown7 hb7
       have HB7 : Hid (Below w5.drew.heap.size w5.drew w7) := ((Below.refl _ w5.drew).alloc (Nat.le_refl _) _).trans hb7
       have B7 : Hid (IsBytes w7 (.slice b t.size cb) t) := B6.out.later HB7.out
       have hz7 := HB7.out.size
       clear hb7)
    | (go_simp
       go_wp2_with (go_at_call 9; refine (Et w10 hG10 B10.out).mono ?_)
       rintro e w11 ⟨rfl, hb11⟩)
    | (go_simp
       go_wp2_with (go_at_call 9; refine (EV w9 hG9 A9.out).mono ?_)
       rintro e w10 ⟨rfl, hb10⟩
       have B10 : Hid (IsBytes w10 (.slice b t.size cb) t) := B9.out.later hb10
       have hG10 := OK.later _ _ hG9 hb10)
    | (go_simp
       go_wp2_with (go_at_call 9; refine (EC w8 a8 cap8 hG8 HC8.out).mono ?_)
       rintro e w9 ⟨rfl, hb9⟩
       have A9 : Hid (IsBytes w9 (.slice a s.size ca) s) := A8.out.later hb9
       have B9 : Hid (IsBytes w9 (.slice b t.size cb) t) := B8.out.later hb9
       have hG9 := OK.later _ _ hG8 hb9))
  all_goals
    go_wp2
    go_ret
    have b5 : Below w5.heap.size w5 w11 := (Below.refl _ w5).drew.trans (HB8.out.trans ((hb9.trans ((hb10.trans (hb11.mono hb10.size)).mono hb9.size)).mono HB8.out.size))
    exact ⟨rfl, hbw.trans (b5.mono hbw.size)⟩

set_option maxHeartbeats 400000 in
theorem lApart_long {G : World → Prop} (OK : BaseOk G) (a b : Option Addr) (n m ca cb : Nat) (w : World) (hG : G w) (hn : n ≤ 9223372036854775807) (hm : m ≤ 9223372036854775807) (h : 2000 < n ∨ 2000 < m) :
    Calls Tryd.prog 7 #[.slice a n ca, .slice b m cb] w fun e w' => e = .returned (.bool true) ∧ Below w.heap.size w w' := by
  by_cases h1 : 2000 < n
  · go_enter Tryd.func7, Tryd.ntmps7
    go_wp2_with fail
    refine (awakeB_any OK w hG).mono ?_
    rintro e w1 ⟨rfl, hb1⟩
    have hG1 := OK.later _ _ hG hb1
    go_wp2_with fail
    refine (awakeB_any OK w1 hG1).mono ?_
    rintro e w2 ⟨rfl, hb2⟩
    go_wp2_with fail
    go_ret
    have s1 := hb1.size
    exact ⟨rfl, hb1.trans (hb2.mono s1)⟩
  · have h2 : 2000 < m := by omega
    clear h
    go_enter Tryd.func7, Tryd.ntmps7
    go_wp2_with fail
    refine (awakeB_any OK w hG).mono ?_
    rintro e w1 ⟨rfl, hb1⟩
    have hG1 := OK.later _ _ hG hb1
    go_wp2_with fail
    refine (awakeB_any OK w1 hG1).mono ?_
    rintro e w2 ⟨rfl, hb2⟩
    go_wp2_with fail
    go_ret
    have s1 := hb1.size
    exact ⟨rfl, hb1.trans (hb2.mono s1)⟩
end Go.Proofs.YtioncfodelaakaaDoor
