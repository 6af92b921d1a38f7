/-
  Package der: Info, Cert.
-/
import Derived.Test.YthdoginhbhdmbaaXDInfo
import Derived.Test.YthdoginhbhdmbaaHFreeR
namespace Go.Proofs.Ythdoginhbhdmbaa
open Go.RowKit Ch
set_option maxRecDepth 100000

/-- The dates of a certificate. -/
def datesL : List UInt8 := putL1 (48, putL1 (23, [48, 48, 48, 49, 48, 49, 48, 48, 48, 48, 48, 48, 90]) ++ putL1 (23, [52, 57, 49, 50, 51, 49, 50, 51, 53, 57, 53, 57, 90]))
/-- What a certificate says. -/
def firstL (G O I : List UInt8) : List UInt8 := putL1 (160, putL1 (2, [2])) ++ putL1 (2, [1]) ++ G ++ O ++ putL1 (48, putL1 (23, [48, 48, 48, 49, 48, 49, 48, 48, 48, 48, 48, 48, 90]) ++ putL1 (23, [52, 57, 49, 50, 51, 49, 50, 51, 53, 57, 53, 57, 90])) ++ O ++ I
def certOf (G O I : List UInt8) : List UInt8 := putL1 (48, putL1 (48, firstL G O I) ++ G ++ putL1 (3, [0]))
theorem holdL_le (s : List UInt8) (h : s.length ≤ 200) : (holdL s).length ≤ 1000 := by
  have h1 := up_of (p := (12, s)) (n := 200) h (by omega)
  have h2 := up_of (p := ((6 : UInt8), [85, 4, 3])) (n := 3) (by decide) (by omega)
  have h3 := up_of (p := (48, putL1 (6, [85, 4, 3]) ++ putL1 (12, s))) (n := 300) (by simp only [List.length_append]; omega) (by omega)
  have h4 := up_of (p := (49, putL1 (48, putL1 (6, [85, 4, 3]) ++ putL1 (12, s)))) (n := 400) (by simp only; omega) (by omega)
  have h5 := up_of (p := (48, putL1 (49, putL1 (48, putL1 (6, [85, 4, 3]) ++ putL1 (12, s))))) (n := 500) (by simp only; omega) (by omega)
  unfold holdL
  omega
theorem infoL_le (N E : List UInt8) (hN : N.length ≤ 10000) (hE : E.length ≤ 10000) : (infoL N E).length ≤ 21000 := by
  have h1 := putNum_le N hN
  have h2 := putNum_le E hE
  have h3 := up_of (p := (48, putL1 (2, numL N) ++ putL1 (2, numL E))) (n := 20012) (by simp only [List.length_append]; omega) (by omega)
  have h4 := up_of (p := (3, [0] ++ putL1 (48, putL1 (2, numL N) ++ putL1 (2, numL E)))) (n := 20017) (by simp only [List.length_append, List.length_cons, List.length_nil]; omega) (by omega)
  have h5 := kindL_len 1
  have h6 := up_of (p := (48, kindL 1 ++ putL1 (3, [0] ++ putL1 (48, putL1 (2, numL N) ++ putL1 (2, numL E))))) (n := 20100) (by simp only [List.length_append]; omega) (by omega)
  unfold infoL
  omega
theorem firstL_le (G O I : List UInt8) (h1 : G.length ≤ 15) (h2 : O.length ≤ 1000) (h3 : I.length ≤ 21000) : (firstL G O I).length ≤ 50000 := by
  have h4 : (putL1 (160, putL1 (2, [2]))).length ≤ 10 := by decide
  have h5 : (putL1 (2, [1])).length ≤ 10 := by decide
  have h6 : datesL.length ≤ 100 := by decide
  unfold datesL at h6
  unfold firstL
  simp only [List.length_append] at *
  omega
theorem dateRow_soft {n : Nat} {v : Value} {u u' : World} {C : Array Value} {t : TypeId} (h : ∃ g m, v = .slice (some ⟨g, 0, none⟩) 13 13 ∧ n ≤ g ∧ u.heap[g]? = some (.cells C t m)) (hb : Soft n u u') : ∃ g m, v = .slice (some ⟨g, 0, none⟩) 13 13 ∧ n ≤ g ∧ u'.heap[g]? = some (.cells C t m) := by
  obtain ⟨g, m, h1, h2, h3⟩ := h
  obtain ⟨m', h4⟩ := hb.cells g C t m h3
  exact ⟨g, m', h1, h2, h4⟩
theorem date_bytes (s : ByteArray) (g : Nat) (m : Nat × Nat) (C : Array Value) (u : World) (hg : u.heap[g]? = some (.cells C 5 m)) (hC : C.toList = byteVals s) (hs : s.size = 13) : IsBytes u (.slice (some ⟨g, 0, none⟩) 13 13) s := by
  refine ⟨some ⟨g, 0, none⟩, 13, by rw [hs], by omega, by unfold maxLen; omega, .inr ⟨_, rfl, .inr ⟨g, 0, rfl, block_lt hg, ?_⟩⟩⟩
  intro i hi
  rw [Nat.zero_add] at hi
  have e1 : (byteVals s)[i]? = some (.int .u8 (byte s i : Int)) := by
    unfold byteVals
    rw [List.getElem?_map, list_at s i hi, byte_eq s i hi]
    rfl
  rw [← hC, Array.getElem?_toList] at e1
  rw [Nat.zero_add]
  unfold World.cell?
  rw [hg]
  exact e1
def semCert (x y z : Option Addr) (cx cy cz nN nE nD n0 : Nat) (G O I : List UInt8) : Nat → Value → World → Prop := fun ix v u => match ix with
  | 0 => IsBytes u v ⟨([2] : List UInt8).toArray⟩
  | 1 => IsSl u v [⟨([2] : List UInt8).toArray⟩]
  | 2 => IsBytes u v ⟨(putL1 (2, [2]) : List UInt8).toArray⟩
  | 3 => IsSl u v [⟨(putL1 (2, [2]) : List UInt8).toArray⟩]
  | 4 => IsBytes u v ⟨(putL1 (160, putL1 (2, [2])) : List UInt8).toArray⟩
  | 5 => IsBytes u v ⟨([1] : List UInt8).toArray⟩
  | 6 => IsSl u v [⟨([1] : List UInt8).toArray⟩]
  | 7 => IsBytes u v ⟨(putL1 (2, [1]) : List UInt8).toArray⟩
  | 8 => IsBytes u v ⟨(G : List UInt8).toArray⟩
  | 9 => IsBytes u v ⟨(O : List UInt8).toArray⟩
  | 10 => ∃ g m, v = .slice (some ⟨g, 0, none⟩) 13 13 ∧ n0 ≤ g ∧ u.heap[g]? = some (.cells #[.int .u8 48, .int .u8 48, .int .u8 48, .int .u8 49, .int .u8 48, .int .u8 49, .int .u8 48, .int .u8 48, .int .u8 48, .int .u8 48, .int .u8 48, .int .u8 48, .int .u8 90] 5 m)
  | 11 => IsBytes u v ⟨([48, 48, 48, 49, 48, 49, 48, 48, 48, 48, 48, 48, 90] : List UInt8).toArray⟩
  | 12 => IsSl u v [⟨([48, 48, 48, 49, 48, 49, 48, 48, 48, 48, 48, 48, 90] : List UInt8).toArray⟩]
  | 13 => IsBytes u v ⟨(putL1 (23, [48, 48, 48, 49, 48, 49, 48, 48, 48, 48, 48, 48, 90]) : List UInt8).toArray⟩
  | 14 => ∃ g m, v = .slice (some ⟨g, 0, none⟩) 13 13 ∧ n0 ≤ g ∧ u.heap[g]? = some (.cells #[.int .u8 52, .int .u8 57, .int .u8 49, .int .u8 50, .int .u8 51, .int .u8 49, .int .u8 50, .int .u8 51, .int .u8 53, .int .u8 57, .int .u8 53, .int .u8 57, .int .u8 90] 5 m)
  | 15 => IsBytes u v ⟨([52, 57, 49, 50, 51, 49, 50, 51, 53, 57, 53, 57, 90] : List UInt8).toArray⟩
  | 16 => IsSl u v [⟨([52, 57, 49, 50, 51, 49, 50, 51, 53, 57, 53, 57, 90] : List UInt8).toArray⟩]
  | 17 => IsBytes u v ⟨(putL1 (23, [52, 57, 49, 50, 51, 49, 50, 51, 53, 57, 53, 57, 90]) : List UInt8).toArray⟩
  | 18 => IsSl u v [⟨(putL1 (23, [48, 48, 48, 49, 48, 49, 48, 48, 48, 48, 48, 48, 90]) : List UInt8).toArray⟩, ⟨(putL1 (23, [52, 57, 49, 50, 51, 49, 50, 51, 53, 57, 53, 57, 90]) : List UInt8).toArray⟩]
  | 19 => IsBytes u v ⟨(putL1 (48, putL1 (23, [48, 48, 48, 49, 48, 49, 48, 48, 48, 48, 48, 48, 90]) ++ putL1 (23, [52, 57, 49, 50, 51, 49, 50, 51, 53, 57, 53, 57, 90])) : List UInt8).toArray⟩
  | 20 => IsBytes u v ⟨(O : List UInt8).toArray⟩
  | 21 => v = .agg #[.slice x nN cx, .slice y nE cy, .slice z nD cz]
  | 22 => IsBytes u v ⟨(I : List UInt8).toArray⟩
  | 23 => IsSl u v [⟨(putL1 (160, putL1 (2, [2])) : List UInt8).toArray⟩, ⟨(putL1 (2, [1]) : List UInt8).toArray⟩, ⟨(G : List UInt8).toArray⟩, ⟨(O : List UInt8).toArray⟩, ⟨(putL1 (48, putL1 (23, [48, 48, 48, 49, 48, 49, 48, 48, 48, 48, 48, 48, 90]) ++ putL1 (23, [52, 57, 49, 50, 51, 49, 50, 51, 53, 57, 53, 57, 90])) : List UInt8).toArray⟩, ⟨(O : List UInt8).toArray⟩, ⟨(I : List UInt8).toArray⟩]
  | 24 => IsBytes u v ⟨(putL1 (48, firstL G O I) : List UInt8).toArray⟩
  | 25 => IsBytes u v ⟨(putL1 (48, firstL G O I) : List UInt8).toArray⟩
  | _ => True
set_option maxHeartbeats 16000000 in
theorem dCert_any (x y z : Option Addr) (cx cy cz : Nat) (sN sE sD s : ByteArray) (w : World) (hN : IsBytes w (.slice x sN.size cx) sN) (hE : IsBytes w (.slice y sE.size cy) sE) (hD : IsBytes w (.slice z sD.size cz) sD) (lN : sN.size ≤ 10000) (lE : sE.size ≤ 10000) (lD : sD.size ≤ 10000) (ls : s.size ≤ 1000000) :
    Calls Try.prog 12 #[.agg #[.slice x sN.size cx, .slice y sE.size cy, .slice z sD.size cz], .string s] w fun e w' => ((rightP sN.data.toList sE.data.toList sD.data.toList ∧ s.size ≤ 200 ∧ ∃ v, e = .returned (.tuple #[v, .int .i64 0]) ∧ IsBytes w' v ⟨(certOf (kindL 11) (holdL s.data.toList) (infoL sN.data.toList sE.data.toList)).toArray⟩) ∨ (¬ (rightP sN.data.toList sE.data.toList sD.data.toList ∧ s.size ≤ 200) ∧ e = .returned (.tuple #[.slice none 0 0, .int .i64 2]))) ∧ Below w.heap.size w w' := by
  obtain ⟨W1, hW1⟩ : ∃ W, w.alloc (.cells #[.slice x sN.size cx, .slice y sE.size cy, .slice z sD.size cz] 36) = W := ⟨_, rfl⟩
  have hK := keyBox w (.slice x sN.size cx) (.slice y sE.size cy) (.slice z sD.size cz)
  rw [hW1] at hK
  obtain ⟨q, hq⟩ : ∃ q, w.heap.size = q := ⟨_, rfl⟩
  rw [hq] at hK
  have hR := rRight_any x y z cx cy cz sN sE sD W1 (hN.later hK.below) (hE.later hK.below) (hD.later hK.below) (by omega) (by omega) (by omega)
  have HK := show Hid (KeyBox w W1 q (.slice x sN.size cx) (.slice y sE.size cy) (.slice z sD.size cz)) from hK
  obtain ⟨⟨k0, k1, k2⟩, _⟩ := And.intro (hK.cells (Below.refl _ W1)) trivial
  by_cases hp : rightP sN.data.toList sE.data.toList sD.data.toList
  · rw [decide_eq_true hp] at hR
    by_cases h2 : s.size ≤ 200
    · have hi : ¬ (200 : Int) < (s.size : Int) := by omega
      have HP := show Hid (rightP sN.data.toList sE.data.toList sD.data.toList ∧ s.size ≤ 200) from ⟨hp, h2⟩
      have HS := show Hid (IsBytes w (.slice x sN.size cx) ⟨sN.data.toList.toArray⟩ ∧ IsBytes w (.slice y sE.size cy) ⟨sE.data.toList.toArray⟩ ∧ sN.data.toList.length ≤ 10000 ∧ sE.data.toList.length ≤ 10000 ∧ bareL sN.data.toList ≠ [] ∧ bareL sE.data.toList ≠ []) from ⟨hN, hE, by rw [len_eq]; exact lN, by rw [len_eq]; exact lE, by
        intro h0
        have := hp.1.1
        rw [h0] at this
        simp at this, by
        intro h0
        have h9 := hp.2.2.2.1
        rw [← numB_bare, h0] at h9
        exact h9 (by decide)⟩
      clear hK hN hE hD lN lE lD hp h2 ls
      go_enter Try.func12, Try.ntmps12
      go_wp2_with fail
      refine hR.mono ?_
      rintro e w1 ⟨rfl, b1⟩
      clear hR hW1
      have hA := show Calls Try.prog 28 #[.string ⟨#[42, 134, 72, 134, 247, 13, 1, 1, 11]⟩] w1 (Gives w1 (kindL 11)) from dAlgorithm_any ⟨#[42, 134, 72, 134, 247, 13, 1, 1, 11]⟩ w1 (by decide)
      have HB1 := show Hid (Below W1.heap.size W1 w1) from b1
      clear b1
      go_wp2_with fail
      refine hA.mono ?_
      rintro e w2 ⟨⟨v2, rfl, i2⟩, b2⟩
      obtain ⟨yG, kG, cG, rfl⟩ := isb_open i2
      have hO := dHolder_any s w2 HP.out.2
      have HB2 := show Hid (IsBytes w2 (.slice yG kG cG) ⟨(kindL 11).toArray⟩ ∧ Below W1.heap.size W1 w2) from ⟨i2, bl2 HB1.out b2⟩
      clear hA i2 b2 HB1
      go_wp2_with fail
      refine hO.mono ?_
      rintro e w3 ⟨⟨v3, rfl, i3⟩, b3⟩
      obtain ⟨yO, kO, cO, rfl⟩ := isb_open i3
      obtain ⟨G, hG⟩ : ∃ G, kindL 11 = G := ⟨_, rfl⟩
      obtain ⟨O, hOO⟩ : ∃ G, holdL s.data.toList = G := ⟨_, rfl⟩
      obtain ⟨I, hI⟩ : ∃ G, infoL sN.data.toList sE.data.toList = G := ⟨_, rfl⟩
      have HAB := show Hid (kindL 11 = G ∧ holdL s.data.toList = O ∧ infoL sN.data.toList sE.data.toList = I) from ⟨hG, hOO, hI⟩
      obtain ⟨n0, hn0⟩ : ∃ n, w3.heap.size = n := ⟨_, rfl⟩
      have HN := show Hid (n0 ≤ w3.heap.size) from Nat.le_of_eq hn0.symm
      have HU := show Hid (∀ u, Soft n0 w3.drew u → IsBytes u (.slice yG kG cG) ⟨G.toArray⟩ ∧ IsBytes u (.slice yO kO cO) ⟨O.toArray⟩ ∧ (u.cell? ⟨q, 0, none⟩ = some (.slice x sN.size cx) ∧ u.cell? ⟨q, 1, none⟩ = some (.slice y sE.size cy) ∧ u.cell? ⟨q, 2, none⟩ = some (.slice z sD.size cz)) ∧ Calls Try.prog 27 #[.agg #[.slice x sN.size cx, .slice y sE.size cy, .slice z sD.size cz]] u (Gives u I) ∧ Below w.heap.size w u) from fun u hu => by
        have hu3 : Below w3.heap.size w3 u := below_drewA (hu.below.mono (by rw [← hn0]; exact Nat.le_refl _))
        have huW := bl2 (bl2 HB2.out.2 b3) hu3
        have huw := bl2 HK.out.below huW
        refine ⟨hG ▸ HB2.out.1.later (bl2 b3 hu3), hOO ▸ i3.later hu3, HK.out.cells huW, ?_, huw⟩
        rw [← hI]
        exact dInfo_any x y z cx cy cz _ _ _ _ _ u (HS.out.1.later huw) (HS.out.2.1.later huw) HS.out.2.2.1 HS.out.2.2.2.1 HS.out.2.2.2.2.1 HS.out.2.2.2.2.2
      have HLG := show Hid (G.length ≤ 15) from by
        show G.length ≤ 15
        rw [← hG, kindL_len]
        exact Nat.le_refl _
      have HLn := show (firstL G O I).length ≤ 50000 from by
        have h1 : G.length ≤ 15 := HLG.out
        have h2 : O.length ≤ 1000 := by rw [← hOO]; exact holdL_le _ (by rw [len_eq]; exact HP.out.2)
        have h3 : I.length ≤ 21000 := by rw [← hI]; exact infoL_le _ _ HS.out.2.2.1 HS.out.2.2.2.1
        exact firstL_le G O I h1 h2 h3
      have HL := show Hid ((firstL G O I).length ≤ 60000) from Nat.le_trans HLn (by decide)
      have HL2 := show Hid ((putL1 (48, firstL G O I)).length ≤ 50004) from up_of (p := (48, firstL G O I)) HLn (by omega)
      obtain ⟨nN, hnN⟩ : ∃ n, sN.size = n := ⟨_, rfl⟩
      obtain ⟨nE, hnE⟩ : ∃ n, sE.size = n := ⟨_, rfl⟩
      obtain ⟨nD, hnD⟩ : ∃ n, sD.size = n := ⟨_, rfl⟩
      rw [hnN, hnE, hnD] at HU ⊢
      clear hO i3 b3 HB2 hG hOO hI HK HS HLn k0 k1 k2 hnN hnE hnD hn0
      go_wp2_with fail
      refine freeR_walk (R := Soft n0) (Sem := semCert x y z cx cy cz nN nE nD n0 G O I) rfl (n := 52) (fun _ _ _ h k => h.trans k) (Soft.refl _ _) (by kernel_rfl) rfl (by kernel_rfl) ?_ ?_ ?_
      · intro ix v u u' h hb
        match ix, h with
        | 0, h => exact IsBytes.soft h hb
        | 1, h => exact IsSl.soft h hb
        | 2, h => exact IsBytes.soft h hb
        | 3, h => exact IsSl.soft h hb
        | 4, h => exact IsBytes.soft h hb
        | 5, h => exact IsBytes.soft h hb
        | 6, h => exact IsSl.soft h hb
        | 7, h => exact IsBytes.soft h hb
        | 8, h => exact IsBytes.soft h hb
        | 9, h => exact IsBytes.soft h hb
        | 10, h => exact dateRow_soft h hb
        | 11, h => exact IsBytes.soft h hb
        | 12, h => exact IsSl.soft h hb
        | 13, h => exact IsBytes.soft h hb
        | 14, h => exact dateRow_soft h hb
        | 15, h => exact IsBytes.soft h hb
        | 16, h => exact IsSl.soft h hb
        | 17, h => exact IsBytes.soft h hb
        | 18, h => exact IsSl.soft h hb
        | 19, h => exact IsBytes.soft h hb
        | 20, h => exact IsBytes.soft h hb
        | 21, h => exact h
        | 22, h => exact IsBytes.soft h hb
        | 23, h => exact IsSl.soft h hb
        | 24, h => exact IsBytes.soft h hb
        | 25, h => exact IsBytes.soft h hb
        | _ + 26, _ => exact trivial
      · intro ix o a u ho hF hbu
        match ix, ho, hF with
        | 0, ho, hF =>
          obtain rfl := Option.some.inj ho
          refine freeR_step rfl (by rfl) (fun K' hK => ?_)
          go_simp
          exact hK.out _ _ (litM u ⟨#[2]⟩ _ (0, 0) rfl (show (1 : Nat) ≤ maxLen by unfold maxLen; decide)) (Soft.of (alB u _) (Nat.le_trans HN.out hbu.below.size))
        | 1, ho, hF =>
          obtain rfl := Option.some.inj ho
          obtain ⟨v20, h20, s20⟩ := hF.dep 0 20 rfl rfl
          replace s20 : IsBytes u v20 ⟨([2] : List UInt8).toArray⟩ := s20
          obtain ⟨y20, k20, c20, rfl⟩ := isb_open s20
          refine freeR_step rfl (by rfl) (fun K' hK => ?_)
          go_simp
          exact hK.out _ _ (isSl_lit u [(.slice y20 k20 c20, ⟨([2] : List UInt8).toArray⟩)] (allc s20 alln) _ rfl 1 rfl) (Soft.of (alB u _) (Nat.le_trans HN.out hbu.below.size))
        | 2, ho, hF =>
          obtain rfl := Option.some.inj ho
          obtain ⟨v21, h21, s21⟩ := hF.dep 1 21 rfl rfl
          replace s21 : IsSl u v21 [⟨([2] : List UInt8).toArray⟩] := s21
          have hP := dPut_any 2 (tk rfl) v21 _ u s21 ([2]) (by simp [flatL]) (by simp) (by decide)
          obtain ⟨y21, k21, c21, rfl⟩ := isl_open s21
          refine freeR_step rfl (by rfl) (fun K' hK => ?_)
          go_wp2_with fail
          refine hP.mono ?_
          rintro e u' ⟨⟨v, rfl, ho⟩, hb⟩
          go_simp
          exact hK.out _ _ ho (Soft.of hb (Nat.le_trans HN.out hbu.below.size))
        | 3, ho, hF =>
          obtain rfl := Option.some.inj ho
          obtain ⟨v22, h22, s22⟩ := hF.dep 2 22 rfl rfl
          replace s22 : IsBytes u v22 ⟨(putL1 (2, [2]) : List UInt8).toArray⟩ := s22
          obtain ⟨y22, k22, c22, rfl⟩ := isb_open s22
          refine freeR_step rfl (by rfl) (fun K' hK => ?_)
          go_simp
          exact hK.out _ _ (isSl_lit u [(.slice y22 k22 c22, ⟨(putL1 (2, [2]) : List UInt8).toArray⟩)] (allc s22 alln) _ rfl 1 rfl) (Soft.of (alB u _) (Nat.le_trans HN.out hbu.below.size))
        | 4, ho, hF =>
          obtain rfl := Option.some.inj ho
          obtain ⟨v23, h23, s23⟩ := hF.dep 3 23 rfl rfl
          replace s23 : IsSl u v23 [⟨(putL1 (2, [2]) : List UInt8).toArray⟩] := s23
          have hP := dPut_any 160 (tk rfl) v23 _ u s23 (putL1 (2, [2])) (by simp [flatL]) (by simp) (by decide)
          obtain ⟨y23, k23, c23, rfl⟩ := isl_open s23
          refine freeR_step rfl (by rfl) (fun K' hK => ?_)
          go_wp2_with fail
          refine hP.mono ?_
          rintro e u' ⟨⟨v, rfl, ho⟩, hb⟩
          go_simp
          exact hK.out _ _ ho (Soft.of hb (Nat.le_trans HN.out hbu.below.size))
        | 5, ho, hF =>
          obtain rfl := Option.some.inj ho
          refine freeR_step rfl (by rfl) (fun K' hK => ?_)
          go_simp
          exact hK.out _ _ (litM u ⟨#[1]⟩ _ (0, 0) rfl (show (1 : Nat) ≤ maxLen by unfold maxLen; decide)) (Soft.of (alB u _) (Nat.le_trans HN.out hbu.below.size))
        | 6, ho, hF =>
          obtain rfl := Option.some.inj ho
          obtain ⟨v25, h25, s25⟩ := hF.dep 5 25 rfl rfl
          replace s25 : IsBytes u v25 ⟨([1] : List UInt8).toArray⟩ := s25
          obtain ⟨y25, k25, c25, rfl⟩ := isb_open s25
          refine freeR_step rfl (by rfl) (fun K' hK => ?_)
          go_simp
          exact hK.out _ _ (isSl_lit u [(.slice y25 k25 c25, ⟨([1] : List UInt8).toArray⟩)] (allc s25 alln) _ rfl 1 rfl) (Soft.of (alB u _) (Nat.le_trans HN.out hbu.below.size))
        | 7, ho, hF =>
          obtain rfl := Option.some.inj ho
          obtain ⟨v26, h26, s26⟩ := hF.dep 6 26 rfl rfl
          replace s26 : IsSl u v26 [⟨([1] : List UInt8).toArray⟩] := s26
          have hP := dPut_any 2 (tk rfl) v26 _ u s26 ([1]) (by simp [flatL]) (by simp) (by decide)
          obtain ⟨y26, k26, c26, rfl⟩ := isl_open s26
          refine freeR_step rfl (by rfl) (fun K' hK => ?_)
          go_wp2_with fail
          refine hP.mono ?_
          rintro e u' ⟨⟨v, rfl, ho⟩, hb⟩
          go_simp
          exact hK.out _ _ ho (Soft.of hb (Nat.le_trans HN.out hbu.below.size))
        | 8, ho, hF =>
          obtain rfl := Option.some.inj ho
          have h6 : a.tmps[6]? = some (.slice yG kG cG) := (hF.out 6 rfl).trans rfl
          have hx := (HU.out u hbu).1
          refine freeR_step rfl (by rfl) (fun K' hK => ?_)
          go_simp
          exact hK.out _ _ hx (Soft.refl _ _)
        | 9, ho, hF =>
          obtain rfl := Option.some.inj ho
          have h7 : a.tmps[7]? = some (.slice yO kO cO) := (hF.out 7 rfl).trans rfl
          have hx := (HU.out u hbu).2.1
          refine freeR_step rfl (by rfl) (fun K' hK => ?_)
          go_simp
          exact hK.out _ _ hx (Soft.refl _ _)
        | 10, ho, hF =>
          obtain rfl := Option.some.inj ho
          refine freeR_step rfl (by rfl) (fun K' hK => ?_)
          go_simp
          exact hK.out _ _ ⟨u.heap.size, (0, 0), rfl, (Nat.le_trans HN.out hbu.below.size), heap_push_at u _⟩ (Soft.of (alB u _) (Nat.le_trans HN.out hbu.below.size))
        | 11, ho, hF =>
          obtain rfl := Option.some.inj ho
          obtain ⟨v30, h30, s30⟩ := hF.dep 10 30 rfl rfl
          replace s30 : ∃ g m, v30 = .slice (some ⟨g, 0, none⟩) 13 13 ∧ n0 ≤ g ∧ u.heap[g]? = some (.cells #[.int .u8 48, .int .u8 48, .int .u8 48, .int .u8 49, .int .u8 48, .int .u8 49, .int .u8 48, .int .u8 48, .int .u8 48, .int .u8 48, .int .u8 48, .int .u8 48, .int .u8 90] 5 m) := s30
          obtain ⟨g, m, rfl, hg0, hgm⟩ := s30
          have hcv := run_convert_mark (P := Try.prog) u 24 5 g 13 13 _ m Try.underlying24 Try.underlying5 hgm
          have hsf := soft_freeze (n := n0) (g := g) (k := (#[.int .u8 48, .int .u8 48, .int .u8 48, .int .u8 49, .int .u8 48, .int .u8 49, .int .u8 48, .int .u8 48, .int .u8 48, .int .u8 48, .int .u8 48, .int .u8 48, .int .u8 90] : Array Value).size) u hg0
          have hib := date_bytes ⟨#[48, 48, 48, 49, 48, 49, 48, 48, 48, 48, 48, 48, 90]⟩ g m _ u hgm rfl rfl
          refine freeR_step rfl (by rfl) (fun K' hK => ?_)
          go_simp
          exact hK.out _ _ (hib.soft hsf) hsf
        | 12, ho, hF =>
          obtain rfl := Option.some.inj ho
          obtain ⟨v31, h31, s31⟩ := hF.dep 11 31 rfl rfl
          replace s31 : IsBytes u v31 ⟨([48, 48, 48, 49, 48, 49, 48, 48, 48, 48, 48, 48, 90] : List UInt8).toArray⟩ := s31
          obtain ⟨y31, k31, c31, rfl⟩ := isb_open s31
          refine freeR_step rfl (by rfl) (fun K' hK => ?_)
          go_simp
          exact hK.out _ _ (isSl_lit u [(.slice y31 k31 c31, ⟨([48, 48, 48, 49, 48, 49, 48, 48, 48, 48, 48, 48, 90] : List UInt8).toArray⟩)] (allc s31 alln) _ rfl 1 rfl) (Soft.of (alB u _) (Nat.le_trans HN.out hbu.below.size))
        | 13, ho, hF =>
          obtain rfl := Option.some.inj ho
          obtain ⟨v32, h32, s32⟩ := hF.dep 12 32 rfl rfl
          replace s32 : IsSl u v32 [⟨([48, 48, 48, 49, 48, 49, 48, 48, 48, 48, 48, 48, 90] : List UInt8).toArray⟩] := s32
          have hP := dPut_any 23 (tk rfl) v32 _ u s32 ([48, 48, 48, 49, 48, 49, 48, 48, 48, 48, 48, 48, 90]) (by simp [flatL]) (by simp) (by decide)
          obtain ⟨y32, k32, c32, rfl⟩ := isl_open s32
          refine freeR_step rfl (by rfl) (fun K' hK => ?_)
          go_wp2_with fail
          refine hP.mono ?_
          rintro e u' ⟨⟨v, rfl, ho⟩, hb⟩
          go_simp
          exact hK.out _ _ ho (Soft.of hb (Nat.le_trans HN.out hbu.below.size))
        | 14, ho, hF =>
          obtain rfl := Option.some.inj ho
          refine freeR_step rfl (by rfl) (fun K' hK => ?_)
          go_simp
          exact hK.out _ _ ⟨u.heap.size, (0, 0), rfl, (Nat.le_trans HN.out hbu.below.size), heap_push_at u _⟩ (Soft.of (alB u _) (Nat.le_trans HN.out hbu.below.size))
        | 15, ho, hF =>
          obtain rfl := Option.some.inj ho
          obtain ⟨v34, h34, s34⟩ := hF.dep 14 34 rfl rfl
          replace s34 : ∃ g m, v34 = .slice (some ⟨g, 0, none⟩) 13 13 ∧ n0 ≤ g ∧ u.heap[g]? = some (.cells #[.int .u8 52, .int .u8 57, .int .u8 49, .int .u8 50, .int .u8 51, .int .u8 49, .int .u8 50, .int .u8 51, .int .u8 53, .int .u8 57, .int .u8 53, .int .u8 57, .int .u8 90] 5 m) := s34
          obtain ⟨g, m, rfl, hg0, hgm⟩ := s34
          have hcv := run_convert_mark (P := Try.prog) u 24 5 g 13 13 _ m Try.underlying24 Try.underlying5 hgm
          have hsf := soft_freeze (n := n0) (g := g) (k := (#[.int .u8 52, .int .u8 57, .int .u8 49, .int .u8 50, .int .u8 51, .int .u8 49, .int .u8 50, .int .u8 51, .int .u8 53, .int .u8 57, .int .u8 53, .int .u8 57, .int .u8 90] : Array Value).size) u hg0
          have hib := date_bytes ⟨#[52, 57, 49, 50, 51, 49, 50, 51, 53, 57, 53, 57, 90]⟩ g m _ u hgm rfl rfl
          refine freeR_step rfl (by rfl) (fun K' hK => ?_)
          go_simp
          exact hK.out _ _ (hib.soft hsf) hsf
        | 16, ho, hF =>
          obtain rfl := Option.some.inj ho
          obtain ⟨v35, h35, s35⟩ := hF.dep 15 35 rfl rfl
          replace s35 : IsBytes u v35 ⟨([52, 57, 49, 50, 51, 49, 50, 51, 53, 57, 53, 57, 90] : List UInt8).toArray⟩ := s35
          obtain ⟨y35, k35, c35, rfl⟩ := isb_open s35
          refine freeR_step rfl (by rfl) (fun K' hK => ?_)
          go_simp
          exact hK.out _ _ (isSl_lit u [(.slice y35 k35 c35, ⟨([52, 57, 49, 50, 51, 49, 50, 51, 53, 57, 53, 57, 90] : List UInt8).toArray⟩)] (allc s35 alln) _ rfl 1 rfl) (Soft.of (alB u _) (Nat.le_trans HN.out hbu.below.size))
        | 17, ho, hF =>
          obtain rfl := Option.some.inj ho
          obtain ⟨v36, h36, s36⟩ := hF.dep 16 36 rfl rfl
          replace s36 : IsSl u v36 [⟨([52, 57, 49, 50, 51, 49, 50, 51, 53, 57, 53, 57, 90] : List UInt8).toArray⟩] := s36
          have hP := dPut_any 23 (tk rfl) v36 _ u s36 ([52, 57, 49, 50, 51, 49, 50, 51, 53, 57, 53, 57, 90]) (by simp [flatL]) (by simp) (by decide)
          obtain ⟨y36, k36, c36, rfl⟩ := isl_open s36
          refine freeR_step rfl (by rfl) (fun K' hK => ?_)
          go_wp2_with fail
          refine hP.mono ?_
          rintro e u' ⟨⟨v, rfl, ho⟩, hb⟩
          go_simp
          exact hK.out _ _ ho (Soft.of hb (Nat.le_trans HN.out hbu.below.size))
        | 18, ho, hF =>
          obtain rfl := Option.some.inj ho
          obtain ⟨v33, h33, s33⟩ := hF.dep 13 33 rfl rfl
          replace s33 : IsBytes u v33 ⟨(putL1 (23, [48, 48, 48, 49, 48, 49, 48, 48, 48, 48, 48, 48, 90]) : List UInt8).toArray⟩ := s33
          obtain ⟨v37, h37, s37⟩ := hF.dep 17 37 rfl rfl
          replace s37 : IsBytes u v37 ⟨(putL1 (23, [52, 57, 49, 50, 51, 49, 50, 51, 53, 57, 53, 57, 90]) : List UInt8).toArray⟩ := s37
          obtain ⟨y33, k33, c33, rfl⟩ := isb_open s33
          obtain ⟨y37, k37, c37, rfl⟩ := isb_open s37
          refine freeR_step rfl (by rfl) (fun K' hK => ?_)
          go_simp
          exact hK.out _ _ (isSl_lit u [(.slice y33 k33 c33, ⟨(putL1 (23, [48, 48, 48, 49, 48, 49, 48, 48, 48, 48, 48, 48, 90]) : List UInt8).toArray⟩), (.slice y37 k37 c37, ⟨(putL1 (23, [52, 57, 49, 50, 51, 49, 50, 51, 53, 57, 53, 57, 90]) : List UInt8).toArray⟩)] (allc s33 (allc s37 alln)) _ rfl 2 rfl) (Soft.of (alB u _) (Nat.le_trans HN.out hbu.below.size))
        | 19, ho, hF =>
          obtain rfl := Option.some.inj ho
          obtain ⟨v38, h38, s38⟩ := hF.dep 18 38 rfl rfl
          replace s38 : IsSl u v38 [⟨(putL1 (23, [48, 48, 48, 49, 48, 49, 48, 48, 48, 48, 48, 48, 90]) : List UInt8).toArray⟩, ⟨(putL1 (23, [52, 57, 49, 50, 51, 49, 50, 51, 53, 57, 53, 57, 90]) : List UInt8).toArray⟩] := s38
          have hP := dPut_any 48 (tk rfl) v38 _ u s38 (putL1 (23, [48, 48, 48, 49, 48, 49, 48, 48, 48, 48, 48, 48, 90]) ++ putL1 (23, [52, 57, 49, 50, 51, 49, 50, 51, 53, 57, 53, 57, 90])) (by simp [flatL]) (by simp) (by decide)
          obtain ⟨y38, k38, c38, rfl⟩ := isl_open s38
          refine freeR_step rfl (by rfl) (fun K' hK => ?_)
          go_wp2_with fail
          refine hP.mono ?_
          rintro e u' ⟨⟨v, rfl, ho⟩, hb⟩
          go_simp
          exact hK.out _ _ ho (Soft.of hb (Nat.le_trans HN.out hbu.below.size))
        | 20, ho, hF =>
          obtain rfl := Option.some.inj ho
          have h7 : a.tmps[7]? = some (.slice yO kO cO) := (hF.out 7 rfl).trans rfl
          have hx := (HU.out u hbu).2.1
          refine freeR_step rfl (by rfl) (fun K' hK => ?_)
          go_simp
          exact hK.out _ _ hx (Soft.refl _ _)
        | 21, ho, hF =>
          obtain rfl := Option.some.inj ho
          have h2 : a.tmps[2]? = some (.pointer (some ⟨q, 0, none⟩)) := (hF.out 2 rfl).trans rfl
          have g0 := (HU.out u hbu).2.2.1.1
          have g1 := (HU.out u hbu).2.2.1.2.1
          have g2 := (HU.out u hbu).2.2.1.2.2
          refine freeR_step rfl (by rfl) (fun K' hK => ?_)
          go_simp
          exact hK.out _ _ rfl (Soft.refl _ _)
        | 22, ho, hF =>
          obtain rfl := Option.some.inj ho
          obtain ⟨v41, h41, s41⟩ := hF.dep 21 41 rfl rfl
          obtain rfl : v41 = .agg #[.slice x nN cx, .slice y nE cy, .slice z nD cz] := s41
          refine freeR_step rfl (by rfl) (fun K' hK => ?_)
          go_wp2_with fail
          refine (HU.out u hbu).2.2.2.1.mono ?_
          rintro e u' ⟨⟨v, rfl, ho⟩, hb⟩
          go_simp
          exact hK.out _ _ ho (Soft.of hb (Nat.le_trans HN.out hbu.below.size))
        | 23, ho, hF =>
          obtain rfl := Option.some.inj ho
          obtain ⟨v24, h24, s24⟩ := hF.dep 4 24 rfl rfl
          replace s24 : IsBytes u v24 ⟨(putL1 (160, putL1 (2, [2])) : List UInt8).toArray⟩ := s24
          obtain ⟨v27, h27, s27⟩ := hF.dep 7 27 rfl rfl
          replace s27 : IsBytes u v27 ⟨(putL1 (2, [1]) : List UInt8).toArray⟩ := s27
          obtain ⟨v28, h28, s28⟩ := hF.dep 8 28 rfl rfl
          replace s28 : IsBytes u v28 ⟨(G : List UInt8).toArray⟩ := s28
          obtain ⟨v29, h29, s29⟩ := hF.dep 9 29 rfl rfl
          replace s29 : IsBytes u v29 ⟨(O : List UInt8).toArray⟩ := s29
          obtain ⟨v39, h39, s39⟩ := hF.dep 19 39 rfl rfl
          replace s39 : IsBytes u v39 ⟨(putL1 (48, putL1 (23, [48, 48, 48, 49, 48, 49, 48, 48, 48, 48, 48, 48, 90]) ++ putL1 (23, [52, 57, 49, 50, 51, 49, 50, 51, 53, 57, 53, 57, 90])) : List UInt8).toArray⟩ := s39
          obtain ⟨v40, h40, s40⟩ := hF.dep 20 40 rfl rfl
          replace s40 : IsBytes u v40 ⟨(O : List UInt8).toArray⟩ := s40
          obtain ⟨v42, h42, s42⟩ := hF.dep 22 42 rfl rfl
          replace s42 : IsBytes u v42 ⟨(I : List UInt8).toArray⟩ := s42
          obtain ⟨y24, k24, c24, rfl⟩ := isb_open s24
          obtain ⟨y27, k27, c27, rfl⟩ := isb_open s27
          obtain ⟨y28, k28, c28, rfl⟩ := isb_open s28
          obtain ⟨y29, k29, c29, rfl⟩ := isb_open s29
          obtain ⟨y39, k39, c39, rfl⟩ := isb_open s39
          obtain ⟨y40, k40, c40, rfl⟩ := isb_open s40
          obtain ⟨y42, k42, c42, rfl⟩ := isb_open s42
          refine freeR_step rfl (by rfl) (fun K' hK => ?_)
          go_simp
          exact hK.out _ _ (isSl_lit u [(.slice y24 k24 c24, ⟨(putL1 (160, putL1 (2, [2])) : List UInt8).toArray⟩), (.slice y27 k27 c27, ⟨(putL1 (2, [1]) : List UInt8).toArray⟩), (.slice y28 k28 c28, ⟨(G : List UInt8).toArray⟩), (.slice y29 k29 c29, ⟨(O : List UInt8).toArray⟩), (.slice y39 k39 c39, ⟨(putL1 (48, putL1 (23, [48, 48, 48, 49, 48, 49, 48, 48, 48, 48, 48, 48, 90]) ++ putL1 (23, [52, 57, 49, 50, 51, 49, 50, 51, 53, 57, 53, 57, 90])) : List UInt8).toArray⟩), (.slice y40 k40 c40, ⟨(O : List UInt8).toArray⟩), (.slice y42 k42 c42, ⟨(I : List UInt8).toArray⟩)] (allc s24 (allc s27 (allc s28 (allc s29 (allc s39 (allc s40 (allc s42 alln))))))) _ rfl 7 rfl) (Soft.of (alB u _) (Nat.le_trans HN.out hbu.below.size))
        | 24, ho, hF =>
          obtain rfl := Option.some.inj ho
          obtain ⟨v43, h43, s43⟩ := hF.dep 23 43 rfl rfl
          replace s43 : IsSl u v43 [⟨(putL1 (160, putL1 (2, [2])) : List UInt8).toArray⟩, ⟨(putL1 (2, [1]) : List UInt8).toArray⟩, ⟨(G : List UInt8).toArray⟩, ⟨(O : List UInt8).toArray⟩, ⟨(putL1 (48, putL1 (23, [48, 48, 48, 49, 48, 49, 48, 48, 48, 48, 48, 48, 90]) ++ putL1 (23, [52, 57, 49, 50, 51, 49, 50, 51, 53, 57, 53, 57, 90])) : List UInt8).toArray⟩, ⟨(O : List UInt8).toArray⟩, ⟨(I : List UInt8).toArray⟩] := s43
          have hP := dPut_any 48 (tk rfl) v43 _ u s43 (firstL G O I) (by unfold firstL; simp [flatL]) (by simp) (HL.out)
          obtain ⟨y43, k43, c43, rfl⟩ := isl_open s43
          refine freeR_step rfl (by rfl) (fun K' hK => ?_)
          go_wp2_with fail
          refine hP.mono ?_
          rintro e u' ⟨⟨v, rfl, ho⟩, hb⟩
          go_simp
          exact hK.out _ _ ho (Soft.of hb (Nat.le_trans HN.out hbu.below.size))
        | 25, ho, hF =>
          obtain rfl := Option.some.inj ho
          obtain ⟨v44, h44, s44⟩ := hF.dep 24 44 rfl rfl
          replace s44 : IsBytes u v44 ⟨(putL1 (48, firstL G O I) : List UInt8).toArray⟩ := s44
          refine freeR_step rfl (by rfl) (fun K' hK => ?_)
          go_simp
          exact hK.out _ _ s44 (Soft.refl _ _)
        | n + 26, ho, _ => exact absurd (Array.getElem?_eq_some_iff.1 ho).1 (by show ¬ n + 26 < 26; omega)
      · intro vs u hS hbu
        have s25 := hS 25 8 rfl
        simp only [putFrom, Act.put, List.setIfInBounds_toArray, List.set_cons_succ, List.set_cons_zero, Nat.reduceAdd]
        clear hS
        generalize vs 0 = z0
        generalize vs 1 = z1
        generalize vs 2 = z2
        generalize vs 3 = z3
        generalize vs 4 = z4
        generalize vs 5 = z5
        generalize vs 6 = z6
        generalize vs 7 = z7
        generalize vs 8 = z8
        generalize vs 9 = z9
        generalize vs 10 = z10
        generalize vs 11 = z11
        generalize vs 12 = z12
        generalize vs 13 = z13
        generalize vs 14 = z14
        generalize vs 15 = z15
        generalize vs 16 = z16
        generalize vs 17 = z17
        generalize vs 18 = z18
        generalize vs 19 = z19
        generalize vs 20 = z20
        generalize vs 21 = z21
        generalize vs 22 = z22
        generalize vs 23 = z23
        generalize vs 24 = z24
        generalize vs 25 = z25 at *
        replace s25 : IsBytes u z25 ⟨(putL1 (48, firstL G O I) : List UInt8).toArray⟩ := s25
        obtain ⟨y24, k24, c24, rfl⟩ := isb_open s25
        have HW := show Hid (IsBytes u (.slice y24 k24 c24) ⟨(putL1 (48, firstL G O I) : List UInt8).toArray⟩ ∧ IsBytes u (.slice yG kG cG) ⟨(G : List UInt8).toArray⟩ ∧ Below w.heap.size w u) from ⟨s25, (HU.out u hbu).1, (HU.out u hbu).2.2.2.2⟩
        have zfi := HL2
        have zg := HLG
        clear hbu s25 HU HL2 HLG
        obtain ⟨Wa1, hWa1⟩ : ∃ W, u.alloc (.cells #[.int .u8 0] 5) = W := ⟨_, rfl⟩
        have ba1 : Below u.heap.size u Wa1 := by rw [← hWa1]; exact alB _ _
        have ia1 : IsBytes Wa1 (.slice (some ⟨u.heap.size, 0, none⟩) 1 1) ⟨([0] : List UInt8).toArray⟩ := by rw [← hWa1]; exact litM u ⟨#[0]⟩ _ _ rfl (show (1 : Nat) ≤ maxLen by unfold maxLen; decide)
        have HCa2 := show Hid (IsBytes Wa1 (.slice y24 k24 c24) ⟨(putL1 (48, firstL G O I) : List UInt8).toArray⟩ ∧ IsBytes Wa1 (.slice yG kG cG) ⟨(G : List UInt8).toArray⟩ ∧ IsBytes Wa1 (.slice (some ⟨u.heap.size, 0, none⟩) 1 1) ⟨([0] : List UInt8).toArray⟩ ∧ Below w.heap.size w Wa1) from ⟨HW.out.1.later ba1, HW.out.2.1.later ba1, ia1, bl2 HW.out.2.2 ba1⟩
        clear HW
        clear ba1 ia1
        have ybt : Hid (([0] : List UInt8).length ≤ 1) := by show ([0] : List UInt8).length ≤ 1; simp only [List.length_cons, List.length_nil]; omega
        have zbt : Hid ((putL1 (3, [0])).length ≤ 5) := Nat.le_trans (putL1_up (3, [0]) (Nat.lt_of_le_of_lt ybt.out (by decide))) (Nat.add_le_add_right ybt.out 4)
        obtain ⟨Wa4, hWa4⟩ : ∃ W, Wa1.alloc (.cells #[.slice (some ⟨u.heap.size, 0, none⟩) 1 1] 24) = W := ⟨_, rfl⟩
        have ba4 : Below Wa1.heap.size Wa1 Wa4 := by rw [← hWa4]; exact alB _ _
        have ia4 : IsSl Wa4 (.slice (some ⟨Wa1.heap.size, 0, none⟩) 1 1) [⟨([0] : List UInt8).toArray⟩] := by rw [← hWa4]; exact isSl_lit Wa1 [((.slice (some ⟨u.heap.size, 0, none⟩) 1 1 : Value), (⟨([0] : List UInt8).toArray⟩ : ByteArray))] (allc HCa2.out.2.2.1 alln) _ rfl 1 rfl
        have HCa5 := show Hid (IsBytes Wa4 (.slice y24 k24 c24) ⟨(putL1 (48, firstL G O I) : List UInt8).toArray⟩ ∧ IsBytes Wa4 (.slice yG kG cG) ⟨(G : List UInt8).toArray⟩ ∧ IsBytes Wa4 (.slice (some ⟨u.heap.size, 0, none⟩) 1 1) ⟨([0] : List UInt8).toArray⟩ ∧ IsSl Wa4 (.slice (some ⟨Wa1.heap.size, 0, none⟩) 1 1) [⟨([0] : List UInt8).toArray⟩] ∧ Below w.heap.size w Wa4) from ⟨HCa2.out.1.later ba4, HCa2.out.2.1.later ba4, HCa2.out.2.2.1.later ba4, ia4, bl2 HCa2.out.2.2.2 ba4⟩
        clear HCa2
        clear ba4 ia4
        have hca6 := show Calls Try.prog 30 #[.int .u8 3, .slice (some ⟨Wa1.heap.size, 0, none⟩) 1 1] Wa4 (Gives Wa4 (putL1 (3, [0]))) from dPut_any 3 (tk rfl) (.slice (some ⟨Wa1.heap.size, 0, none⟩) 1 1) _ Wa4 HCa5.out.2.2.2.1 ([0]) (by simp [flatL]) (by simp) (Nat.le_trans ybt.out (by decide))
        go_wp2_with fail
        refine hca6.mono ?_
        rintro e wa6 ⟨⟨va6, rfl, ia6⟩, ba6⟩
        clear hca6 hWa1 hWa4
        obtain ⟨ya6, ka6, ca6, rfl⟩ := isb_open ia6
        have HCa7 := show Hid (IsBytes wa6 (.slice y24 k24 c24) ⟨(putL1 (48, firstL G O I) : List UInt8).toArray⟩ ∧ IsBytes wa6 (.slice yG kG cG) ⟨(G : List UInt8).toArray⟩ ∧ IsBytes wa6 (.slice (some ⟨u.heap.size, 0, none⟩) 1 1) ⟨([0] : List UInt8).toArray⟩ ∧ IsSl wa6 (.slice (some ⟨Wa1.heap.size, 0, none⟩) 1 1) [⟨([0] : List UInt8).toArray⟩] ∧ IsBytes wa6 (.slice ya6 ka6 ca6) ⟨(putL1 (3, [0]) : List UInt8).toArray⟩ ∧ Below w.heap.size w wa6) from ⟨HCa5.out.1.later ba6, HCa5.out.2.1.later ba6, HCa5.out.2.2.1.later ba6, HCa5.out.2.2.2.1.later ba6, ia6, bl2 HCa5.out.2.2.2.2 ba6⟩
        clear HCa5
        clear ba6 ia6
        clear ybt
        have yr : Hid ((putL1 (48, firstL G O I) ++ G ++ putL1 (3, [0]) : List UInt8).length ≤ 50024) := by have := zfi.out; have := zg.out; have := zbt.out; show (putL1 (48, firstL G O I) ++ G ++ putL1 (3, [0]) : List UInt8).length ≤ 50024; simp only [List.length_append]; omega
        have zr : Hid ((putL1 (48, putL1 (48, firstL G O I) ++ G ++ putL1 (3, [0]))).length ≤ 50028) := Nat.le_trans (putL1_up (48, putL1 (48, firstL G O I) ++ G ++ putL1 (3, [0])) (Nat.lt_of_le_of_lt yr.out (by decide))) (Nat.add_le_add_right yr.out 4)
        obtain ⟨Wa9, hWa9⟩ : ∃ W, wa6.alloc (.cells #[.slice y24 k24 c24, .slice yG kG cG, .slice ya6 ka6 ca6] 24) = W := ⟨_, rfl⟩
        have ba9 : Below wa6.heap.size wa6 Wa9 := by rw [← hWa9]; exact alB _ _
        have ia9 : IsSl Wa9 (.slice (some ⟨wa6.heap.size, 0, none⟩) 3 3) [⟨(putL1 (48, firstL G O I) : List UInt8).toArray⟩, ⟨(G : List UInt8).toArray⟩, ⟨(putL1 (3, [0]) : List UInt8).toArray⟩] := by rw [← hWa9]; exact isSl_lit wa6 [((.slice y24 k24 c24 : Value), (⟨(putL1 (48, firstL G O I) : List UInt8).toArray⟩ : ByteArray)), ((.slice yG kG cG : Value), (⟨(G : List UInt8).toArray⟩ : ByteArray)), ((.slice ya6 ka6 ca6 : Value), (⟨(putL1 (3, [0]) : List UInt8).toArray⟩ : ByteArray))] (allc HCa7.out.1 (allc HCa7.out.2.1 (allc HCa7.out.2.2.2.2.1 alln))) _ rfl 3 rfl
        have HCa10 := show Hid (IsBytes Wa9 (.slice y24 k24 c24) ⟨(putL1 (48, firstL G O I) : List UInt8).toArray⟩ ∧ IsBytes Wa9 (.slice yG kG cG) ⟨(G : List UInt8).toArray⟩ ∧ IsBytes Wa9 (.slice (some ⟨u.heap.size, 0, none⟩) 1 1) ⟨([0] : List UInt8).toArray⟩ ∧ IsBytes Wa9 (.slice ya6 ka6 ca6) ⟨(putL1 (3, [0]) : List UInt8).toArray⟩ ∧ IsSl Wa9 (.slice (some ⟨wa6.heap.size, 0, none⟩) 3 3) [⟨(putL1 (48, firstL G O I) : List UInt8).toArray⟩, ⟨(G : List UInt8).toArray⟩, ⟨(putL1 (3, [0]) : List UInt8).toArray⟩] ∧ Below w.heap.size w Wa9) from ⟨HCa7.out.1.later ba9, HCa7.out.2.1.later ba9, HCa7.out.2.2.1.later ba9, HCa7.out.2.2.2.2.1.later ba9, ia9, bl2 HCa7.out.2.2.2.2.2 ba9⟩
        clear HCa7
        clear ba9 ia9
        have hca11 := show Calls Try.prog 30 #[.int .u8 48, .slice (some ⟨wa6.heap.size, 0, none⟩) 3 3] Wa9 (Gives Wa9 (putL1 (48, putL1 (48, firstL G O I) ++ G ++ putL1 (3, [0])))) from dPut_any 48 (tk rfl) (.slice (some ⟨wa6.heap.size, 0, none⟩) 3 3) _ Wa9 HCa10.out.2.2.2.2.1 (putL1 (48, firstL G O I) ++ G ++ putL1 (3, [0])) (by simp [flatL]) (by simp) (Nat.le_trans yr.out (by decide))
        go_wp2_with fail
        refine hca11.mono ?_
        rintro e wa11 ⟨⟨va11, rfl, ia11⟩, ba11⟩
        clear hca11 hWa9
        obtain ⟨ya11, ka11, ca11, rfl⟩ := isb_open ia11
        have HCa12 := show Hid (IsBytes wa11 (.slice y24 k24 c24) ⟨(putL1 (48, firstL G O I) : List UInt8).toArray⟩ ∧ IsBytes wa11 (.slice yG kG cG) ⟨(G : List UInt8).toArray⟩ ∧ IsBytes wa11 (.slice (some ⟨u.heap.size, 0, none⟩) 1 1) ⟨([0] : List UInt8).toArray⟩ ∧ IsBytes wa11 (.slice ya6 ka6 ca6) ⟨(putL1 (3, [0]) : List UInt8).toArray⟩ ∧ IsSl wa11 (.slice (some ⟨wa6.heap.size, 0, none⟩) 3 3) [⟨(putL1 (48, firstL G O I) : List UInt8).toArray⟩, ⟨(G : List UInt8).toArray⟩, ⟨(putL1 (3, [0]) : List UInt8).toArray⟩] ∧ IsBytes wa11 (.slice ya11 ka11 ca11) ⟨(putL1 (48, putL1 (48, firstL G O I) ++ G ++ putL1 (3, [0])) : List UInt8).toArray⟩ ∧ Below w.heap.size w wa11) from ⟨HCa10.out.1.later ba11, HCa10.out.2.1.later ba11, HCa10.out.2.2.1.later ba11, HCa10.out.2.2.2.1.later ba11, HCa10.out.2.2.2.2.1.later ba11, ia11, bl2 HCa10.out.2.2.2.2.2 ba11⟩
        clear HCa10
        clear ba11 ia11
        clear yr
        go_wp2_with fail
        go_ret2
        exact ⟨.inl ⟨HP.out.1, HP.out.2, _, rfl, by unfold certOf; rw [HAB.out.1, HAB.out.2.1, HAB.out.2.2]; exact HCa12.out.2.2.2.2.2.1⟩, HCa12.out.2.2.2.2.2.2⟩
    · have hi : (200 : Int) < (s.size : Int) := by omega
      have HP := show Hid (¬ (rightP sN.data.toList sE.data.toList sD.data.toList ∧ s.size ≤ 200)) from fun h => h2 h.2
      clear hK hN hE hD hp h2
      go_enter Try.func12, Try.ntmps12
      go_wp2_with fail
      refine hR.mono ?_
      rintro e w1 ⟨rfl, b1⟩
      have HF := show Hid (Below w.heap.size w w1) from bl2 HK.out.below b1
      clear hR b1 hW1
      go_wp2_with fail
      go_ret2
      exact ⟨.inr ⟨HP.out, rfl⟩, HF.out⟩
  · rw [decide_eq_false hp] at hR
    have HP := show Hid (¬ (rightP sN.data.toList sE.data.toList sD.data.toList ∧ s.size ≤ 200)) from fun h => hp h.1
    clear hK hN hE hD hp
    go_enter Try.func12, Try.ntmps12
    go_wp2_with fail
    refine hR.mono ?_
    rintro e w1 ⟨rfl, b1⟩
    have HF := show Hid (Below w.heap.size w w1) from bl2 HK.out.below b1
    clear hR b1 hW1
    go_wp2_with fail
    go_ret2
    exact ⟨.inr ⟨HP.out, rfl⟩, HF.out⟩
end Go.Proofs.Ythdoginhbhdmbaa
