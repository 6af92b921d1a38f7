/-
  The document's Stretch, walked.
-/
import Derived.Test.YtgehgcnaoapbbaaDoorVStrR
namespace Go.Proofs.YtgehgcnaoapbbaaDoor
open Go.RowKit Ch
set_option maxRecDepth 100000

def natL (l : List UInt8) : List Nat := l.map (·.toNat)
theorem natL_length (l : List UInt8) : (natL l).length = l.length := by simp [natL]
theorem cells_nat (l : List UInt8) : Lib.byteCells l = kc .u8 (natL l) := by simp [kc, natL, Lib.byteCells]
theorem natL_lt {l : List UInt8} {i n : Nat} (h : (natL l)[i]? = some n) : n < 256 := by
  simp only [natL, List.getElem?_map, Option.map_eq_some_iff] at h
  obtain ⟨c, _, rfl⟩ := h
  exact c.toNat_lt
/-- The first j of a block, xored. -/
def xjN (A V : List Nat) (j : Nat) : List Nat := (List.zipWith (· ^^^ ·) A V).take j ++ A.drop j
theorem xjN_at {A V : List Nat} {j : Nat} (hA : A.length = 32) (hV : V.length = 32) (hj : j < 32) : (xjN A V j)[j]? = A[j]? := by
  unfold xjN
  rw [List.getElem?_append_right (by simp [hA, hV]; omega)]
  simp [hA, hV, Nat.min_eq_left (Nat.le_of_lt hj)]
theorem xjN_set {A V : List Nat} {j a v : Nat} (hA : A.length = 32) (hV : V.length = 32) (hj : j < 32) (ha : A[j]? = some a) (hv : V[j]? = some v) : (xjN A V j).set j (a ^^^ v) = xjN A V (j + 1) := by
  unfold xjN
  have hz : (List.zipWith (· ^^^ ·) A V)[j]? = some (a ^^^ v) := by rw [List.getElem?_zipWith, ha, hv]
  have hl : ((List.zipWith (· ^^^ ·) A V).take j).length = j := by simp [hA, hV]; omega
  rw [List.set_append_right _ _ (by omega), hl, Nat.sub_self, List.take_add_one, hz]
  have hd : A.drop j = a :: A.drop (j + 1) := by
    obtain ⟨h1, h2⟩ := List.getElem?_eq_some_iff.1 ha
    rw [List.drop_eq_getElem_cons h1, h2]
  rw [hd]
  simp
theorem xjN_zero (A V : List Nat) : xjN A V 0 = A := by simp [xjN]
theorem xjN_all {A V : List UInt8} (hA : A.length = 32) (hV : V.length = 32) : xjN (natL A) (natL V) 32 = natL (xorB A V) := by
  unfold xjN
  rw [List.drop_of_length_le (by rw [natL_length]; omega), List.append_nil, List.take_of_length_le (by simp [natL, hA, hV])]
  unfold natL xorB
  rw [List.zipWith_map, List.map_zipWith]
  congr 1
theorem seg_strL (m1 m2 T : List UInt8) (rounds n k : Nat) (hk : k ≤ 32 * n) (hn : n ≤ 2) : seg ⟨(strL m1 m2 T rounds n).toArray⟩ 0 k = (strL m1 m2 T rounds 2).take k := by
  have := strL_take m1 m2 T rounds n k hk [] hn
  rw [List.append_nil] at this
  rw [← this]
  simp [seg]
theorem size_list (l : List UInt8) : (⟨l.toArray⟩ : ByteArray).size = l.length := by rw [← len_eq]
theorem isBytes_at {w : World} {b c n : Nat} {l : List UInt8} (h : IsBytes w (.slice (some ⟨b, 0, none⟩) n c) ⟨l.toArray⟩) (hn : l.length = n) {j v : Nat} (hv : (natL l)[j]? = some v) : w.cell? ⟨b, 0 + j, none⟩ = some (.int .u8 (v : Int)) := by
  have hz : (⟨l.toArray⟩ : ByteArray).size = n := by rw [size_list, hn]
  have hj : j < n := by
    have := (List.getElem?_eq_some_iff.1 hv).1
    rw [natL_length] at this
    omega
  rw [← hz] at h
  obtain ⟨b', o', he, _, hc⟩ := IsBytes.cellAt (i := j) h (by rw [hz]; exact hj)
  simp only [Option.some.injEq, Addr.mk.injEq, and_true] at he
  obtain ⟨rfl, rfl⟩ := he
  rw [hc, byte_list, List.toList_toArray]
  simp only [natL, List.getElem?_map, Option.map_eq_some_iff] at hv
  obtain ⟨c', hc', rfl⟩ := hv
  rw [hc']
  rfl
theorem isBytes_grown {w w' : World} {b c n : Nat} {s : ByteArray} {g : Nat} (h : IsBytes w (.slice (some ⟨b, 0, none⟩) n c) s) (hg : w.drew.grownBy w' (some g)) (hne : g ≠ b) : IsBytes w' (.slice (some ⟨b, 0, none⟩) n c) s := by
  obtain ⟨a, cap, hv, hc, hm, hr⟩ := h
  refine ⟨a, cap, hv, hc, hm, ?_⟩
  simp only [Value.slice.injEq] at hv
  obtain ⟨rfl, _, _⟩ := hv
  rcases hr with ⟨h1, _⟩ | ⟨x, h1, h2⟩
  · cases h1
  · obtain rfl := Option.some.inj h1
    refine .inr ⟨_, rfl, ?_⟩
    rcases h2 with h2 | ⟨b', o', h2, h3, h4⟩
    · exact .inl h2
    · refine .inr ⟨b', o', h2, Nat.lt_of_lt_of_le h3 hg.size, fun i hi => ?_⟩
      simp only [Addr.mk.injEq, and_true] at h2
      obtain ⟨rfl, rfl⟩ := h2
      exact hg.cell (h4 i hi) (by intro h; exact hne (Option.some.inj h).symm)
set_option maxHeartbeats 8000000 in
theorem vStretch_any (au av x y : Option Addr) (cu cv cx cy : Nat) (k t : ByteArray) (rounds size : Nat) (w : World) (hU : IsN .u32 w (.slice au 8 cu) beginS.l) (hV : IsN .u32 w (.slice av 64 cv) roundK) (hKB : IsBytes w (.slice x k.size cx) k) (hT : IsBytes w (.slice y t.size cy) t) (hk : k.size ≤ 100000) (ht : t.size ≤ 10000) (hr1 : 1 ≤ rounds) (hr2 : rounds ≤ 100000) (hz1 : 1 ≤ size) (hz2 : size ≤ 64) :
    Calls Tryd.prog 16 #[.agg #[.slice au 8 cu, .slice av 64 cv], .slice x k.size cx, .slice y t.size cy, .int .i64 (rounds : Int), .int .i64 (size : Int)] w fun e w' => (∃ v, e = .returned v ∧ IsBytes w' v ⟨(stretchL k.data.toList t.data.toList rounds size).toArray⟩) ∧ Below w.heap.size w w' := by
  have hb0 : Below w.heap.size w (w.alloc (.cells #[.slice au 8 cu, .slice av 64 cv] 30)) := (Below.refl _ w).alloc (Nat.le_refl _) _
  have hNb := heap_push_at w (.cells #[.slice au 8 cu, .slice av 64 cv] 30)
  have hz0 : (w.alloc (.cells #[.slice au 8 cu, .slice av 64 cv] 30)).heap.size = w.heap.size + 1 := by simp
  have hK0 := hKB.later hb0
  have hT0 := hT.later hb0
  have hU0 := hU.later hb0
  have hV0 := hV.later hb0
  generalize hW0 : w.alloc (.cells #[.slice au 8 cu, .slice av 64 cv] 30) = W0 at *
  have gb0 := block_cell 0 hNb rfl
  have gb1 := block_cell 1 hNb rfl
  obtain ⟨m1, hm1⟩ : ∃ m1, padK (keyB k.data.toList) 54 = m1 := ⟨_, rfl⟩
  obtain ⟨m2, hm2⟩ : ∃ m2, padK (keyB k.data.toList) 92 = m2 := ⟨_, rfl⟩
  have HST := show Hid (stretchL k.data.toList t.data.toList rounds size = (strL m1 m2 t.data.toList rounds 2).take size) from by unfold Hid stretchL; rw [hm1, hm2]
  have HMAC := show Hid (∀ (u : World) (z : Option Addr) (c n : Nat) (s : ByteArray), Below W0.heap.size W0 u → s.size = n → n ≤ 20000 → IsBytes u (.slice z n c) s → Calls Tryd.prog 14 #[.agg #[.slice au 8 cu, .slice av 64 cv], .slice x k.size cx, .slice z n c] u fun e w' => (∃ ub c, e = .returned (.slice (some ⟨ub, 0, none⟩) 32 c) ∧ u.heap.size ≤ ub ∧ IsBytes w' (.slice (some ⟨ub, 0, none⟩) 32 c) ⟨(macK m1 m2 s.data.toList).toArray⟩) ∧ Below u.heap.size u w') from by
    intro u z c n s hbu hsn hn hs
    subst hsn
    refine (vMac_any au av x z cu cv cx c k s u (hU0.later hbu) (hV0.later hbu) (hK0.later hbu) hs hk (by omega)).mono ?_
    rintro e w' ⟨⟨a, c', rfl, ho⟩, hb⟩
    have hmk : hmacL k.data.toList s.data.toList = macK m1 m2 s.data.toList := by unfold hmacL macK; rw [hm1, hm2]
    rw [hmk] at ho
    obtain ⟨g, cg, he, _, hge, _⟩ := own_set ho (i := 0) (by decide)
    rw [he] at ho
    refine ⟨⟨g, cg, by rw [he], hge, ?_⟩, hb⟩
    have hl : (macK m1 m2 s.data.toList).length = 32 := shaL_length _
    exact own_text' (by rw [hl]; exact ho)
  have HBX := show Hid (∀ u, Below W0.heap.size W0 u → u.cell? ⟨w.heap.size, 0, none⟩ = some (.slice au 8 cu) ∧ u.cell? ⟨w.heap.size, 1, none⟩ = some (.slice av 64 cv) ∧ IsBytes u (.slice y t.size cy) t) from fun u hbu => ⟨(hbu.cell (p := ⟨w.heap.size, 0, none⟩) (show w.heap.size < W0.heap.size by omega)).trans gb0, (hbu.cell (p := ⟨w.heap.size, 1, none⟩) (show w.heap.size < W0.heap.size by omega)).trans gb1, hT0.later hbu⟩
  have HBW := show Hid (Below w.heap.size w W0) from hb0
  clear hU hV hKB hT hK0 hT0 hU0 hV0 hNb hm1 hm2
  go_enter Tryd.func16, Tryd.ntmps16
  go_wp2_with fail
  clear hb0 gb0 gb1 hW0
  go_loopw [11, 12] (fun p q wr => ∃ n num : Nat, Hid (num = n + 1 ∧ n ≤ 2) ∧ num ≤ 3 ∧ q = .int .i64 (num : Int) ∧ wr.ownsRow W0.heap.size 5 1 p (strL m1 m2 t.data.toList rounds n).length (Lib.byteCells (strL m1 m2 t.data.toList rounds n)) ∧ Below W0.heap.size W0 wr) (fun _ q _ => 3 - (intOf q).toNat)
  case atStart => exact ⟨0, 1, ⟨rfl, by omega⟩, by omega, rfl, ⟨rfl, .inl ⟨rfl, rfl⟩⟩, Below.refl _ _⟩
  case round =>
    obtain ⟨n, num, hn, hnum, rfl, hO, hb⟩ := hrel
    obtain ⟨ln, hln⟩ : ∃ ln, (strL m1 m2 t.data.toList rounds n).length = ln := ⟨_, rfl⟩
    have HLN := show Hid ((strL m1 m2 t.data.toList rounds n).length = ln ∧ ln = 32 * n) from ⟨hln, by rw [← hln, strL_length]⟩
    rw [hln] at hO
    clear hln
    by_cases hlt : ln < size
    · have hlt2 : (ln : Int) < (size : Int) := by omega
      have hnlt : Hid (n < 2) := by have := HLN.out; unfold Hid; omega
      obtain ⟨yo, co, rfl⟩ := own_shape hO
      obtain ⟨M, hM⟩ : ∃ M : ByteArray, M = ⟨(t.data.toList ++ wordB num).toArray⟩ := ⟨_, rfl⟩
      have HM := show Hid (M.data.toList = t.data.toList ++ wordB num) from by unfold Hid; rw [hM]
      have hMz : M.size = t.size + 4 := by rw [hM, size_list, List.length_append, len_eq]; rfl
      obtain ⟨U0, hU0⟩ : ∃ U0, macK m1 m2 (t.data.toList ++ wordB num) = U0 := ⟨_, rfl⟩
      have HU0 := show Hid (macK m1 m2 (t.data.toList ++ wordB num) = U0 ∧ U0.length = 32) from ⟨hU0, by rw [← hU0]; exact shaL_length _⟩
      clear hM hU0
      have hnum2 : num < 256 := by omega
      have hbd : Below W0.heap.size W0 wr.drew := hb.drew
      have HMZ := show Hid (M.size = t.size + 4) from hMz
      clear hMz
      go_wp2_with fail
      refine semSaR au av x y cu cv cx cy num wr.drew.heap.size k t M ⟨U0.toArray⟩ w.heap.size rfl rfl rfl rfl rfl rfl hnum2 ht HM (fun u hbu => HBX.out u (hbd.trans (hbu.mono hbd.size))) (fun u z c hbu hI => (HMAC.out u z c M.size M (hbd.trans (hbu.mono hbd.size)) rfl (by have := HMZ.out; omega) hI).mono (by
        rintro e w' ⟨⟨ub, c', rfl, _, hI⟩, hb'⟩
        rw [HM.out, HU0.out.1] at hI
        exact ⟨⟨_, _, rfl, hI⟩, hb'⟩)) ?_
      intro vs u hS hbu
      have s10 := hS 10 13 rfl rfl
      obtain ⟨yu, cyu, e10, hIU⟩ := s10
      unfold semSaO
      simp only [putFrom, Act.put, List.setIfInBounds_toArray, List.set_cons_succ, List.set_cons_zero, Nat.reduceAdd]
      rw [e10] at hIU ⊢
      clear hS e10
      generalize vs 0 = qq0
      generalize vs 1 = qq1
      generalize vs 2 = qq2
      generalize vs 3 = qq3
      generalize vs 4 = qq4
      generalize vs 5 = qq5
      generalize vs 6 = qq6
      generalize vs 7 = qq7
      generalize vs 8 = qq8
      generalize vs 9 = qq9
      have hbW : Below W0.heap.size W0 u := hbd.trans (hbu.mono hbd.size)
      have hOu := ownsRow_later (ownsRow_later hO ((Below.refl wr.heap.size wr).drew)) hbu
      have HO := show Hid (u.ownsRow W0.heap.size 5 1 (.slice yo ln co) ln (Lib.byteCells (strL m1 m2 t.data.toList rounds n))) from hOu
      clear hO hOu hb hbd hbu
      have hoe := own_empty u u.heap.size (Nat.le_refl _)
      have hIUa := hIU.alloc (.cells #[] 5)
      have hU0z : (⟨U0.toArray⟩ : ByteArray).size = 32 := by rw [size_list, HU0.out.2]
      have hsz : ByteArray.empty.size + (⟨U0.toArray⟩ : ByteArray).size ≤ 1000000 := by rw [hU0z]; decide
      clear hU0z
      go_wp2_with (at_builtin; go_must (refine wpList_append_bytes rfl _ _ rfl u.heap.size _ ByteArray.empty rfl hoe _ ⟨U0.toArray⟩ rfl hIUa hsz (by simp) ?_; intro v4 w4 ho4 hb4))
      rw [cat_empty, size_list, HU0.out.2] at ho4
      have ho4' : w4.ownsRow u.heap.size 5 1 v4 32 (Lib.byteCells U0) := ho4
      obtain ⟨g, cg, rfl, _, hgu, hg4, _⟩ := own_set ho4' (i := 0) (by decide)
      have hb4u : Below u.heap.size u w4 := ((Below.refl _ u).alloc (Nat.le_refl _) _).trans hb4
      have hIU4 := hIU.later hb4u
      have HU4 := show Hid (Below u.heap.size u w4) from hb4u
      clear ho4 hIU hoe hIUa hsz hb4 hb4u
      go_loopw [13, 15] (fun p r wi => ∃ (q rn : Nat), Hid (rn = q + 1) ∧ rn ≤ rounds ∧ r = .int .i64 (rn : Int) ∧ (∃ yu cyu, p = .slice yu 32 cyu ∧ IsBytes wi (.slice yu 32 cyu) ⟨(itU m1 m2 U0 q).toArray⟩) ∧ wi.ownsRow u.heap.size 5 1 (.slice (some ⟨g, 0, none⟩) 32 cg) 32 (Lib.byteCells (itA m1 m2 U0 q)) ∧ Below u.heap.size u wi ∧ g < wi.heap.size) (fun _ r _ => rounds - (intOf r).toNat)
      case atStart => exact ⟨0, 1, rfl, hr1, rfl, ⟨_, _, rfl, hIU4⟩, ho4', HU4.out, hg4⟩
      case round =>
        obtain ⟨q, rn, hrn, hrnl, rfl, ⟨yu, cyu, rfl, hIp⟩, hX, hbi, hgl⟩ := hrel
        obtain ⟨wi, hwi⟩ : ∃ wi, wi = wr := ⟨_, rfl⟩
        subst hwi
        by_cases hrl : rn < rounds
        · have hrl2 : (rn : Int) < (rounds : Int) := by omega
          have hbWi : Below W0.heap.size W0 wi := hbW.trans (hbi.mono hbW.size)
          obtain ⟨gc0, gc1, _⟩ := HBX.out wi hbWi
          have hUq : (⟨(itU m1 m2 U0 q).toArray⟩ : ByteArray).size = 32 := by rw [size_list]; exact itU_length HU0.out.2 q
          have hMq := HMAC.out wi yu cyu 32 _ hbWi hUq (by omega) hIp
          have hmq : macK m1 m2 (⟨(itU m1 m2 U0 q).toArray⟩ : ByteArray).data.toList = itU m1 m2 U0 rn := by rw [hrn.out]; rfl
          rw [hmq] at hMq
          clear hmq hUq
          go_wp2_with fail
          refine hMq.mono ?_
          rintro e w5 ⟨⟨ub, cb, rfl, hub, hIV⟩, hb5⟩
          clear hMq
          obtain ⟨V, hVe⟩ : ∃ V, itU m1 m2 U0 rn = V := ⟨_, rfl⟩
          obtain ⟨Aq, hAe⟩ : ∃ Aq, itA m1 m2 U0 q = Aq := ⟨_, rfl⟩
          have HVA := show Hid (V.length = 32 ∧ Aq.length = 32 ∧ itA m1 m2 U0 rn = xorB Aq V ∧ itU m1 m2 U0 rn = V) from ⟨by rw [← hVe]; exact itU_length HU0.out.2 _, by rw [← hAe]; exact itA_length HU0.out.2 _, by rw [← hVe, ← hAe, hrn.out]; rfl, hVe⟩
          rw [hVe] at hIV
          rw [hAe] at hX
          have hX5 := ownsRow_later hX hb5
          have hb5u : Below u.heap.size u w5 := hbi.trans (hb5.mono hbi.size)
          have hgub : Hid (g ≠ ub) := by unfold Hid; omega
          have hg5 : g < w5.heap.size := Nat.lt_of_lt_of_le hgl hb5.size
          have hA0 : (xjN (natL Aq) (natL V) 0).length = 32 := by rw [xjN_zero, natL_length]; exact HVA.out.2.1
          have hX0 : w5.ownsRow u.heap.size 5 1 (.slice (some ⟨g, 0, none⟩) 32 cg) (xjN (natL Aq) (natL V) 0).length (kc .u8 (xjN (natL Aq) (natL V) 0)) := by rw [hA0, xjN_zero, ← cells_nat]; exact hX5
          clear hVe hAe hX hX5 hA0 hb5 hIp gc0 gc1 hgl hbi
          go_wp2_with fail
          go_loopw [16] (fun jv wj => ∃ j : Nat, j ≤ 32 ∧ jv = .int .i64 (j : Int) ∧ Hid (wj.ownsRow u.heap.size 5 1 (.slice (some ⟨g, 0, none⟩) 32 cg) (xjN (natL Aq) (natL V) j).length (kc .u8 (xjN (natL Aq) (natL V) j))) ∧ IsBytes wj (.slice (some ⟨ub, 0, none⟩) 32 cb) ⟨V.toArray⟩ ∧ Below u.heap.size u wj ∧ g < wj.heap.size) (fun jv _ => 32 - (intOf jv).toNat)
          case atStart => exact ⟨0, by omega, rfl, hX0, hIV, hb5u, hg5⟩
          case round =>
            obtain ⟨j, hj, rfl, hXj, hIj, hbj, hgj⟩ := hrel
            obtain ⟨wj, hwj⟩ : ∃ wj, wj = wr := ⟨_, rfl⟩
            subst hwj
            by_cases hjl : j < 32
            · have hjl2 : (j : Int) < 32 := by omega
              obtain ⟨Xj, hXe⟩ : ∃ Xj, (natL Aq)[j]? = some Xj := ⟨_, List.getElem?_eq_getElem (by rw [natL_length, HVA.out.2.1]; exact hjl)⟩
              obtain ⟨Uj, hUe⟩ : ∃ Uj, (natL V)[j]? = some Uj := ⟨_, List.getElem?_eq_getElem (by rw [natL_length, HVA.out.1]; exact hjl)⟩
              have hx8 : bits .xor .u8 (Xj : Int) (Uj : Int) = ((Xj ^^^ Uj : Nat) : Int) := xor8 Xj Uj (natL_lt hXe) (natL_lt hUe)
              have hLj : (xjN (natL Aq) (natL V) j)[j]? = some Xj := by rw [xjN_at (by rw [natL_length]; exact HVA.out.2.1) (by rw [natL_length]; exact HVA.out.1) hjl]; exact hXe
              have HXS := show Hid ((xjN (natL Aq) (natL V) j).set j (Xj ^^^ Uj) = xjN (natL Aq) (natL V) (j + 1)) from xjN_set (by rw [natL_length]; exact HVA.out.2.1) (by rw [natL_length]; exact HVA.out.1) hjl hXe hUe
              have HIJ := show Hid (IsBytes wj (.slice (some ⟨ub, 0, none⟩) 32 cb) ⟨V.toArray⟩) from hIj
              have hUc : wj.cell? ⟨ub, 0 + j, none⟩ = some (.int .u8 (Uj : Int)) := isBytes_at hIj HVA.out.1 hUe
              have HUC := show Hid (wj.cell? ⟨ub, 0 + j, none⟩ = some (.int .u8 (Uj : Int))) from hUc
              clear hIj hUc hXe hUe
              go_wp2_with fail
              refine semSbR Xj Uj (Xj ^^^ Uj) j g cg ub 0 cb u.heap.size (xjN (natL Aq) (natL V) j) rfl rfl rfl rfl hjl2 (ownsRow_later hXj.out ((Below.refl wj.heap.size wj).drew)) hLj (fun u' hg => hg.cell HUC.out (by intro h; exact hgub.out (Option.some.inj h).symm)) hx8 ?_
              intro vs u' hS hgr hZ
              unfold semSbO
              simp only [putFrom, Act.put, List.setIfInBounds_toArray, List.set_cons_succ, List.set_cons_zero, Nat.reduceAdd]
              clear hS
              generalize vs 0 = pp0
              generalize vs 1 = pp1
              generalize vs 2 = pp2
              generalize vs 3 = pp3
              generalize vs 4 = pp4
              generalize vs 5 = pp5
              generalize vs 6 = pp6
              generalize vs 7 = pp7
              generalize vs 8 = pp8
              generalize vs 9 = pp9
              generalize vs 10 = pp10
              generalize vs 11 = pp11
              have HZ := show Hid (u'.ownsRow u.heap.size 5 1 (.slice (some ⟨g, 0, none⟩) 32 cg) (xjN (natL Aq) (natL V) (j + 1)).length (kc .u8 (xjN (natL Aq) (natL V) (j + 1)))) from by
                obtain ⟨v', h1, _⟩ := hZ
                unfold Hid
                rw [← HXS.out]
                exact h1
              have HIU' := show Hid (IsBytes u' (.slice (some ⟨ub, 0, none⟩) 32 cb) ⟨V.toArray⟩) from isBytes_grown HIJ.out hgr (by intro h; exact hgub.out h)
              have HBJ := show Hid (Below u.heap.size u u') from (hbj.drew).grown hgr hbj.drew.size (fun k hk => by obtain rfl : g = k := Option.some.inj hk; exact hgu)
              have HGJ := show Hid (g < u'.heap.size) from Nat.lt_of_lt_of_le hgj hgr.size
              clear hZ hgr hXj hLj hx8 hbj hgj
              go_wp2_with fail
              go_roundw
              case rel => exact ⟨j + 1, by omega, by go_num, HZ.out, HIU'.out, HBJ.out, HGJ.out⟩
              case measure => simp [intOf]; omega
            · have hjl2 : ¬ (j : Int) < 32 := by omega
              obtain rfl : j = 32 := by omega
              have HX9 := show Hid (wj.ownsRow u.heap.size 5 1 (.slice (some ⟨g, 0, none⟩) 32 cg) 32 (Lib.byteCells (itA m1 m2 U0 rn))) from by
                unfold Hid
                have := hXj.out
                rw [xjN_all HVA.out.2.1 HVA.out.1, natL_length, ← HVA.out.2.2.1, itA_length HU0.out.2, ← cells_nat] at this
                exact this
              clear hXj
              go_wp2_with fail
              go_roundw
              case rel => exact ⟨rn, rn + 1, rfl, by omega, by go_num, ⟨_, _, rfl, by rw [HVA.out.2.2.2]; exact hIj⟩, HX9.out, hbj, hgj⟩
              case measure => simp [intOf]; omega
        · have hrl2 : ¬ (rn : Int) < (rounds : Int) := by omega
          have HQ := show Hid (q = rounds - 1) from by have := hrn.out; unfold Hid; omega
          have hXB : IsBytes wi (.slice (some ⟨g, 0, none⟩) 32 cg) ⟨(itA m1 m2 U0 q).toArray⟩ := by
            refine own_text' (base := u.heap.size) ?_
            rw [itA_length HU0.out.2]
            exact hX
          have hOi : wi.ownsRow W0.heap.size 5 1 (.slice yo ln co) (⟨(strL m1 m2 t.data.toList rounds n).toArray⟩ : ByteArray).size (byteVals ⟨(strL m1 m2 t.data.toList rounds n).toArray⟩) := by
            rw [size_list, HLN.out.1]
            exact ownsRow_later HO.out hbi
          have hsz9 : (⟨(strL m1 m2 t.data.toList rounds n).toArray⟩ : ByteArray).size + (⟨(itA m1 m2 U0 q).toArray⟩ : ByteArray).size ≤ 1000000 := by
            rw [size_list, size_list, HLN.out.1, itA_length HU0.out.2]
            omega
          have hbWi : Below W0.heap.size W0 wi := hbW.trans (hbi.mono hbW.size)
          have hszW := hbWi.size
          clear hX hIp
          go_wp2_with (at_builtin; go_must (refine wpList_append_bytes rfl _ _ rfl W0.heap.size _ _ rfl hOi _ _ rfl hXB hsz9 hszW ?_; intro v9 w9 ho9 hb9))
          have HB9 := show Hid (Below W0.heap.size W0 w9) from hbWi.trans hb9
          have HO9 := show Hid (w9.ownsRow W0.heap.size 5 1 v9 (strL m1 m2 t.data.toList rounds (n + 1)).length (Lib.byteCells (strL m1 m2 t.data.toList rounds (n + 1)))) from by
            have e : cat ⟨(strL m1 m2 t.data.toList rounds n).toArray⟩ ⟨(itA m1 m2 U0 q).toArray⟩ = ⟨(strL m1 m2 t.data.toList rounds (n + 1)).toArray⟩ := by
              have h1 : strL m1 m2 t.data.toList rounds (n + 1) = strL m1 m2 t.data.toList rounds n ++ itA m1 m2 U0 q := by
                rw [HQ.out, ← HU0.out.1, hn.out.1]; rfl
              rw [h1]
              simp [cat]
            rw [e, size_list] at ho9
            exact ho9
          clear hb9 ho9 hXB hOi
          go_wp2_with fail
          go_roundw
          case rel => exact ⟨n + 1, num + 1, ⟨by have := hn.out; omega, by have := hnlt.out; omega⟩, by have := hn.out; have := hnlt.out; omega, by go_num, HO9.out, HB9.out⟩
          case measure => simp [intOf]; have := hn.out; have := hnlt.out; omega
    · have hlt2 : ¬ (ln : Int) < (size : Int) := by omega
      obtain ⟨g, cg, rfl, hcg, _, _⟩ := own_set hO (i := 0) (by omega)
      have hIS : IsBytes wr (.slice (some ⟨g, 0, none⟩) ln cg) ⟨(strL m1 m2 t.data.toList rounds n).toArray⟩ := own_text' (base := W0.heap.size) (by rw [HLN.out.1]; exact hO)
      have HRE := show Hid (IsBytes wr (.slice (some ⟨g, 0, none⟩) size cg) ⟨(stretchL k.data.toList t.data.toList rounds size).toArray⟩) from by
        have h1 := HLN.out
        have h2 : (⟨(strL m1 m2 t.data.toList rounds n).toArray⟩ : ByteArray).size = ln := by rw [size_list, h1.1]
        rw [← h2] at hIS
        have h3 := IsBytes.head (k := size) hIS (by omega)
        rw [seg_strL _ _ _ _ _ _ (by omega) hn.out.2, ← HST.out] at h3
        exact h3
      have hsc : (size : Int) ≤ (cg : Int) := by omega
      have hsc2 : size ≤ cg := by omega
      clear hIS hO
      go_wp2_with fail
      go_ret
      exact ⟨⟨_, rfl, HRE.out⟩, HBW.out.trans (hb.mono HBW.out.size)⟩
end Go.Proofs.YtgehgcnaoapbbaaDoor
