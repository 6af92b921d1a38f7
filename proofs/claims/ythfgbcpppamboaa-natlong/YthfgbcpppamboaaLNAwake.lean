/-
  Layer 6's laws: awake.
-/
import Derived.Test.YthfgbcpppamboaaLNSame
namespace Go.Proofs.Ythfgbcpppamboaa
open Go.RowKit Ch
set_option maxRecDepth 100000

theorem litB (w : World) (s : ByteArray) (C : Array Value) (hC : C.toList = byteVals s) (hn : s.size ≤ maxLen) : IsBytes (w.alloc (.cells C 5)) (.slice (some ⟨w.heap.size, 0, none⟩) s.size s.size) s := by
  refine ⟨some ⟨w.heap.size, 0, none⟩, s.size, rfl, Nat.le_refl _, hn, .inr ⟨_, rfl, .inr ⟨w.heap.size, 0, rfl, by simp, ?_⟩⟩⟩
  intro i hi
  rw [Nat.zero_add] at hi
  have e1 : (byteVals s)[i]? = some (.int .u8 (byte s i : Int)) := by
    unfold byteVals
    rw [List.getElem?_map, list_at s i hi, byte_eq s i hi]
    rfl
  rw [← hC, Array.getElem?_toList] at e1
  rw [Nat.zero_add]
  exact block_cell _ (heap_push_at w _) e1
theorem lit1 (w : World) (x : UInt8) : IsBytes (w.alloc (.cells #[.int .u8 (x.toNat : Int)] 5)) (.slice (some ⟨w.heap.size, 0, none⟩) 1 1) ⟨#[x]⟩ := litB w ⟨#[x]⟩ _ rfl (show (1 : Nat) ≤ maxLen by unfold maxLen; decide)
theorem al (w : World) (o : Obj) : Below w.heap.size w (w.alloc o) := (Below.refl _ w).alloc (Nat.le_refl _) _
theorem bl2 {a b c : World} (h1 : Below a.heap.size a b) (h2 : Below b.heap.size b c) : Below a.heap.size a c := h1.trans (h2.mono h1.size)
set_option maxHeartbeats 4000000 in
theorem lnAwake_any (w : World) : Calls Try.prog 11 #[] w fun e w' => e = .returned (.bool true) ∧ Below w.heap.size w w' := by
  obtain ⟨wa, hwa⟩ : ∃ u, w.alloc (.cells #[.int .u8 1, .int .u8 0] 5) = u := ⟨_, rfl⟩
  obtain ⟨wb, hwb⟩ : ∃ u, wa.alloc (.cells #[.int .u8 7] 5) = u := ⟨_, rfl⟩
  have bwa : Below w.heap.size w wa := by rw [← hwa]; exact al _ _
  have bwb : Below wa.heap.size wa wb := by rw [← hwb]; exact al _ _
  have i1 : IsBytes wa (.slice (some ⟨w.heap.size, 0, none⟩) 2 2) ⟨#[1, 0]⟩ := by rw [← hwa]; exact litB w ⟨#[1, 0]⟩ _ rfl (by unfold maxLen; decide)
  have i2 : IsBytes wb (.slice (some ⟨wa.heap.size, 0, none⟩) 1 1) ⟨#[7]⟩ := by rw [← hwb]; exact lit1 wa 7
  have hD := show Calls Try.prog 23 #[.slice (some ⟨w.heap.size, 0, none⟩) 2 2, .slice (some ⟨wa.heap.size, 0, none⟩) 1 1] wb _ from nDiv_any _ _ 2 1 ⟨#[1, 0]⟩ ⟨#[7]⟩ wb (i1.later bwb) i2 (by decide) (by decide) (by decide)
  have HB0 := show Hid (Below w.heap.size w wb) from bl2 bwa bwb
  clear i1 i2 bwa bwb
  go_enter Try.func11, Try.ntmps11
  go_wp2_with fail
  refine hD.mono ?_
  rintro e w1 ⟨v1, v2, rfl, h1, h2, hb1⟩
  obtain ⟨wc, hwc⟩ : ∃ u, w1.alloc (.cells #[.int .u8 3] 5) = u := ⟨_, rfl⟩
  obtain ⟨wd, hwd⟩ : ∃ u, wc.alloc (.cells #[.int .u8 4] 5) = u := ⟨_, rfl⟩
  obtain ⟨we, hwe⟩ : ∃ u, wd.alloc (.cells #[.int .u8 5] 5) = u := ⟨_, rfl⟩
  have bc : Below w1.heap.size w1 wc := by rw [← hwc]; exact al _ _
  have bd : Below wc.heap.size wc wd := by rw [← hwd]; exact al _ _
  have be : Below wd.heap.size wd we := by rw [← hwe]; exact al _ _
  have j1 : IsBytes wc (.slice (some ⟨w1.heap.size, 0, none⟩) 1 1) ⟨#[3]⟩ := by rw [← hwc]; exact lit1 w1 3
  have j2 : IsBytes wd (.slice (some ⟨wc.heap.size, 0, none⟩) 1 1) ⟨#[4]⟩ := by rw [← hwd]; exact lit1 wc 4
  have j3 : IsBytes we (.slice (some ⟨wd.heap.size, 0, none⟩) 1 1) ⟨#[5]⟩ := by rw [← hwe]; exact lit1 wd 5
  have hE := show Calls Try.prog 25 #[.slice (some ⟨w1.heap.size, 0, none⟩) 1 1, .slice (some ⟨wc.heap.size, 0, none⟩) 1 1, .slice (some ⟨wd.heap.size, 0, none⟩) 1 1] we _ from nExp_any _ _ _ 1 1 1 ⟨#[3]⟩ ⟨#[4]⟩ ⟨#[5]⟩ we ((j1.later bd).later be) (j2.later be) j3 (by decide) (by decide) (by decide) (by decide)
  have HQ := show Hid (IsNum we v1 36 ∧ IsNum we v2 4 ∧ Below w.heap.size w we) from ⟨(h1.later bc).later (bl2 bd be), (h2.later bc).later (bl2 bd be), bl2 (bl2 HB0.out hb1) (bl2 bc (bl2 bd be))⟩
  obtain ⟨y1, l1, c1, rfl, _⟩ := id HQ.out.1.shape
  obtain ⟨y2, l2, c2, rfl, _⟩ := id HQ.out.2.1.shape
  clear hD h1 h2 hb1 bc bd be j1 j2 j3 hwa hwb
  go_wp2_with fail
  refine hE.mono ?_
  rintro e w2 ⟨v3, rfl, h3, hb2⟩
  obtain ⟨wf, hwf⟩ : ∃ u, w2.alloc (.cells #[.int .u8 3] 5) = u := ⟨_, rfl⟩
  obtain ⟨wg, hwg⟩ : ∃ u, wf.alloc (.cells #[.int .u8 7] 5) = u := ⟨_, rfl⟩
  have bf : Below w2.heap.size w2 wf := by rw [← hwf]; exact al _ _
  have bg : Below wf.heap.size wf wg := by rw [← hwg]; exact al _ _
  have j1 : IsBytes wf (.slice (some ⟨w2.heap.size, 0, none⟩) 1 1) ⟨#[3]⟩ := by rw [← hwf]; exact lit1 w2 3
  have j2 : IsBytes wg (.slice (some ⟨wf.heap.size, 0, none⟩) 1 1) ⟨#[7]⟩ := by rw [← hwg]; exact lit1 wf 7
  have hI := show Calls Try.prog 29 #[.slice (some ⟨w2.heap.size, 0, none⟩) 1 1, .slice (some ⟨wf.heap.size, 0, none⟩) 1 1] wg _ from nInverse_any _ _ 1 1 ⟨#[3]⟩ ⟨#[7]⟩ wg (j1.later bg) j2 (by decide) (by decide) (by decide)
  have HQ2 := show Hid (IsNum wg (.slice y1 l1 c1) 36 ∧ IsNum wg (.slice y2 l2 c2) 4 ∧ IsNum wg v3 1 ∧ Below w.heap.size w wg) from ⟨(HQ.out.1.later hb2).later (bl2 bf bg), (HQ.out.2.1.later hb2).later (bl2 bf bg), h3.later (bl2 bf bg), bl2 (bl2 HQ.out.2.2 hb2) (bl2 bf bg)⟩
  obtain ⟨y3, l3, c3, rfl, _⟩ := id HQ2.out.2.2.1.shape
  clear hE h3 hb2 bf bg j1 j2 hwc hwd hwe HQ HB0
  go_wp2_with fail
  refine hI.mono ?_
  rintro e w3 hinv
  obtain ⟨v4, rfl, h4, hb3⟩ : ∃ v4, e = .returned (.tuple #[v4, .int .i64 0]) ∧ IsNum w3 v4 5 ∧ Below wg.heap.size wg w3 := by
    unfold InvOk at hinv
    rw [if_pos (by decide)] at hinv
    obtain ⟨K, ⟨v, h1, h2, h3⟩, hK, hK2⟩ := hinv
    have e3 : numB (⟨#[3]⟩ : ByteArray).data.toList = 3 := by decide
    have e7 : numB (⟨#[7]⟩ : ByteArray).data.toList = 7 := by decide
    rw [e3, e7] at hK2
    rw [e7] at hK
    have hK5 : K = 5 := by omega
    subst hK5
    exact ⟨v, h1, h2, h3⟩
  have g1 := (isNum_bytes (S := ⟨#[36]⟩) (HQ2.out.1.later hb3) rfl rfl).convert
  have g2 := (isNum_bytes (S := ⟨#[4]⟩) (HQ2.out.2.1.later hb3) rfl rfl).convert
  have g3 := (isNum_bytes (S := ⟨#[1]⟩) (HQ2.out.2.2.1.later hb3) rfl rfl).convert
  have g4 := (isNum_bytes (S := ⟨#[5]⟩) h4 rfl rfl).convert
  obtain ⟨y4, l4, c4, rfl, _⟩ := id h4.shape
  have HF := show Hid (Below w.heap.size w w3) from bl2 HQ2.out.2.2.2 hb3
  clear hI hinv h4 hb3 hwf hwg HQ2
  go_wp2_with fail
  go_ret
  exact ⟨rfl, HF.out⟩
end Go.Proofs.Ythfgbcpppamboaa
