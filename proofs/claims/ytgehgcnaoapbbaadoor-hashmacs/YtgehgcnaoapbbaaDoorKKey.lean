/-
  Package hash: a keyed digest's two beginnings.
-/
import Derived.Test.YtgehgcnaoapbbaaDoorKPad
import Derived.Great.FillDense
namespace Go.Proofs.YtgehgcnaoapbbaaDoor
open Go.RowKit Ch
set_option maxRecDepth 100000

def zeroKey : Array Value := zeroDig ++ zeroDig
theorem infoKey : (Tryd.prog.info? 60).map (fun i => (i.zero, i.size)) = some (some (.agg zeroKey), 148) := by kernel_rfl
theorem built_keyed (D1 D2 : Array Value) (h1 : D1.size = 74) (h2 : D2.size = 74) : Tryd.prog.built 60 [(0, .agg D1), (1, .agg D2)] = some (D1 ++ D2) := by
  have e : Tryd.prog.built 60 [(0, .agg D1), (1, .agg D2)] = Instr.fill (fun i => some (i * 74, 74)) zeroKey [(0, .agg D1), (1, .agg D2)] := by kernel_rfl
  have hw := Go.Great.fill_whole (s := 74) (by omega) [.agg D1, .agg D2] zeroKey (by intro v hv; simp only [List.mem_cons, List.not_mem_nil, or_false] at hv; rcases hv with rfl | rfl; exact h1; exact h2) (by show 2 * 74 = zeroKey.size; unfold zeroKey; rw [Array.size_append, show zeroDig.size = 74 from rfl])
  rw [e]
  refine hw.trans ?_
  congr 1
  apply Array.toList_inj.1
  rw [List.toList_toArray, Array.toList_append]
  show D1.toList ++ (D2.toList ++ []) = _
  rw [List.append_nil]
set_option maxHeartbeats 1000000 in
theorem kNewKeyed_any (x : Option Addr) (cap : Nat) (s : ByteArray) (w : World) (hs : s.size ≤ 900000) (hB : IsBytes w (.slice x s.size cap) s) (hK : KTab w) :
    Calls Tryd.prog 25 #[.slice x s.size cap] w fun e w' => (∃ D1 D2, e = .returned (.agg (D1 ++ D2)) ∧ DgV D1 (padK (keyB s.data.toList) 54) 64 ∧ DgV D2 (padK (keyB s.data.toList) 92) 64) ∧ Below w.heap.size w w' := by
  obtain ⟨hz, hi⟩ := zero_of_info infoKey
  have hN0 := heap_push_at w (.cells zeroKey 60)
  have hb0 : Below w.heap.size w (w.alloc (.cells zeroKey 60)) := (Below.refl _ w).alloc (Nat.le_refl _) _
  have hz148 : zeroKey.size = 148 := by unfold zeroKey; rw [Array.size_append, show zeroDig.size = 74 from rfl]
  have e54 : ((54 : Nat) : Int) = 54 := rfl
  have e92 : ((92 : Nat) : Int) = 92 := rfl
  by_cases hlong : 64 < s.size
  · have hl2 : (64 : Int) < (s.size : Int) := by omega
    go_enter Tryd.func25, Tryd.ntmps25
    go_wp2_with fail
    have hb1 : Below w.heap.size w ((w.alloc (.cells zeroKey 60)).alloc (.cells #[.slice x s.size cap] 23)) := hb0.alloc (by simp) _
    have hSl := IsSl.one (hB.later hb0)
    have hsz0 : (w.alloc (.cells zeroKey 60)).heap.size = w.heap.size + 1 := by simp
    rw [hsz0] at hSl
    have hfl : flatB [s] = s.data.toList := by simp [flatB]
    have hSum := kSum_any (.slice (some ⟨w.heap.size + 1, 0, none⟩) 1 1) [s] _ hSl (hK.later hb1) (by rw [hfl, len_eq]; exact hs) (by simp)
    rw [hfl] at hSum
    have hR1 := block_alloc (.cells #[.slice x s.size cap] 23) hN0
    generalize (w.alloc (.cells zeroKey 60)).alloc (.cells #[.slice x s.size cap] 23) = W1 at *
    refine hSum.mono ?_
    rintro e w2 ⟨⟨B, rfl, _, hIB⟩, hb2⟩
    have hkey : keyB s.data.toList = shaL s.data.toList := by unfold keyB; rw [if_pos (by rw [len_eq]; exact hlong)]
    have hsl := shaL_length s.data.toList
    obtain ⟨SH, hSH⟩ : ∃ SH, shaL s.data.toList = SH := ⟨_, rfl⟩
    rw [hSH] at hkey hsl hIB
    have HKEY := show Hid (keyB s.data.toList = SH) from hkey
    have hzS : (⟨SH.toArray⟩ : ByteArray).size = 32 := by rw [size_of_list]; exact hsl
    have hR2 := (hb2.block w.heap.size (block_lt hR1)).trans hR1
    have hbw2 : Below w.heap.size w w2 := hb1.trans (hb2.mono hb1.size)
    have hIB2 : IsBytes w2 (.slice (some ⟨B, 0, none⟩) (⟨SH.toArray⟩ : ByteArray).size 32) ⟨SH.toArray⟩ := by rw [hzS]; exact hIB
    have hK2 := hK.later hbw2
    clear hSum hkey hSH hSl
    go_wp2_with fail
    have hP1 := kPadded_any (some ⟨B, 0, none⟩) 32 ⟨SH.toArray⟩ 54 w2 (by omega) (by omega) hIB2 hK2
    rw [e54, hzS] at hP1
    refine hP1.mono ?_
    rintro e wa ⟨⟨D1, rfl, hD1⟩, hba⟩
    have hP2 := kPadded_any (some ⟨B, 0, none⟩) 32 ⟨SH.toArray⟩ 92 wa (by omega) (by omega) ((hIB2).later hba) ((hK2).later hba)
    rw [e92, hzS] at hP2
    clear hP1
    go_wp2_with fail
    refine hP2.mono ?_
    rintro e wb ⟨⟨D2, rfl, hD2⟩, hbb⟩
    have hRb := (hbb.block w.heap.size (by have := hba.size; have := block_lt hR2; omega)).trans ((hba.block w.heap.size (block_lt hR2)).trans hR2)
    have hbl := built_keyed D1 D2 hD1.1 hD2.1
    have hsz : (D1 ++ D2).size = 148 := by rw [Array.size_append, hD1.1, hD2.1]
    have hi148 : (Tryd.prog.info? 60).map (·.size) = some (D1 ++ D2).size := by rw [hsz]; exact hi
    have hone : (D1 ++ D2).all (·.oneCell') = true := by rw [Array.all_append, hD1.2.1, hD2.2.1]; rfl
    have hzk : zeroKey.size = (D1 ++ D2).size := by rw [hsz, hz148]
    have hbf : Below w.heap.size w wb := ((hbw2).trans (hba.mono (hbw2).size)).trans (hbb.mono (Nat.le_trans (hbw2).size hba.size))
    have HV := show Hid (DgV D1 (padK (⟨SH.toArray⟩ : ByteArray).data.toList 54) 64 ∧ DgV D2 (padK (⟨SH.toArray⟩ : ByteArray).data.toList 92) 64) from ⟨hD1, hD2⟩
    clear hP2 hD1 hD2
    go_wp2_with (first
      | refine wpList_build rfl 60 _ rfl (by simp [Act.eval, hbl]) ?_
      | refine wpList_store_row rfl 60 _ _ rfl w.heap.size (D1 ++ D2) rfl (by simp [Act.eval, Act.put, hbl]) _ _ hRb hi148 hzk hone ?_)
    refine bodyPost_ret (v := .agg (D1 ++ D2)) ?_ rfl ⟨⟨D1, D2, rfl, by rw [HKEY.out]; exact HV.out.1, by rw [HKEY.out]; exact HV.out.2⟩, below_setRow hbf (Nat.le_refl _) _⟩
    exact results_cell_row rfl _ _ w.heap.size _ _ _ _ rfl (setRow_block hRb) Tryd.underlying60 rfl hi148
  · have hl2 : ¬ (64 : Int) < (s.size : Int) := by omega
    have hkey : keyB s.data.toList = s.data.toList := by unfold keyB; rw [if_neg (by rw [len_eq]; exact hlong)]
    rw [hkey]
    go_enter Tryd.func25, Tryd.ntmps25
    go_wp2_with fail
    have hP1 := kPadded_any x cap s 54 (w.alloc (.cells zeroKey 60)) (by omega) (by omega) (hB.later hb0) (hK.later hb0)
    rw [e54] at hP1
    refine hP1.mono ?_
    rintro e wa ⟨⟨D1, rfl, hD1⟩, hba⟩
    have hP2 := kPadded_any x cap s 92 wa (by omega) (by omega) (((hB.later hb0)).later hba) (((hK.later hb0)).later hba)
    rw [e92] at hP2
    clear hP1
    go_wp2_with fail
    refine hP2.mono ?_
    rintro e wb ⟨⟨D2, rfl, hD2⟩, hbb⟩
    have hRb := (hbb.block w.heap.size (by have := hba.size; have := block_lt hN0; omega)).trans ((hba.block w.heap.size (block_lt hN0)).trans hN0)
    have hbl := built_keyed D1 D2 hD1.1 hD2.1
    have hsz : (D1 ++ D2).size = 148 := by rw [Array.size_append, hD1.1, hD2.1]
    have hi148 : (Tryd.prog.info? 60).map (·.size) = some (D1 ++ D2).size := by rw [hsz]; exact hi
    have hone : (D1 ++ D2).all (·.oneCell') = true := by rw [Array.all_append, hD1.2.1, hD2.2.1]; rfl
    have hzk : zeroKey.size = (D1 ++ D2).size := by rw [hsz, hz148]
    have hbf : Below w.heap.size w wb := ((hb0).trans (hba.mono (hb0).size)).trans (hbb.mono (Nat.le_trans (hb0).size hba.size))
    have HV := show Hid (DgV D1 (padK (s).data.toList 54) 64 ∧ DgV D2 (padK (s).data.toList 92) 64) from ⟨hD1, hD2⟩
    clear hP2 hD1 hD2
    go_wp2_with (first
      | refine wpList_build rfl 60 _ rfl (by simp [Act.eval, hbl]) ?_
      | refine wpList_store_row rfl 60 _ _ rfl w.heap.size (D1 ++ D2) rfl (by simp [Act.eval, Act.put, hbl]) _ _ hRb hi148 hzk hone ?_)
    refine bodyPost_ret (v := .agg (D1 ++ D2)) ?_ rfl ⟨⟨D1, D2, rfl, HV.out.1, HV.out.2⟩, below_setRow hbf (Nat.le_refl _) _⟩
    exact results_cell_row rfl _ _ w.heap.size _ _ _ _ rfl (setRow_block hRb) Tryd.underlying60 rfl hi148
end Go.Proofs.YtgehgcnaoapbbaaDoor
