/-
  Package hash: Mac.
  Package hash: a cell of an array by value.
-/
import Derived.Test.YtgehgcnaoapbbaaDoorKMac
import Derived.Laws.PanicsMore
namespace Go.Proofs.YtgehgcnaoapbbaaDoor
open Go.RowKit Ch
set_option maxRecDepth 100000

theorem kMac_any (x : Option Addr) (cap : Nat) (s : ByteArray) (v : Value) (ls : List ByteArray) (w : World) (hs : s.size ≤ 900000) (hB : IsBytes w (.slice x s.size cap) s) (hI : IsSl w v ls) (hK : KTab w) (hl : (flatB ls).length ≤ 800000) (hn : ls.length ≤ 1000000) :
    Calls Tryd.prog 13 #[.slice x s.size cap, v] w fun e w' => (∃ B, e = .returned (.slice (some ⟨B, 0, none⟩) 32 32) ∧ w.heap.size ≤ B ∧ IsBytes w' (.slice (some ⟨B, 0, none⟩) 32 32) ⟨(hmacL s.data.toList (flatB ls)).toArray⟩) ∧ Below w.heap.size w w' := by
  obtain ⟨hz, hi⟩ := zero_of_info infoKey
  have hz148 : zeroKey.size = 148 := by kernel_rfl
  have hNk := kNewKeyed_any x cap s w hs hB hK
  go_enter Tryd.func13, Tryd.ntmps13
  go_wp2_with fail
  refine hNk.mono ?_
  rintro e w1 ⟨⟨D1, D2, rfl, hD1, hD2⟩, hb1⟩
  clear hNk
  have hN1 := heap_push_at w1 (.cells zeroKey 60)
  have hsz : (D1 ++ D2).size = 148 := by rw [Array.size_append, hD1.1, hD2.1]
  have hi148 : (Tryd.prog.info? 60).map (·.size) = some (D1 ++ D2).size := by rw [hsz]; exact hi
  have hone : (D1 ++ D2).all (·.oneCell') = true := by rw [Array.all_append, hD1.2.1, hD2.2.1]; rfl
  have hzk : zeroKey.size = (D1 ++ D2).size := by rw [hsz, hz148]
  have hR2 := setRow_block (D := D1 ++ D2) hN1
  have hb2 : Below w.heap.size w ((w1.alloc (.cells zeroKey 60)).setRow w1.heap.size (D1 ++ D2)) := below_setRow (hb1.alloc hb1.size _) hb1.size _
  have hl1 := padK_length (keyB s.data.toList) 54
  have hl2 := padK_length (keyB s.data.toList) 92
  have HV := show Hid (DgV D1 (padK (keyB s.data.toList) 54) 64 ∧ DgV D2 (padK (keyB s.data.toList) 92) 64) from ⟨hD1, hD2⟩
  clear hD1 hD2
  go_wp2_with (refine wpList_store_row rfl 60 _ _ rfl w1.heap.size (D1 ++ D2) rfl (by simp [Act.eval]) _ _ hN1 hi148 hzk hone ?_)
  generalize (w1.alloc (.cells zeroKey 60)).setRow w1.heap.size (D1 ++ D2) = W2 at *
  have hKm := kKmac_any w1.heap.size D1.toList D2.toList _ _ v ls W2 (by rw [← Array.toList_append]; exact hR2) (by exact HV.out.1) (by exact HV.out.2) hl1 hl2 (hI.later hb2) (hK.later hb2) hl hn
  have hhm : shaL (padK (keyB s.data.toList) 92 ++ shaL (padK (keyB s.data.toList) 54 ++ flatB ls)) = hmacL s.data.toList (flatB ls) := rfl
  rw [hhm] at hKm
  refine hKm.mono ?_
  rintro e w5 ⟨rfl, hb25⟩
  have hb5 : Below w.heap.size w w5 := hb2.trans (hb25.mono hb2.size)
  have hs5 := hb5.size
  have hSl : (hmacL s.data.toList (flatB ls)).length = 32 := shaL_length _
  clear hKm hhm
  obtain ⟨SH, hSH⟩ : ∃ SH, hmacL s.data.toList (flatB ls) = SH := ⟨_, rfl⟩
  have HSH := show Hid (hmacL s.data.toList (flatB ls) = SH) from hSH
  rw [hSH] at hSl ⊢
  clear hSH
  have hcl : (Lib.byteCells SH).toArray.size = 32 := by rw [List.size_toArray]; simp [Lib.byteCells, hSl]
  have hN5 := heap_push_at w5 (.cells zero32b 54)
  have hi32 : (Tryd.prog.info? 54).map (·.size) = some (Lib.byteCells SH).toArray.size := by rw [hcl]; kernel_rfl
  have hzs : zero32b.size = (Lib.byteCells SH).toArray.size := by rw [hcl]; rfl
  have hS6 := setRow_block (D := (Lib.byteCells SH).toArray) hN5
  have hb6 : Below w.heap.size w ((w5.alloc (.cells zero32b 54)).setRow w5.heap.size (Lib.byteCells SH).toArray) := below_setRow (hb5.alloc hs5 _) hs5 _
  have hone6 := sha_cells SH
  unfold zero32b at hN5 hzs hS6 hb6
  go_wp2_with (refine wpList_store_row rfl 54 _ _ rfl w5.heap.size (Lib.byteCells SH).toArray rfl (by simp [Act.eval]) _ _ hN5 hi32 hzs hone6 ?_)
  generalize (w5.alloc (.cells #[.int .u8 0, .int .u8 0, .int .u8 0, .int .u8 0, .int .u8 0, .int .u8 0, .int .u8 0, .int .u8 0, .int .u8 0, .int .u8 0, .int .u8 0, .int .u8 0, .int .u8 0, .int .u8 0, .int .u8 0, .int .u8 0, .int .u8 0, .int .u8 0, .int .u8 0, .int .u8 0, .int .u8 0, .int .u8 0, .int .u8 0, .int .u8 0, .int .u8 0, .int .u8 0, .int .u8 0, .int .u8 0, .int .u8 0, .int .u8 0, .int .u8 0, .int .u8 0] 54)).setRow w5.heap.size (Lib.byteCells SH).toArray = W6 at *
  have hIB := bytes_in hS6 hSl (by omega)
  go_wp2_with fail
  go_ret
  exact ⟨⟨_, rfl, hs5, by rw [HSH.out]; exact hIB⟩, hb6⟩
end Go.Proofs.YtgehgcnaoapbbaaDoor

namespace Go.Proofs.YtgehgcnaoapbbaaDoor
open Go.RowKit Ch
set_option maxRecDepth 100000
theorem index32 (C : Array Value) (i : Nat) (v : Value) (w : World) (hi : i < 32) (h : C[i]? = some v) : (Instr.index 54 (.agg C) (.int .i64 (i : Int))).run Tryd.prog w = .ok v w := by
  have e2 : (Go.sizeOf 5).run Tryd.prog w = .ok 1 w := by kernel_rfl
  have hu := run_underlying (w := w) Tryd.underlying54
  simp [Instr.index, hu, asIntOf, Go.part, e2, h, go_sem]
  exact fun h2 => absurd h2 (by omega)
end Go.Proofs.YtgehgcnaoapbbaaDoor
