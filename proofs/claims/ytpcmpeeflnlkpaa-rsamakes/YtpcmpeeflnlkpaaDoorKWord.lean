/-
  Package hash: a word's bytes; a digest's beginning.
-/
import Derived.Test.YtpcmpeeflnlkpaaDoorKAdd
namespace Go.Proofs.YtpcmpeeflnlkpaaDoor
open Go.RowKit Ch
set_option maxRecDepth 100000

/-- The cells of a word's bytes. -/
def cells4 (x : Nat) : Array Value := #[.int .u8 ((x / 16777216 % 256 : Nat) : Int), .int .u8 ((x / 65536 % 256 : Nat) : Int), .int .u8 ((x / 256 % 256 : Nat) : Int), .int .u8 ((x % 256 : Nat) : Int)]
theorem cells4_eq (x : Nat) : (cells4 x).toList = Lib.byteCells (wordB x) := by
  unfold cells4 wordB Lib.byteCells
  simp only [List.map_cons, List.map_nil]
  have f : ∀ z : Nat, ((UInt8.ofNat (z % 256)).toNat : Int) = ((z % 256 : Nat) : Int) := fun z => by rw [UInt8.toNat_ofNat']; omega
  simp only [f]
set_option maxHeartbeats 1000000 in
theorem kWordBytes_any (x : Nat) (w : World) (hx : x < 4294967296) : Calls Tryd.prog 84 #[.int .u32 (x : Int)] w fun e w' => e = .returned (.agg (cells4 x)) ∧ Below w.heap.size w w' := by
  have e1 : (x : Int) / 16777216 % 256 = ((x / 16777216 % 256 : Nat) : Int) := by omega
  have e2 : (x : Int) / 65536 % 256 = ((x / 65536 % 256 : Nat) : Int) := by omega
  have e3 : (x : Int) / 256 % 256 = ((x / 256 % 256 : Nat) : Int) := by omega
  have e4 : (x : Int) % 256 = ((x % 256 : Nat) : Int) := by omega
  have e1' : (x : Int) / 16777216 = ((x / 16777216 % 256 : Nat) : Int) := by omega
  have hbl : ∀ a b c d : Int, Tryd.prog.built 103 [(0, .int .u8 a), (1, .int .u8 b), (2, .int .u8 c), (3, .int .u8 d)] = some #[.int .u8 a, .int .u8 b, .int .u8 c, .int .u8 d] := fun a b c d => by kernel_rfl
  obtain ⟨y1, hy1⟩ : ∃ y, x / 16777216 % 256 = y := ⟨_, rfl⟩
  obtain ⟨y2, hy2⟩ : ∃ y, x / 65536 % 256 = y := ⟨_, rfl⟩
  obtain ⟨y3, hy3⟩ : ∃ y, x / 256 % 256 = y := ⟨_, rfl⟩
  obtain ⟨y4, hy4⟩ : ∃ y, x % 256 = y := ⟨_, rfl⟩
  rw [hy1] at e1 e1'
  rw [hy2] at e2
  rw [hy3] at e3
  rw [hy4] at e4
  have hN := heap_push_at w (.cells #[.int .u8 0, .int .u8 0, .int .u8 0, .int .u8 0] 103)
  have hb0 : Below w.heap.size w (w.alloc (.cells #[.int .u8 0, .int .u8 0, .int .u8 0, .int .u8 0] 103)) := (Below.refl _ w).alloc (Nat.le_refl _) _
  have hi4 : (Tryd.prog.info? 103).map (·.size) = some (#[.int .u8 (y1 : Int), .int .u8 (y2 : Int), .int .u8 (y3 : Int), .int .u8 (y4 : Int)] : Array Value).size := by kernel_rfl
  have h1a : (#[.int .u8 (y1 : Int), .int .u8 (y2 : Int), .int .u8 (y3 : Int), .int .u8 (y4 : Int)] : Array Value).all (·.oneCell') = true := by
    refine Array.all_eq_true_iff_forall_mem.2 (fun v hv => ?_)
    simp only [List.mem_toArray, List.mem_cons, List.not_mem_nil, or_false] at hv
    rcases hv with rfl | rfl | rfl | rfl <;> rfl
  unfold cells4
  rw [hy1, hy2, hy3, hy4]
  have hR := setRow_block (D := #[.int .u8 (y1 : Int), .int .u8 (y2 : Int), .int .u8 (y3 : Int), .int .u8 (y4 : Int)]) hN
  have HB := show Hid (Below w.heap.size w ((w.alloc (.cells #[.int .u8 0, .int .u8 0, .int .u8 0, .int .u8 0] 103)).setRow w.heap.size #[.int .u8 (y1 : Int), .int .u8 (y2 : Int), .int .u8 (y3 : Int), .int .u8 (y4 : Int)])) from below_setRow hb0 (Nat.le_refl _) _
  go_enter Tryd.func84, Tryd.ntmps84
  go_wp2_with (first
    | refine wpList_build rfl 103 _ rfl (by simp [Act.eval, hbl]) ?_
    | refine wpList_store_row rfl 103 _ _ rfl w.heap.size #[.int .u8 (y1 : Int), .int .u8 (y2 : Int), .int .u8 (y3 : Int), .int .u8 (y4 : Int)] rfl (by simp [Act.eval, Act.put, hbl, e2, e3, e4]) _ _ hN hi4 rfl h1a ?_)
  refine bodyPost_ret (v := .agg #[.int .u8 (y1 : Int), .int .u8 (y2 : Int), .int .u8 (y3 : Int), .int .u8 (y4 : Int)]) ?_ rfl ⟨rfl, HB.out⟩
  exact results_cell_row rfl _ _ w.heap.size _ _ _ _ rfl hR Tryd.underlying103 rfl hi4
def zeroDig : Array Value := digC ⟨0, 0, 0, 0, 0, 0, 0, 0⟩ (List.replicate 64 0) 0 0
theorem infoDig : (Tryd.prog.info? 91).map (fun i => (i.zero, i.size)) = some (some (.agg zeroDig), 74) := by kernel_rfl
set_option maxHeartbeats 1000000 in
theorem kBegin_any (w : World) : Calls Tryd.prog 74 #[] w fun e w' => e = .returned (.agg (digC beginS (List.replicate 64 0) 0 0)) ∧ Below w.heap.size w w' := by
  obtain ⟨hz, hi⟩ := zero_of_info infoDig
  have hb8 : Tryd.prog.built 88 [(0, .int .u32 1779033703), (1, .int .u32 3144134277), (2, .int .u32 1013904242), (3, .int .u32 2773480762), (4, .int .u32 1359893119), (5, .int .u32 2600822924), (6, .int .u32 528734635), (7, .int .u32 1541459225)] = some #[.int .u32 1779033703, .int .u32 3144134277, .int .u32 1013904242, .int .u32 2773480762, .int .u32 1359893119, .int .u32 2600822924, .int .u32 528734635, .int .u32 1541459225] := by kernel_rfl
  have hbd : Tryd.prog.built 91 [(0, .agg #[.int .u32 1779033703, .int .u32 3144134277, .int .u32 1013904242, .int .u32 2773480762, .int .u32 1359893119, .int .u32 2600822924, .int .u32 528734635, .int .u32 1541459225])] = some (digC beginS (List.replicate 64 0) 0 0) := by kernel_rfl
  have hone : (digC beginS (List.replicate 64 0) 0 0).all (·.oneCell') = true := by kernel_rfl
  have hi74 : (Tryd.prog.info? 91).map (·.size) = some (digC beginS (List.replicate 64 0) 0 0).size := hi
  have hN := heap_push_at w (.cells zeroDig 91)
  have hb0 : Below w.heap.size w (w.alloc (.cells zeroDig 91)) := (Below.refl _ w).alloc (Nat.le_refl _) _
  go_enter Tryd.func74, Tryd.ntmps74
  go_wp2_with (first
    | refine wpList_build rfl 88 _ rfl (by simp [Act.eval, hb8]) ?_
    | refine wpList_build rfl 91 _ rfl (by simp [Act.eval, Act.put, hb8, hbd]) ?_
    | refine wpList_store_row rfl 91 _ _ rfl w.heap.size (digC beginS (List.replicate 64 0) 0 0) rfl (by simp [Act.eval, Act.put, hb8, hbd]) _ _ hN hi74 rfl hone ?_)
  refine bodyPost_ret (v := .agg (digC beginS (List.replicate 64 0) 0 0)) ?_ rfl ⟨rfl, below_setRow hb0 (Nat.le_refl _) _⟩
  exact results_cell_row rfl _ _ w.heap.size _ _ _ _ rfl (setRow_block hN) Tryd.underlying91 rfl hi74
end Go.Proofs.YtpcmpeeflnlkpaaDoor
