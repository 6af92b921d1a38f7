/-
  Package hash: rotations, the small functions.
  Whole arrays out of and into blocks. Of no layer alone.
  A region that draws its order, with loads of a cell that its own last operation writes: S is shown behind every operation but that one, which waits for the loads. Of no layer alone.
-/
import Derived.Test.YtpcmpeeflnlkpaaDoorGen2Etc
import Derived.Test.YtpcmpeeflnlkpaaDoorKPlainEtc
import Derived.Deep.WholeRow
import Derived.OrdersHeld
import Derived.StillTail
import Derived.Deep.RegionWith
namespace Go.Proofs.YtpcmpeeflnlkpaaDoor
open Go.RowKit Ch
set_option maxRecDepth 100000

theorem wraps_u32 (n : Int) (h₀ : 0 ≤ n) (h₁ : n < 2 ^ 32) : IntKind.u32.wrap n = n := by rw [IntKind.wrap_u32]; omega
theorem and32 (a b : Nat) (ha : a < 4294967296) (hb : b < 4294967296) : bits .and .u32 (a : Int) (b : Int) = ((a &&& b : Nat) : Int) := (bits_nat .u32 32 (by decide) wraps_u32 a b ha hb).1
theorem or32 (a b : Nat) (ha : a < 4294967296) (hb : b < 4294967296) : bits .or .u32 (a : Int) (b : Int) = ((a ||| b : Nat) : Int) := (bits_nat .u32 32 (by decide) wraps_u32 a b ha hb).2
theorem xor_nat (k : IntKind) (j : Nat) (hj : j ≤ k.bits) (hk : ∀ n : Int, 0 ≤ n → n < 2 ^ j → k.wrap n = n) (a b : Nat) (ha : a < 2 ^ j) (hb : b < 2 ^ j) : bits .xor k (a : Int) (b : Int) = ((a ^^^ b : Nat) : Int) := by
  have hp : 2 ^ j ≤ 2 ^ k.bits := Nat.pow_le_pow_right (by decide) hj
  have ha' : a % 2 ^ k.bits = a := Nat.mod_eq_of_lt (Nat.lt_of_lt_of_le ha hp)
  have hb' : b % 2 ^ k.bits = b := Nat.mod_eq_of_lt (Nat.lt_of_lt_of_le hb hp)
  have cast : ∀ n : Nat, n < 2 ^ j → ((n : Nat) : Int) < 2 ^ j := fun n h => by exact_mod_cast h
  simp only [bits, BitVec.ofInt_natCast, BitVec.toNat_xor, BitVec.toNat_ofNat, ha', hb']
  exact hk _ (Int.natCast_nonneg _) (cast _ (Nat.xor_lt_two_pow ha hb))
theorem xor32 (a b : Nat) (ha : a < 4294967296) (hb : b < 4294967296) : bits .xor .u32 (a : Int) (b : Int) = ((a ^^^ b : Nat) : Int) := xor_nat .u32 32 (by decide) wraps_u32 a b ha hb
theorem xor8 (a b : Nat) (ha : a < 256) (hb : b < 256) : bits .xor .u8 (a : Int) (b : Int) = ((a ^^^ b : Nat) : Int) := xor_nat .u8 8 (by decide) wraps_u8 a b ha hb
theorem or8 (a b : Nat) (ha : a < 256) (hb : b < 256) : bits .or .u8 (a : Int) (b : Int) = ((a ||| b : Nat) : Int) := (bits_nat .u8 8 (by decide) wraps_u8 a b ha hb).2
theorem wrap_u64 (n : Int) : IntKind.u64.wrap n = n % 18446744073709551616 := by simp [IntKind.wrap, IntKind.bits, IntKind.signed]
theorem wraps_u64 (n : Int) (h₀ : 0 ≤ n) (h₁ : n < 2 ^ 64) : IntKind.u64.wrap n = n := by rw [wrap_u64]; omega
theorem neg_shift (n : Nat) (hn : 1 ≤ n) (hn2 : n ≤ 31) : bits .and .u64 (IntKind.u64.wrap (-(n : Int))) 31 = ((32 - n : Nat) : Int) := by
  have e : IntKind.u64.wrap (-(n : Int)) = 18446744073709551616 - (n : Int) := by rw [wrap_u64]; omega
  have := bits_mask .u64 64 (by decide) wraps_u64 5 (by decide) (18446744073709551616 - (n : Int)) (by omega) (by omega)
  rw [e]
  refine this.trans ?_
  omega
theorem rotr_eq (x n : Nat) (hx : x < 4294967296) : bits .or .u32 ((x : Int) * 2 ^ (32 - n) % 4294967296) ((x : Int) / 2 ^ n) = (rotr n x : Int) := by
  have e1 : (x : Int) * 2 ^ (32 - n) % 4294967296 = ((x * 2 ^ (32 - n) % 4294967296 : Nat) : Int) := by simp
  have e2 : (x : Int) / 2 ^ n = ((x / 2 ^ n : Nat) : Int) := by simp
  rw [e1, e2, or32 _ _ (Nat.mod_lt _ (by decide)) (Nat.lt_of_le_of_lt (Nat.div_le_self _ _) hx)]
  rfl
set_option maxHeartbeats 1000000 in
theorem kRight_any (x n : Nat) (w : World) (hx : x < 4294967296) (hn : 1 ≤ n) (hn2 : n ≤ 31) : Calls Tryd.prog 93 #[.int .u32 (x : Int), .int .i64 (n : Int)] w fun e w' => e = .returned (.int .u32 (rotr n x : Int)) ∧ w' = w := by
  have hm : Calls Tryd.prog 94 #[.int .u32 (x : Int), .int .i64 (-(n : Int))] w fun e w' => e = .returned (.int .u32 (rotr n x : Int)) ∧ w' = w := by
    have hns := neg_shift n hn hn2
    have hr := rotr_eq x n hx
    obtain ⟨s, hs⟩ : ∃ s, 32 - n = s := ⟨_, rfl⟩
    rw [hs] at hns hr
    have es : (32 : Int) - (s : Int) = (n : Int) := by omega
    have hs1 : s < 32 := by omega
    generalize rotr n x = R at *
    go_enter Tryd.func94, Tryd.ntmps94
    go_wp2_with fail
    go_ret
    exact ⟨rfl, rfl⟩
  go_enter Tryd.func93, Tryd.ntmps93
  go_wp2_with fail
  refine hm.mono ?_
  rintro e w1 ⟨rfl, rfl⟩
  go_wp2_with fail
  go_ret
  exact ⟨rfl, rfl⟩
set_option maxHeartbeats 1000000 in
theorem kSmallA_any (x : Nat) (w : World) (hx : x < 4294967296) : Calls Tryd.prog 92 #[.int .u32 (x : Int)] w fun e w' => e = .returned (.int .u32 (sgA x : Int)) ∧ w' = w := by
  have h1 := kRight_any x 7 w hx (by omega) (by omega)
  have h2 := kRight_any x 18 w hx (by omega) (by omega)
  rw [show ((7 : Nat) : Int) = 7 from rfl] at h1
  rw [show ((18 : Nat) : Int) = 18 from rfl] at h2
  have b3 : x / 8 < 4294967296 := by omega
  have k3 : (x : Int) / 8 = ((x / 8 : Nat) : Int) := by omega
  have b1 := rotr_lt 7 x hx
  have b2 := rotr_lt 18 x hx
  have e1 := xor32 (rotr 7 x) (rotr 18 x) b1 b2
  have e2 := xor32 (rotr 7 x ^^^ rotr 18 x) (x / 8) (xor_lt32 b1 b2) b3
  have HE : Hid (sgA x = rotr 7 x ^^^ rotr 18 x ^^^ x / 8) := rfl
  generalize rotr 7 x ^^^ rotr 18 x ^^^ x / 8 = X at *
  generalize rotr 7 x ^^^ rotr 18 x = Y at *
  generalize rotr 7 x = R1 at *
  generalize rotr 18 x = R2 at *
  generalize x / 8 = R3 at *
  clear b1 b2 b3
  go_enter Tryd.func92, Tryd.ntmps92
  go_wp2_with fail
  refine h1.mono ?_
  rintro e w1 ⟨rfl, rfl⟩
  go_wp2_with fail
  refine h2.mono ?_
  rintro e w2 ⟨rfl, rfl⟩
  go_wp2_with fail
  go_ret
  rw [HE.out]
  exact ⟨rfl, rfl⟩
set_option maxHeartbeats 1000000 in
theorem kSmallB_any (x : Nat) (w : World) (hx : x < 4294967296) : Calls Tryd.prog 91 #[.int .u32 (x : Int)] w fun e w' => e = .returned (.int .u32 (sgB x : Int)) ∧ w' = w := by
  have h1 := kRight_any x 17 w hx (by omega) (by omega)
  have h2 := kRight_any x 19 w hx (by omega) (by omega)
  rw [show ((17 : Nat) : Int) = 17 from rfl] at h1
  rw [show ((19 : Nat) : Int) = 19 from rfl] at h2
  have b3 : x / 1024 < 4294967296 := by omega
  have k3 : (x : Int) / 1024 = ((x / 1024 : Nat) : Int) := by omega
  have b1 := rotr_lt 17 x hx
  have b2 := rotr_lt 19 x hx
  have e1 := xor32 (rotr 17 x) (rotr 19 x) b1 b2
  have e2 := xor32 (rotr 17 x ^^^ rotr 19 x) (x / 1024) (xor_lt32 b1 b2) b3
  have HE : Hid (sgB x = rotr 17 x ^^^ rotr 19 x ^^^ x / 1024) := rfl
  generalize rotr 17 x ^^^ rotr 19 x ^^^ x / 1024 = X at *
  generalize rotr 17 x ^^^ rotr 19 x = Y at *
  generalize rotr 17 x = R1 at *
  generalize rotr 19 x = R2 at *
  generalize x / 1024 = R3 at *
  clear b1 b2 b3
  go_enter Tryd.func91, Tryd.ntmps91
  go_wp2_with fail
  refine h1.mono ?_
  rintro e w1 ⟨rfl, rfl⟩
  go_wp2_with fail
  refine h2.mono ?_
  rintro e w2 ⟨rfl, rfl⟩
  go_wp2_with fail
  go_ret
  rw [HE.out]
  exact ⟨rfl, rfl⟩
set_option maxHeartbeats 1000000 in
theorem kBigA_any (x : Nat) (w : World) (hx : x < 4294967296) : Calls Tryd.prog 89 #[.int .u32 (x : Int)] w fun e w' => e = .returned (.int .u32 (bgA x : Int)) ∧ w' = w := by
  have h1 := kRight_any x 2 w hx (by omega) (by omega)
  have h2 := kRight_any x 13 w hx (by omega) (by omega)
  rw [show ((2 : Nat) : Int) = 2 from rfl] at h1
  rw [show ((13 : Nat) : Int) = 13 from rfl] at h2
  have h3 := kRight_any x 22 w hx (by omega) (by omega)
  rw [show ((22 : Nat) : Int) = 22 from rfl] at h3
  have b3 := rotr_lt 22 x hx
  have b1 := rotr_lt 2 x hx
  have b2 := rotr_lt 13 x hx
  have e1 := xor32 (rotr 2 x) (rotr 13 x) b1 b2
  have e2 := xor32 (rotr 2 x ^^^ rotr 13 x) (rotr 22 x) (xor_lt32 b1 b2) b3
  have HE : Hid (bgA x = rotr 2 x ^^^ rotr 13 x ^^^ rotr 22 x) := rfl
  generalize rotr 2 x ^^^ rotr 13 x ^^^ rotr 22 x = X at *
  generalize rotr 2 x ^^^ rotr 13 x = Y at *
  generalize rotr 2 x = R1 at *
  generalize rotr 13 x = R2 at *
  generalize rotr 22 x = R3 at *
  clear b1 b2 b3
  go_enter Tryd.func89, Tryd.ntmps89
  go_wp2_with fail
  refine h1.mono ?_
  rintro e w1 ⟨rfl, rfl⟩
  go_wp2_with fail
  refine h2.mono ?_
  rintro e w2 ⟨rfl, rfl⟩
  go_wp2_with fail
  refine h3.mono ?_
  rintro e w3 ⟨rfl, rfl⟩
  go_wp2_with fail
  go_ret
  rw [HE.out]
  exact ⟨rfl, rfl⟩
set_option maxHeartbeats 1000000 in
theorem kBigB_any (x : Nat) (w : World) (hx : x < 4294967296) : Calls Tryd.prog 87 #[.int .u32 (x : Int)] w fun e w' => e = .returned (.int .u32 (bgB x : Int)) ∧ w' = w := by
  have h1 := kRight_any x 6 w hx (by omega) (by omega)
  have h2 := kRight_any x 11 w hx (by omega) (by omega)
  rw [show ((6 : Nat) : Int) = 6 from rfl] at h1
  rw [show ((11 : Nat) : Int) = 11 from rfl] at h2
  have h3 := kRight_any x 25 w hx (by omega) (by omega)
  rw [show ((25 : Nat) : Int) = 25 from rfl] at h3
  have b3 := rotr_lt 25 x hx
  have b1 := rotr_lt 6 x hx
  have b2 := rotr_lt 11 x hx
  have e1 := xor32 (rotr 6 x) (rotr 11 x) b1 b2
  have e2 := xor32 (rotr 6 x ^^^ rotr 11 x) (rotr 25 x) (xor_lt32 b1 b2) b3
  have HE : Hid (bgB x = rotr 6 x ^^^ rotr 11 x ^^^ rotr 25 x) := rfl
  generalize rotr 6 x ^^^ rotr 11 x ^^^ rotr 25 x = X at *
  generalize rotr 6 x ^^^ rotr 11 x = Y at *
  generalize rotr 6 x = R1 at *
  generalize rotr 11 x = R2 at *
  generalize rotr 25 x = R3 at *
  clear b1 b2 b3
  go_enter Tryd.func87, Tryd.ntmps87
  go_wp2_with fail
  refine h1.mono ?_
  rintro e w1 ⟨rfl, rfl⟩
  go_wp2_with fail
  refine h2.mono ?_
  rintro e w2 ⟨rfl, rfl⟩
  go_wp2_with fail
  refine h3.mono ?_
  rintro e w3 ⟨rfl, rfl⟩
  go_wp2_with fail
  go_ret
  rw [HE.out]
  exact ⟨rfl, rfl⟩
theorem xor_all (n : Nat) (h : n < 4294967296) : 4294967295 ^^^ n = 4294967295 - n := by
  apply Nat.eq_of_testBit_eq
  intro i
  have e1 : (4294967295 : Nat) = 2 ^ 32 - 1 := rfl
  have e2 : 4294967295 - n = 2 ^ 32 - (n + 1) := by omega
  rw [Nat.testBit_xor, e2, Nat.testBit_two_pow_sub_succ (by omega), e1, Nat.testBit_two_pow_sub_one]
  by_cases hi : i < 32
  · simp [hi]
  · have : n.testBit i = false := Nat.testBit_lt_two_pow (Nat.lt_of_lt_of_le (show n < 2 ^ 32 by omega) (Nat.pow_le_pow_right (by omega) (by omega)))
    simp [hi, this]
theorem not32 (x : Nat) (h : x < 4294967296) : bits .xor .u32 IntKind.u32.max (x : Int) = ((4294967295 - x : Nat) : Int) := by
  have e : IntKind.u32.max = ((4294967295 : Nat) : Int) := by decide +kernel
  rw [e, xor32 _ _ (by omega) h, xor_all x h]
set_option maxHeartbeats 1000000 in
theorem kChoice_any (x y z : Nat) (w : World) (hx : x < 4294967296) (hy : y < 4294967296) (hz : z < 4294967296) : Calls Tryd.prog 88 #[.int .u32 (x : Int), .int .u32 (y : Int), .int .u32 (z : Int)] w fun e w' => e = .returned (.int .u32 (chooN x y z : Int)) ∧ w' = w := by
  have e1 := and32 x y hx hy
  have e2 := and32 (4294967295 - x) z (by omega) hz
  have e3 := xor32 (x &&& y) ((4294967295 - x) &&& z) (and_lt32 hy) (and_lt32 hz)
  have HE : Hid (chooN x y z = (x &&& y) ^^^ ((4294967295 - x) &&& z)) := rfl
  generalize (x &&& y) ^^^ ((4294967295 - x) &&& z) = X at *
  generalize x &&& y = A at *
  generalize (4294967295 - x) &&& z = B at *
  obtain ⟨nx, hnx⟩ : ∃ nx, 4294967295 - x = nx := ⟨_, rfl⟩
  have enx := not32 x hx
  rw [hnx] at e2 enx
  clear hnx
  go_enter Tryd.func88, Tryd.ntmps88
  go_wp2_with fail
  go_ret
  rw [HE.out]
  exact ⟨rfl, rfl⟩
set_option maxHeartbeats 1000000 in
theorem kMajority_any (x y z : Nat) (w : World) (hx : x < 4294967296) (hy : y < 4294967296) (hz : z < 4294967296) : Calls Tryd.prog 90 #[.int .u32 (x : Int), .int .u32 (y : Int), .int .u32 (z : Int)] w fun e w' => e = .returned (.int .u32 (majN x y z : Int)) ∧ w' = w := by
  have e1 := and32 x y hx hy
  have e2 := and32 x z hx hz
  have e3 := and32 y z hy hz
  have e4 := xor32 (x &&& y) (x &&& z) (and_lt32 hy) (and_lt32 hz)
  have e5 := xor32 ((x &&& y) ^^^ (x &&& z)) (y &&& z) (xor_lt32 (and_lt32 hy) (and_lt32 hz)) (and_lt32 hz)
  have HE : Hid (majN x y z = (x &&& y) ^^^ (x &&& z) ^^^ (y &&& z)) := rfl
  generalize (x &&& y) ^^^ (x &&& z) ^^^ (y &&& z) = X at *
  generalize (x &&& y) ^^^ (x &&& z) = Y at *
  generalize x &&& y = A at *
  generalize x &&& z = B at *
  generalize y &&& z = C at *
  go_enter Tryd.func90, Tryd.ntmps90
  go_wp2_with fail
  go_ret
  rw [HE.out]
  exact ⟨rfl, rfl⟩
end Go.Proofs.YtpcmpeeflnlkpaaDoor

namespace Go.Proofs.YtpcmpeeflnlkpaaDoor
open Go.RowKit Ch
set_option maxRecDepth 100000

theorem whole_load {W : World} {B : Nat} {C : Array Value} {t : TypeId} {n : Nat} (h : W.heap[B]? = some (.cells C t (0, 0))) (hn : C.size = n) :
    (loadCellsFrom ⟨B, 0, none⟩ 0 n #[]).run Tryd.prog W = .ok C W := by
  subst hn
  have := run_loadCells_list (P := Tryd.prog) W ⟨B, 0, none⟩ C.toList (fun j v hv => by
    have hadd : (⟨B, 0, none⟩ : Addr).add j = ⟨B, j, none⟩ := by unfold Addr.add; split <;> simp_all
    rw [hadd, cell_of_row _ _ j C t (0, 0) h]
    simpa using hv)
  simpa [loadCells] using this
theorem whole_store {W : World} {B : Nat} {C D : Array Value} {t : TypeId} (h : W.heap[B]? = some (.cells C t (0, 0))) (hn : C.size = D.size) (h1 : ∀ v ∈ D.toList, v.oneCell' = true) :
    (storeCells ⟨B, 0, none⟩ D.toList 0).run Tryd.prog W = .ok () (W.setRow B D) := by
  have := run_storeCells_from (P := Tryd.prog) B t D.toList 0 C W h (by simp; omega) h1
  simpa using this
theorem setRow_block {W : World} {B : Nat} {C D : Array Value} {t : TypeId} {fr : Nat × Nat} (h : W.heap[B]? = some (.cells C t fr)) : (W.setRow B D).heap[B]? = some (.cells D t fr) := by
  have hlt := (Array.getElem?_eq_some_iff.1 h).1
  have h' : W.heap[B] = .cells C t fr := by simpa [Array.getElem?_eq_getElem hlt] using h
  show (W.heap.modify B _)[B]? = _
  rw [Array.getElem?_eq_getElem (by simpa using hlt), Array.getElem_modify_self, h']
theorem setRow_other {W : World} {B k : Nat} {D : Array Value} (h : k ≠ B) : (W.setRow B D).heap[k]? = W.heap[k]? := by
  show (W.heap.modify B _)[k]? = _
  rw [Array.getElem?_modify, if_neg (fun e => h e.symm)]
theorem setRow_size (W : World) (B : Nat) (D : Array Value) : (W.setRow B D).heap.size = W.heap.size := by simp [World.setRow]
theorem below_setRow {b : Nat} {W0 W : World} (h : Below b W0 W) {B : Nat} (hB : b ≤ B) (D : Array Value) : Below b W0 (W.setRow B D) :=
  h.trans ⟨rfl, rfl, rfl, by rw [setRow_size]; exact Nat.le_refl _, fun k hk => setRow_other (by omega)⟩
/-- Cells that hold numbers of 32 bits. -/
theorem one_of_words {C : Array Value} {n : Nat} (hn : C.size = n) (h : ∀ i, i < n → ∃ z : Nat, C[i]? = some (.int .u32 (z : Int))) : ∀ v ∈ C.toList, v.oneCell' = true := by
  intro v hv
  obtain ⟨i, hi, rfl⟩ := List.getElem_of_mem hv
  obtain ⟨z, hz⟩ := h i (by rw [← hn]; simpa using hi)
  rw [Array.getElem_toList]
  rw [Array.getElem?_eq_getElem (by simpa using hi)] at hz
  rw [Option.some.inj hz]
  rfl
theorem all_of_words {C : Array Value} {n : Nat} (hn : C.size = n) (h : ∀ i, i < n → ∃ z : Nat, C[i]? = some (.int .u32 (z : Int))) : C.all (·.oneCell') = true :=
  Array.all_eq_true_iff_forall_mem.2 (fun v hv => one_of_words hn h v (by simpa using hv))
end Go.Proofs.YtpcmpeeflnlkpaaDoor

namespace Go.Proofs.YtpcmpeeflnlkpaaDoor
open Go.RowKit
set_option maxRecDepth 100000

section
variable {P : Program} {ops : Array Oper} {Q : Exit → Act → World → Prop} {md : Region.Mode} {S : World → Prop} {z : Nat}
/-- Whatever order is picked, and S behind every operation but z. -/
def Until (P : Program) (md : Region.Mode) (ops : Array Oper) (Q : Exit → Act → World → Prop) (S : World → Prop) (z : Nat) : Nat → Array Bool → Act → World → Prop
  | 0, listed, a, w => Region.ready md ops listed = [] ∧ Q .normal a w
  | n + 1, listed, a, w => (Region.ready md ops listed = [] → Q .normal a w) ∧ ∀ j ∈ Region.ready md ops listed, wpOp P ops Q j (fun b u => (j ≠ z → S u) ∧ Until P md ops Q S z n (listed.setIfInBounds j true) b u) a w
theorem until_any : ∀ (n : Nat) (listed : Array Bool) (a : Act) (w : World), Until P md ops Q S z n listed a w → wpAny P md ops Q n listed a w := by
  intro n
  induction n with
  | zero => exact fun _ _ _ h => h
  | succ n ih => exact fun _ _ _ h => ⟨h.1, fun j hj => wpOp_mono (fun b u k => ih _ b u k.2) (h.2 j hj)⟩
theorem until_region {id : Nat} {a : Act} {w : World} (hm : P.follows .mixedOrders = true) (hS : S w.drew) (h : S w.drew → Until P .any ops Q S z ops.size (Array.replicate ops.size false) a w.drew) : (Code.region id ops true).wp P Q a w :=
  wp_region_any hm (until_any _ _ _ _ (h hS))
theorem until_first {i : Nat} {oi : Oper} {v : Value} (hi : ops[i]? = some oi) (hsel : ∀ (j : Nat) (o : Oper) cs b, ops[j]? = some o → o.op ≠ .select cs b)
    (hQ : ∀ c a w, Q (.panic c) (a.put oi.dst v) w → Q (.panic c) a w) (hz : Region.waitsFor md ops z i = true) :
    ∀ (n : Nat) (listed : Array Bool) (a : Act) (w : World),
      (∀ j oj, ops[j]? = some oj → j ≠ i → listed.getD j true = false → (∀ e ∈ oj.after, Region.binds md e = true → e.on ≠ i) → oi.apart ops oj = true) →
      i ∈ Region.ready md ops listed → YieldsIf P ops S oi v a → S w → Until P md ops Q S z n (listed.setIfInBounds i true) (a.put oi.dst v) w → Until P md ops Q S z (n + 1) listed a w := by
  obtain ⟨oz, hoz, e0, he0, hb0, hon⟩ := Region.waitsFor_spec hz
  intro n
  induction n with
  | zero =>
    intro listed a w _ hr hy hS H
    constructor
    · intro h0; rw [h0] at hr; cases hr
    · intro j hj
      rcases Nat.decEq j i with hne | heq
      · have := ready_mono hj hne
        rw [H.1] at this
        cases this
      · rw [heq]
        exact hy.wpOp hi hS ⟨fun _ => hS, H⟩
  | succ n ih =>
    intro listed a w hfree hr hy hS H
    constructor
    · intro h0; rw [h0] at hr; cases hr
    · intro j hj
      rcases Nat.decEq j i with hne | heq
      · obtain ⟨hjun, oj, hoj, hall⟩ := mem_ready.1 hj
        have hnot : ∀ e ∈ oj.after, Region.binds md e = true → e.on ≠ i := by
          intro e he hb hei
          have k1 := hall e he hb
          have k0 := (mem_ready.1 hr).1
          rw [hei] at k1
          rcases Nat.lt_or_ge i listed.size with hs | hs
          · simp [hs] at k0 k1
            rw [k0] at k1
            cases k1
          · simp [Array.getElem?_eq_none hs] at k1
        have hjz : j ≠ z := by
          intro e
          rw [e, hoz] at hoj
          cases hoj
          exact hnot e0 he0 hb0 hon
        have k2 := wpOp_putIf hoj (hfree j oj hoj hne hjun hnot) (fun cs b => hsel i oi cs b hi) (fun cs b => hsel j oj cs b hoj) hQ hy (H.2 j (ready_mono hj hne))
        refine wpOp_mono (fun b u k3 => ⟨fun _ => k3.2.1 hjz, ih _ b u ?_ (ready_mono hr (Ne.symm hne)) k3.1 (k3.2.1 hjz) ?_⟩) k2
        · intro k ok hk hki hun hno
          refine hfree k ok hk hki ?_ hno
          rcases Nat.decEq j k with hjk | hjk
          · rw [getD_set_ne true hjk] at hun
            exact hun
          · rw [← hjk]
            exact hjun
        · rw [Array.setIfInBounds_comm _ _ hne]
          exact k3.2.2
      · rw [heq]
        exact hy.wpOp hi hS ⟨fun _ => hS, H⟩
theorem until_take {i : Nat} {oi : Oper} {v : Value} {n : Nat} {listed : Array Bool} {a : Act} {w : World} (hi : ops[i]? = some oi) (hs : Region.noSelect ops = true) (hf : Region.free md ops listed i = true) (hr : (Region.ready md ops listed).contains i = true) (hz : Region.waitsFor md ops z i = true)
    (hQ : ∀ c a w, Q (.panic c) (a.put oi.dst v) w → Q (.panic c) a w) (hy : YieldsIf P ops S oi v a) (hS : S w) (h : Until P md ops Q S z n (listed.setIfInBounds i true) (a.put oi.dst v) w) : Until P md ops Q S z (n + 1) listed a w :=
  until_first hi (Region.noSelect_spec hs) hQ hz n listed a w (Region.free_spec hi hf) (by simpa using hr) hy hS h
/-- One alone may come up. -/
theorem until_one {i : Nat} {oi : Oper} {n : Nat} {listed : Array Bool} {a : Act} {w : World} (hi : ops[i]? = some oi) (hr : Region.ready md ops listed = [i]) (h : ∀ K' : Act → World → Prop, Hid (∀ b u, (i ≠ z → S u) → ((i ≠ z → S u) → Until P md ops Q S z n (listed.setIfInBounds i true) b u) → K' b u) → if Region.wanted oi (yielded ops a.tmps) = true then Oper.wp P oi a w K' Q else K' (a.put oi.dst undef) w) : Until P md ops Q S z (n + 1) listed a w := by
  constructor
  · intro h0; rw [h0] at hr; cases hr
  · intro j hj
    rw [hr] at hj
    obtain rfl := List.mem_singleton.1 hj
    exact wpOp_step hi (fun K' hK => h K' (fun b u hS hU => hK b u ⟨hS, hU hS⟩))
theorem until_done {listed : Array Bool} {a : Act} {w : World} (hr : Region.ready md ops listed = []) (h : Q .normal a w) : ∀ n, Until P md ops Q S z n listed a w := by
  intro n
  cases n with
  | zero => exact ⟨hr, h⟩
  | succ n => exact ⟨fun _ => h, by rw [hr]; simp⟩
end
end Go.Proofs.YtpcmpeeflnlkpaaDoor
