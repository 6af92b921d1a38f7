/-
  
  
  
  
  
-/
import Derived.Test.YtpcmpeeflnlkpaaGreatDoorGPlainEtc
import Derived.OwnWalk
/-
  PLAIN: SHA-256 over plain numbers. No program is named here.
-/
namespace Go.Proofs.YtpcmpeeflnlkpaaGreatDoor.Ch

/-- To the right, around. -/
def rotr (n x : Nat) : Nat := x * 2 ^ (32 - n) % 4294967296 ||| x / 2 ^ n
def sgA (x : Nat) : Nat := rotr 7 x ^^^ rotr 18 x ^^^ x / 8
def sgB (x : Nat) : Nat := rotr 17 x ^^^ rotr 19 x ^^^ x / 1024
def bgA (x : Nat) : Nat := rotr 2 x ^^^ rotr 13 x ^^^ rotr 22 x
def bgB (x : Nat) : Nat := rotr 6 x ^^^ rotr 11 x ^^^ rotr 25 x
def chooN (x y z : Nat) : Nat := (x &&& y) ^^^ ((4294967295 - x) &&& z)
def majN (x y z : Nat) : Nat := (x &&& y) ^^^ (x &&& z) ^^^ (y &&& z)
theorem rotr_lt (n x : Nat) (h : x < 4294967296) : rotr n x < 4294967296 :=
  Nat.or_lt_two_pow (n := 32) (Nat.mod_lt _ (by decide)) (Nat.lt_of_le_of_lt (Nat.div_le_self _ _) h)
theorem xor_lt32 {a b : Nat} (ha : a < 4294967296) (hb : b < 4294967296) : a ^^^ b < 4294967296 := Nat.xor_lt_two_pow (n := 32) ha hb
theorem and_lt32 {a b : Nat} (hb : b < 4294967296) : a &&& b < 4294967296 := Nat.and_lt_two_pow (n := 32) a hb
theorem sgA_lt {x : Nat} (h : x < 4294967296) : sgA x < 4294967296 := xor_lt32 (xor_lt32 (rotr_lt _ _ h) (rotr_lt _ _ h)) (by omega)
theorem sgB_lt {x : Nat} (h : x < 4294967296) : sgB x < 4294967296 := xor_lt32 (xor_lt32 (rotr_lt _ _ h) (rotr_lt _ _ h)) (by omega)
theorem bgA_lt {x : Nat} (h : x < 4294967296) : bgA x < 4294967296 := xor_lt32 (xor_lt32 (rotr_lt _ _ h) (rotr_lt _ _ h)) (rotr_lt _ _ h)
theorem bgB_lt {x : Nat} (h : x < 4294967296) : bgB x < 4294967296 := xor_lt32 (xor_lt32 (rotr_lt _ _ h) (rotr_lt _ _ h)) (rotr_lt _ _ h)
theorem choo_lt {x y z : Nat} (hy : y < 4294967296) (hz : z < 4294967296) : chooN x y z < 4294967296 := xor_lt32 (and_lt32 hy) (and_lt32 hz)
theorem maj_lt {x y z : Nat} (hy : y < 4294967296) (hz : z < 4294967296) : majN x y z < 4294967296 := xor_lt32 (xor_lt32 (and_lt32 hy) (and_lt32 hz)) (and_lt32 hz)
/-- The byte of a list at a place, as a number. -/
def byL (b : List UInt8) (i : Nat) : Nat := ((b[i]?).getD 0).toNat
theorem byL_lt (b : List UInt8) (i : Nat) : byL b i < 256 := UInt8.toNat_lt _
def wordAt (b : List UInt8) (t : Nat) : Nat := ((byL b (4 * t) * 256 + byL b (4 * t + 1)) * 256 + byL b (4 * t + 2)) * 256 + byL b (4 * t + 3)
theorem wordAt_lt (b : List UInt8) (t : Nat) : wordAt b t < 4294967296 := by
  have h0 := byL_lt b (4 * t)
  have h1 := byL_lt b (4 * t + 1)
  have h2 := byL_lt b (4 * t + 2)
  have h3 := byL_lt b (4 * t + 3)
  unfold wordAt
  omega
def atN (l : List Nat) (i : Nat) : Nat := (l[i]?).getD 0
/-- The word behind those of a schedule. -/
def nextW (b : List UInt8) (W : List Nat) : Nat := if W.length < 16 then wordAt b W.length else (sgB (atN W (W.length - 2)) + atN W (W.length - 7) + sgA (atN W (W.length - 15)) + atN W (W.length - 16)) % 4294967296
def schedN (b : List UInt8) : Nat → List Nat
  | 0 => []
  | n + 1 => schedN b n ++ [nextW b (schedN b n)]
theorem schedN_length (b : List UInt8) (n : Nat) : (schedN b n).length = n := by
  induction n with
  | zero => rfl
  | succ n ih => rw [schedN, List.length_append, ih]; rfl
theorem schedN_prefix (b : List UInt8) (n m i : Nat) (h : i < n) (hm : n ≤ m) : atN (schedN b m) i = atN (schedN b n) i := by
  induction m with
  | zero => omega
  | succ m ih =>
    by_cases e : n = m + 1
    · rw [e]
    · rw [← ih (by omega), schedN]
      unfold atN
      rw [List.getElem?_append_left (by rw [schedN_length]; omega)]
theorem schedN_last (b : List UInt8) (n : Nat) : atN (schedN b (n + 1)) n = nextW b (schedN b n) := by
  rw [schedN]
  unfold atN
  rw [List.getElem?_append_right (by rw [schedN_length]; exact Nat.le_refl _), schedN_length, Nat.sub_self]
  rfl
theorem nextW_lt (b : List UInt8) (W : List Nat) : nextW b W < 4294967296 := by
  unfold nextW
  split
  · exact wordAt_lt _ _
  · exact Nat.mod_lt _ (by decide)
theorem schedN_lt (b : List UInt8) (n i : Nat) : atN (schedN b n) i < 4294967296 := by
  by_cases h : i < n
  · rw [schedN_prefix b (i + 1) n i (by omega) (by omega), schedN_last]
    exact nextW_lt _ _
  · unfold atN
    rw [List.getElem?_eq_none (by rw [schedN_length]; omega)]
    decide
/-- The state: eight words. -/
structure S8 where
  a : Nat
  b : Nat
  c : Nat
  d : Nat
  e : Nat
  f : Nat
  g : Nat
  h : Nat
def S8.ok (s : S8) : Prop := s.a < 4294967296 ∧ s.b < 4294967296 ∧ s.c < 4294967296 ∧ s.d < 4294967296 ∧ s.e < 4294967296 ∧ s.f < 4294967296 ∧ s.g < 4294967296 ∧ s.h < 4294967296
def roundK : List Nat := [0x428a2f98, 0x71374491, 0xb5c0fbcf, 0xe9b5dba5, 0x3956c25b, 0x59f111f1, 0x923f82a4, 0xab1c5ed5,
  0xd807aa98, 0x12835b01, 0x243185be, 0x550c7dc3, 0x72be5d74, 0x80deb1fe, 0x9bdc06a7, 0xc19bf174,
  0xe49b69c1, 0xefbe4786, 0x0fc19dc6, 0x240ca1cc, 0x2de92c6f, 0x4a7484aa, 0x5cb0a9dc, 0x76f988da,
  0x983e5152, 0xa831c66d, 0xb00327c8, 0xbf597fc7, 0xc6e00bf3, 0xd5a79147, 0x06ca6351, 0x14292967,
  0x27b70a85, 0x2e1b2138, 0x4d2c6dfc, 0x53380d13, 0x650a7354, 0x766a0abb, 0x81c2c92e, 0x92722c85,
  0xa2bfe8a1, 0xa81a664b, 0xc24b8b70, 0xc76c51a3, 0xd192e819, 0xd6990624, 0xf40e3585, 0x106aa070,
  0x19a4c116, 0x1e376c08, 0x2748774c, 0x34b0bcb5, 0x391c0cb3, 0x4ed8aa4a, 0x5b9cca4f, 0x682e6ff3,
  0x748f82ee, 0x78a5636f, 0x84c87814, 0x8cc70208, 0x90befffa, 0xa4506ceb, 0xbef9a3f7, 0xc67178f2]
def rnd (k w : Nat) (s : S8) : S8 :=
  let t1 := (s.h + bgB s.e + chooN s.e s.f s.g + k + w) % 4294967296
  let t2 := (bgA s.a + majN s.a s.b s.c) % 4294967296
  ⟨(t1 + t2) % 4294967296, s.a, s.b, s.c, (s.d + t1) % 4294967296, s.e, s.f, s.g⟩
def rounds (W : List Nat) (s : S8) : Nat → S8
  | 0 => s
  | n + 1 => rnd (atN roundK n) (atN W n) (rounds W s n)
theorem rnd_ok {k w : Nat} {s : S8} (h : s.ok) : (rnd k w s).ok := by
  obtain ⟨ha, hb, hc, hd, he, hf, hg, hh⟩ := h
  exact ⟨Nat.mod_lt _ (by decide), ha, hb, hc, Nat.mod_lt _ (by decide), he, hf, hg⟩
theorem rounds_ok {W : List Nat} {s : S8} (h : s.ok) (n : Nat) : (rounds W s n).ok := by
  induction n with
  | zero => exact h
  | succ n ih => exact rnd_ok ih
def addS (s t : S8) : S8 := ⟨(s.a + t.a) % 4294967296, (s.b + t.b) % 4294967296, (s.c + t.c) % 4294967296, (s.d + t.d) % 4294967296, (s.e + t.e) % 4294967296, (s.f + t.f) % 4294967296, (s.g + t.g) % 4294967296, (s.h + t.h) % 4294967296⟩
theorem addS_ok (s t : S8) : (addS s t).ok := ⟨Nat.mod_lt _ (by decide), Nat.mod_lt _ (by decide), Nat.mod_lt _ (by decide), Nat.mod_lt _ (by decide), Nat.mod_lt _ (by decide), Nat.mod_lt _ (by decide), Nat.mod_lt _ (by decide), Nat.mod_lt _ (by decide)⟩
/-- The state behind one block more. -/
def mixS (s : S8) (b : List UInt8) : S8 := addS s (rounds (schedN b 64) s 64)
def S8.l (s : S8) : List Nat := [s.a, s.b, s.c, s.d, s.e, s.f, s.g, s.h]
def beginS : S8 := ⟨0x6a09e667, 0xbb67ae85, 0x3c6ef372, 0xa54ff53a, 0x510e527f, 0x9b05688c, 0x1f83d9ab, 0x5be0cd19⟩
theorem beginS_ok : beginS.ok := by unfold S8.ok; decide
/-- The state behind the first n blocks. -/
def blocksS (m : List UInt8) : Nat → S8
  | 0 => beginS
  | n + 1 => mixS (blocksS m n) ((m.drop (64 * n)).take 64)
theorem blocksS_ok (m : List UInt8) (n : Nat) : (blocksS m n).ok := by
  cases n with
  | zero => exact beginS_ok
  | succ n => exact addS_ok _ _
theorem blocksS_append (m t : List UInt8) (n : Nat) (h : 64 * n ≤ m.length) : blocksS (m ++ t) n = blocksS m n := by
  induction n with
  | zero => rfl
  | succ n ih =>
    rw [blocksS, blocksS, ih (by omega)]
    congr 1
    rw [List.drop_append_of_le_length (by omega), List.take_append_of_le_length (by rw [List.length_drop]; omega)]
def wordB (x : Nat) : List UInt8 := [UInt8.ofNat (x / 16777216 % 256), UInt8.ofNat (x / 65536 % 256), UInt8.ofNat (x / 256 % 256), UInt8.ofNat (x % 256)]
def stateB (s : S8) : List UInt8 := s.l.flatMap wordB
/-- The count of bits, in eight bytes. -/
def countB (n : Nat) : List UInt8 := (List.range 8).map fun i => UInt8.ofNat (n * 8 / 2 ^ (8 * (7 - i)) % 256)
def fillB (n : Nat) : List UInt8 := 128 :: List.replicate ((119 - n % 64) % 64) 0
def padL (m : List UInt8) : List UInt8 := m ++ fillB m.length ++ countB m.length
def shaL (m : List UInt8) : List UInt8 := stateB (blocksS (padL m) ((padL m).length / 64))
theorem countB_length (n : Nat) : (countB n).length = 8 := by simp [countB]
theorem fillB_length (n : Nat) : (fillB n).length = 1 + (119 - n % 64) % 64 := by simp [fillB]; omega
theorem padL_length (m : List UInt8) : (padL m).length % 64 = 0 := by
  unfold padL
  rw [List.length_append, List.length_append, fillB_length, countB_length]
  omega
theorem stateB_length (s : S8) : (stateB s).length = 32 := rfl
theorem shaL_length (m : List UInt8) : (shaL m).length = 32 := rfl
end Go.Proofs.YtpcmpeeflnlkpaaGreatDoor.Ch

/-
  Rows of whole numbers of any kind: read, made, appended to, written. Of no layer alone.
-/
namespace Go.Proofs.YtpcmpeeflnlkpaaGreatDoor
open Go.RowKit Ch
set_option maxRecDepth 100000

/-- A kind of whole numbers, with its slice's type. -/
structure KR where
  k : IntKind
  e : TypeId
  ts : TypeId
  size : Nat
  hu : Tryz.prog.underlying ts = some (.slice e)
  hi : (Tryz.prog.info? e).map (fun i => (i.zero, i.size, i.bytes)) = some (some (.int k 0), 1, size)
  hb8 : size ≤ 8
def kc (k : IntKind) (L : List Nat) : List Value := L.map fun n : Nat => .int k (n : Int)
theorem kc_length (k : IntKind) (L : List Nat) : (kc k L).length = L.length := by simp [kc]
theorem kc_append (k : IntKind) (a b : List Nat) : kc k (a ++ b) = kc k a ++ kc k b := by simp [kc]
theorem kc_at {k : IntKind} {L : List Nat} {i n : Nat} (h : L[i]? = some n) : (kc k L)[i]? = some (.int k (n : Int)) := by simp [kc, h]
theorem kc_set (k : IntKind) (L : List Nat) (i n : Nat) : (kc k L).set i (.int k (n : Int)) = kc k (L.set i n) := by simp [kc, List.map_set]
theorem kc_one (k : IntKind) (L : List Nat) : ∀ u ∈ kc k L, u.oneCell' = true := by
  intro u hu
  obtain ⟨c, _, rfl⟩ := List.mem_map.1 hu
  rfl
/-- A slice of these numbers. -/
def IsN (k : IntKind) (w : World) (v : Value) (L : List Nat) : Prop :=
  ∃ a cap, v = .slice a L.length cap ∧ L.length ≤ cap ∧ cap ≤ maxLen ∧ ((a = none ∧ L.length = 0 ∧ cap = 0) ∨ ∃ x, a = some x ∧ (L.length = 0 ∨ ∃ b o, x = ⟨b, o, none⟩ ∧ b < w.heap.size ∧ ∀ i n : Nat, L[i]? = some n → w.cell? ⟨b, o + i, none⟩ = some (.int k (n : Int))))
theorem IsN.later {k : IntKind} {w w' : World} {v : Value} {L : List Nat} (h : IsN k w v L) (hw : Below w.heap.size w w') : IsN k w' v L := by
  obtain ⟨a, cap, hv, hc, hm, h | ⟨x, ha, h | ⟨b, o, hx, hb, hf⟩⟩⟩ := h
  · exact ⟨a, cap, hv, hc, hm, .inl h⟩
  · exact ⟨a, cap, hv, hc, hm, .inr ⟨x, ha, .inl h⟩⟩
  · exact ⟨a, cap, hv, hc, hm, .inr ⟨x, ha, .inr ⟨b, o, hx, Nat.lt_of_lt_of_le hb hw.size, fun i n hn => (hw.cell (p := ⟨b, o + i, none⟩) hb).trans (hf i n hn)⟩⟩⟩
theorem IsN.alloc {k : IntKind} {w : World} {v : Value} {L : List Nat} (h : IsN k w v L) (o : Obj) : IsN k (w.alloc o) v L := h.later ((Below.refl _ w).alloc (Nat.le_refl _) o)
theorem IsN.cellAt {k : IntKind} {w : World} {a : Option Addr} {m cap : Nat} {L : List Nat} (h : IsN k w (.slice a m cap) L) {i n : Nat} (hn : L[i]? = some n) : m = L.length ∧ ∃ b o, a = some ⟨b, o, none⟩ ∧ b < w.heap.size ∧ w.cell? ⟨b, o + i, none⟩ = some (.int k (n : Int)) := by
  have hi : i < L.length := (List.getElem?_eq_some_iff.1 hn).1
  obtain ⟨a', cap', hv, hc, hm, ⟨_, h0, _⟩ | ⟨y, hy, h0 | ⟨b, o, hx, hb, hf⟩⟩⟩ := h
  · omega
  · omega
  · simp only [Value.slice.injEq] at hv
    exact ⟨hv.2.1, b, o, by rw [hv.1, hy, hx], hb, hf i n hn⟩
theorem own_n {k : IntKind} {e : TypeId} {w : World} {base : Nat} {v : Value} {L : List Nat} (h : w.ownsRow base e 1 v L.length (kc k L)) : IsN k w v L := by
  have hcl := fun g (hg : v.ownBlock = some g) => World.ownsRow.cells h hg
  rcases h.2 with ⟨hv, h0⟩ | ⟨g, cap, cur, hv, hb, hh, hcap, hmax, _⟩
  · exact ⟨none, 0, by rw [hv, h0], by omega, by unfold maxLen; omega, .inl ⟨rfl, h0, rfl⟩⟩
  · refine ⟨_, cap, hv, hcap, hmax, .inr ⟨_, rfl, .inr ⟨g, 0, rfl, block_lt hh, fun i n hn => ?_⟩⟩⟩
    have := hcl g (by rw [hv]; rfl) i (.int k (n : Int)) (kc_at hn)
    have e : (⟨g, 0, none⟩ : Addr).add i = ⟨g, 0 + i, none⟩ := by unfold Addr.add; split <;> simp_all
    rw [e] at this
    exact this
theorem IsN.news {k : IntKind} {w : World} {x : Addr} {n cap : Nat} {L : List Nat} (h : IsN k w (.slice (some x) n cap) L) : ∀ j u, (kc k L)[j]? = some u → w.cell? (x.add j) = some u := by
  intro j u hj
  have hj2 : j < L.length := by have := (List.getElem?_eq_some_iff.1 hj).1; rw [kc_length] at this; exact this
  have hn : L[j]? = some L[j] := List.getElem?_eq_getElem hj2
  rw [kc_at hn] at hj
  obtain ⟨_, b, o, hx, _, hc⟩ := h.cellAt hn
  obtain rfl := Option.some.inj hx
  have e : (⟨b, o, none⟩ : Addr).add j = ⟨b, o + j, none⟩ := by unfold Addr.add; split <;> simp_all
  rw [e, hc]
  exact hj
theorem own_nil (w : World) (base : Nat) (e : TypeId) : w.ownsRow base e 1 (.slice none 0 0) 0 [] := ⟨rfl, .inl ⟨rfl, rfl⟩⟩
theorem own_emptyN (w : World) (base : Nat) (e : TypeId) (hb : base ≤ w.heap.size) : (w.alloc (.cells #[] e)).ownsRow base e 1 (.slice (some ⟨w.heap.size, 0, none⟩) 0 0) 0 [] :=
  ⟨rfl, .inr ⟨w.heap.size, 0, #[], rfl, hb, heap_push_at w _, Nat.le_refl _, by unfold maxLen; omega, rfl, rfl⟩⟩
theorem own_monoN {w : World} {b b2 : Nat} {e : TypeId} {size n : Nat} {v : Value} {xs : List Value} (h : w.ownsRow b2 e size v n xs) (hb : b ≤ b2) : w.ownsRow b e size v n xs := by
  refine ⟨h.1, ?_⟩
  rcases h.2 with h2 | ⟨g, cap, cur, hv, hg2, hh, r⟩
  · exact .inl h2
  · exact .inr ⟨g, cap, cur, hv, by omega, hh, r⟩
/-- append of one number that was just laid down, onto what the call owns. -/
theorem wpList_append_n (R : KR) {w0 wr : World} {ops : Array Oper} {rest : List Oper} {o : Oper} {ac : Act} {Q : Exit → Act → World → Prop} (hgd : o.guard = none) (so x : Operand)
    (ho : o.op = .call { callee := .builtin .append, args := #[so, x], argTypes := #[R.ts, R.ts] })
    (base : Nat) (v : Value) (acc : List Nat) (hs : ac.eval so = v) (hown : wr.ownsRow base R.e 1 v acc.length (kc R.k acc))
    (z : Int) (hx : ac.eval x = .slice (some ⟨wr.heap.size, 0, none⟩) 1 1) (c : Nat) (hc : Hid (z = (c : Int))) (acc' : List Nat) (he : Hid (acc ++ [c] = acc')) (hlen : acc.length ≤ 1000000) (hbase : base ≤ wr.heap.size) (hb : Below base w0 wr)
    (h : ∀ v' w', w'.ownsRow base R.e 1 v' acc'.length (kc R.k acc') → Below base w0 w' → wpList Tryz.prog ops Q rest (ac.put o.dst v') w') :
    wpList Tryz.prog ops Q (o :: rest) ac (wr.alloc (.cells #[.int R.k z] R.e)) := by
  obtain ⟨i0, hi, hz0, hz1, hz2⟩ := info_parts R.hi
  have h8 := R.hb8
  refine wpList_append_own _ hgd _ _ R.ts ho base R.e i0 (.int R.k 0) 1 R.size R.hu hi hz0 hz1 hz2 rfl (by decide) v _ _ hs (hown.alloc _) ⟨wr.heap.size, 0, none⟩ 1 1 [_] hx rfl (cell_one_new _ _ _) (by intro u hu; simp at hu; subst hu; rfl) (by unfold maxLen; omega) (Nat.le_trans (Nat.mul_le_mul_left _ h8) (by omega)) (by simp; omega) ?_
  intro v' w2 hown2 hgrow _
  have hb2 := below_grown hb hbase hown hgrow
  rw [hc.out] at hown2
  have e : kc R.k acc ++ [Value.int R.k (c : Int)] = kc R.k acc' := by rw [← he.out, kc_append]; rfl
  have e2 : acc.length + 1 = acc'.length := by rw [← he.out]; simp
  rw [e, e2] at hown2
  exact h v' w2 hown2 hb2
/-- append of a slice of numbers, nil or not, onto what the call owns. -/
theorem wpList_append_ns (R : KR) {w : World} {ops : Array Oper} {rest : List Oper} {o : Oper} {ac : Act} {Q : Exit → Act → World → Prop} (hgd : o.guard = none) (so x : Operand)
    (ho : o.op = .call { callee := .builtin .append, args := #[so, x], argTypes := #[R.ts, R.ts] })
    (base : Nat) (v : Value) (acc : List Nat) (hs : ac.eval so = v) (hown : w.ownsRow base R.e 1 v acc.length (kc R.k acc))
    (u : Value) (L : List Nat) (hx : ac.eval x = u) (hu : IsN R.k w u L) (acc' : List Nat) (he : Hid (acc ++ L = acc')) (hsz : acc.length + L.length ≤ 1000000) (hbase : base ≤ w.heap.size)
    (h : ∀ v' w', w'.ownsRow base R.e 1 v' acc'.length (kc R.k acc') → Below base w w' → wpList Tryz.prog ops Q rest (ac.put o.dst v') w') : wpList Tryz.prog ops Q (o :: rest) ac w := by
  obtain ⟨i0, hi, hz0, hz1, hz2⟩ := info_parts R.hi
  have h8 := R.hb8
  rw [← he.out, kc_append, List.length_append] at h
  obtain ⟨a, cap, rfl, hc, hm, hrest⟩ := hu
  match a, hrest with
  | none, hrest =>
    have h0 : L.length = 0 ∧ cap = 0 := by
      rcases hrest with ⟨_, h0, h1⟩ | ⟨_, h0, _⟩
      · exact ⟨h0, h1⟩
      · cases h0
    have ht : L = [] := List.eq_nil_of_length_eq_zero h0.1
    subst ht
    rw [h0.2] at hx
    refine wpList_append_own_none hgd so x R.ts ho base R.e i0 1 R.hu hi v acc.length _ hs hown hx (h v w ?_ (Below.refl _ _))
    simpa [kc] using hown
  | some y, hrest =>
    refine wpList_append_own w hgd so x R.ts ho base R.e i0 (.int R.k 0) 1 R.size R.hu hi hz0 hz1 hz2 rfl (by decide) v acc.length _ hs hown y L.length cap (kc R.k L) hx (by rw [kc_length]; omega) (IsN.news (n := L.length) (cap := cap) ⟨some y, cap, rfl, hc, hm, hrest⟩) (kc_one R.k L) (by unfold maxLen; omega) (Nat.le_trans (Nat.mul_le_mul_left _ h8) (by omega)) hbase ?_
    intro v' w' ho' hg _
    exact h v' w' ho' ((Below.refl _ w).grown hg hbase (own_ge hown))
theorem made_kc (k : IntKind) (n : Nat) : (madeCells (Value.int k 0).cells (n * 1)).toList = kc k (List.replicate n 0) := by
  apply List.ext_getElem?
  intro i
  rw [Nat.mul_one]
  unfold madeCells kc
  by_cases h : i < n
  · have h1 : i % 1 = 0 := Nat.mod_one i
    simp [h, Value.cells, h1]
  · simp [h]
/-- make of so many noughts. -/
theorem wpList_make_n (R : KR) (w : World) {ops : Array Oper} {rest : List Oper} {o : Oper} {a : Act} {Q : Exit → Act → World → Prop}
    (hg : o.guard = none) (l c : Operand) (hop : o.op = Op.makeSlice R.ts l c) (kl kcc : IntKind) (N C : Int) (n : Nat) (hl : a.eval l = .int kl N) (hc : a.eval c = .int kcc C) (hL : N = (n : Int)) (hC : C = (n : Int)) (hn : n ≤ 1000000)
    (hK : ∀ w', w'.ownsRow w.heap.size R.e 1 (.slice (some ⟨w.heap.size, 0, none⟩) n n) (List.replicate n 0).length (kc R.k (List.replicate n 0)) → Below w.heap.size w w' → wpList Tryz.prog ops Q rest (a.put o.dst (.slice (some ⟨w.heap.size, 0, none⟩) n n)) w') :
    wpList Tryz.prog ops Q (o :: rest) a w := by
  obtain ⟨i0, hi, hz0, hz1, hz2⟩ := info_parts R.hi
  have h8 := R.hb8
  refine wpList_make_full w hg l c R.ts hop w.heap.size R.e i0 (.int R.k 0) 1 R.hu hi hz0 hz1 kl kcc N C n hl hc hL hC (by rw [hz2]; exact Nat.le_trans (Nat.mul_le_mul h8 hn) (by omega)) (by unfold maxLen; omega) (Nat.le_refl _) ?_
  intro w' ho hgr
  rw [made_kc] at ho
  exact hK w' (by rw [List.length_replicate]; exact ho) ((Below.refl _ w).grown hgr (Nat.le_refl _) (fun k h => by cases h))
/-- A number of a row that is owned, and another in its place. -/
theorem own_setN {k : IntKind} {e : TypeId} {w : World} {base : Nat} {v : Value} {L : List Nat} (h : w.ownsRow base e 1 v L.length (kc k L)) {i n : Nat} (hn : L[i]? = some n) :
    ∃ g cap, v = .slice (some ⟨g, 0, none⟩) L.length cap ∧ L.length ≤ cap ∧ base ≤ g ∧ g < w.heap.size ∧ w.cell? ⟨g, i, none⟩ = some (.int k (n : Int)) ∧ w.frozen? ⟨g, i, none⟩ = false ∧ ∀ m : Nat, (w.setCell ⟨g, i, none⟩ (.int k (m : Int))).ownsRow base e 1 v (L.set i m).length (kc k (L.set i m)) := by
  have hi : i < L.length := (List.getElem?_eq_some_iff.1 hn).1
  obtain ⟨g, cap, h1, h2, h3, h4, h5, h6, h7⟩ := own_set h hi
  refine ⟨g, cap, h1, h2, h3, h4, by rw [h5, kc_at hn], h6, fun m => ?_⟩
  rw [← kc_set, List.length_set]
  exact h7 _
/-- The same, where it lies. -/
theorem own_setG {k : IntKind} {e : TypeId} {w : World} {base g m c : Nat} {L : List Nat} (h : w.ownsRow base e 1 (.slice (some ⟨g, 0, none⟩) m c) L.length (kc k L)) {i n : Nat} (hn : L[i]? = some n) :
    m = L.length ∧ L.length ≤ c ∧ base ≤ g ∧ g < w.heap.size ∧ w.cell? ⟨g, i, none⟩ = some (.int k (n : Int)) ∧ w.frozen? ⟨g, i, none⟩ = false ∧ ∀ q : Nat, (w.setCell ⟨g, i, none⟩ (.int k (q : Int))).ownsRow base e 1 (.slice (some ⟨g, 0, none⟩) m c) (L.set i q).length (kc k (L.set i q)) := by
  obtain ⟨g', cap, h1, h2, h3, h4, h5, h6, h7⟩ := own_setN h hn
  simp only [Value.slice.injEq, Option.some.injEq, Addr.mk.injEq, and_true] at h1
  obtain ⟨h1, h8, h9⟩ := h1
  subst h1 h9
  exact ⟨h8, h2, h3, h4, h5, h6, h7⟩
theorem atN_some {L : List Nat} {i : Nat} (h : i < L.length) : L[i]? = some (atN L i) := by
  unfold atN
  rw [List.getElem?_eq_getElem h]
  rfl
end Go.Proofs.YtpcmpeeflnlkpaaGreatDoor

/-
  Appends onto one row while another is kept: where the row lies afterwards. Of no layer alone.
-/
namespace Go.Proofs.YtpcmpeeflnlkpaaGreatDoor
open Go.RowKit Ch
set_option maxRecDepth 100000

theorem run_append_where {P : Program} (w : World) (base : Nat) (t ty e : TypeId) (i : TypeInfo) (z : Value) (bytes : Nat) (ht : P.underlying t = some (.slice e)) (hi : P.info? e = some i) (hz : i.zero = some z)
    (hsize : i.size = 1) (hby : i.bytes = bytes) (hzs : z.cells.size = 1)
    (v : Value) (n : Nat) (xs : List Value) (hown : w.ownsRow base e 1 v n xs)
    (a : Addr) (m c : Nat) (news : List Value) (hl : news.length = m * 1) (hnews : ∀ j u, news[j]? = some u → w.cell? (a.add j) = some u) (h1 : ∀ u ∈ news, u.oneCell' = true)
    (h63 : n + m ≤ maxLen) (hbytes : (n + m) * bytes ≤ 140737488355328) (hbase : base ≤ w.heap.size) (hm : 0 < m) :
    ∃ v' w', (Builtin.append_ #[t, t] ty #[v, .slice (some a) m c]).run P w = .ok v' w' ∧ w'.ownsRow base e 1 v' (n + m) (xs ++ news) ∧ w.grownBy w' v.ownBlock ∧ (v'.ownBlock = v.ownBlock ∨ v'.ownBlock = some w.heap.size) := by
  obtain ⟨v', w', hr, h2, h3, _⟩ := run_append_own (P := P) w base t ty e i z 1 bytes ht hi hz hsize hby hzs (by decide) v n xs hown a m c news hl hnews h1 h63 hbytes hbase
  refine ⟨v', w', hr, h2, h3, ?_⟩
  have hsmall : n + m ≤ 9223372036854775807 := by simp only [maxLen] at h63; omega
  have hl' : news.length = m * i.size := by rw [hsize]; exact hl
  have hbytes' : (n + m) * i.bytes ≤ 140737488355328 := by rw [hby]; exact hbytes
  rcases hown.2 with ⟨hv, hn⟩ | ⟨g, cap, cur, hv, hbg, hg, hnc, hcm, hcs, htake⟩
  · subst hv hn
    have hr2 := run_append_nil (P := P) w t ty e i z ht hi hz a m c news hl' hnews hm (by omega) (by have hb := hbytes'; simp only [Nat.zero_add] at hb; omega)
    rw [hr] at hr2
    simp only [Result.ok.injEq] at hr2
    rw [hr2.1]
    exact .inr rfl
  · subst hv
    by_cases hroom : n + m ≤ cap
    · have hr2 := run_append_room (P := P) w t ty e i ht hi g n cap cur hg a m c news hl' hnews h1 hroom (by rw [hl, hcs, hsize]; omega)
      rw [hr] at hr2
      simp only [Result.ok.injEq] at hr2
      rw [hr2.1]
      exact .inl rfl
    · have hr2 := run_append_grow (P := P) w t ty e i z ht hi hz ⟨g, 0, none⟩ n cap xs (by rw [hsize]; exact hown.1) (hown.cells (g := g) rfl) a m c news hl' hnews (by omega) (by omega) (growslice_fits (by omega) hbytes')
      rw [hr] at hr2
      simp only [Result.ok.injEq] at hr2
      rw [hr2.1]
      exact .inr rfl
theorem wpList_append_where {P : Program} (w : World) {ops : Array Oper} {rest : List Oper} {o : Oper} {ac : Act} {Q : Exit → Act → World → Prop} (hgd : o.guard = none) (s x : Operand) (t : TypeId)
    (ho : o.op = .call { callee := .builtin .append, args := #[s, x], argTypes := #[t, t] })
    (base : Nat) (e : TypeId) (i : TypeInfo) (z : Value) (bytes : Nat) (ht : P.underlying t = some (.slice e)) (hi : P.info? e = some i) (hz : i.zero = some z)
    (hsize : i.size = 1) (hby : i.bytes = bytes) (hzs : z.cells.size = 1)
    (v : Value) (n : Nat) (xs : List Value) (hs : ac.eval s = v) (hown : w.ownsRow base e 1 v n xs)
    (ad : Addr) (m c : Nat) (news : List Value) (hx : ac.eval x = .slice (some ad) m c) (hl : news.length = m * 1) (hnews : ∀ j u, news[j]? = some u → w.cell? (ad.add j) = some u) (h1 : ∀ u ∈ news, u.oneCell' = true)
    (h63 : n + m ≤ maxLen) (hbytes : (n + m) * bytes ≤ 140737488355328) (hbase : base ≤ w.heap.size) (hm : 0 < m)
    (h : ∀ v' w', w'.ownsRow base e 1 v' (n + m) (xs ++ news) → w.grownBy w' v.ownBlock → (v'.ownBlock = v.ownBlock ∨ v'.ownBlock = some w.heap.size) → wpList P ops Q rest (ac.put o.dst v') w') : wpList P ops Q (o :: rest) ac w := by
  refine wpList_plain hgd fun K hK => ?_
  obtain ⟨v', w', hr, h2, h3, h4⟩ := run_append_where (P := P) w base t o.type e i z bytes ht hi hz hsize hby hzs v n xs hown ad m c news hl hnews h1 h63 hbytes hbase hm
  unfold Oper.wp execOp
  simp only [ho, resolve, invoke, builtin, Sem.run_bind, Sem.run_pure, Result.andThen_ok, List.map_toArray, List.map_cons, List.map_nil, hs, hx, hr]
  exact hK _ _ (h v' w' h2 h3 h4)
theorem IsN.cellIn {k : IntKind} {w : World} {b o m cap : Nat} {L : List Nat} (h : IsN k w (.slice (some ⟨b, o, none⟩) m cap) L) {i n : Nat} (hn : L[i]? = some n) : w.cell? ⟨b, o + i, none⟩ = some (.int k (n : Int)) := by
  obtain ⟨_, b', o', hx, _, g⟩ := IsN.cellAt h hn
  simp only [Option.some.injEq, Addr.mk.injEq, and_true] at hx
  rw [hx.1, hx.2]; exact g
/-- Two rows that lie apart. -/
def Apart (v u : Value) : Prop := ∀ k, v.ownBlock = some k → u.ownBlock ≠ some k
theorem Apart.symm {v u : Value} (h : Apart v u) : Apart u v := fun k h1 h2 => h k h2 h1
theorem apart_nil (u : Value) : Apart (.slice none 0 0) u := fun k h => by cases h
/-- append of one number, with another row kept. -/
theorem wpList_append_two (R : KR) {w0 wr : World} {ops : Array Oper} {rest : List Oper} {o : Oper} {ac : Act} {Q : Exit → Act → World → Prop} (hgd : o.guard = none) (so x : Operand)
    (ho : o.op = .call { callee := .builtin .append, args := #[so, x], argTypes := #[R.ts, R.ts] })
    (base : Nat) (v : Value) (acc : List Nat) (hs : ac.eval so = v) (hown : wr.ownsRow base R.e 1 v acc.length (kc R.k acc))
    (z : Int) (hx : ac.eval x = .slice (some ⟨wr.heap.size, 0, none⟩) 1 1) (c : Nat) (hc : Hid (z = (c : Int))) (acc' : List Nat) (he : Hid (acc ++ [c] = acc')) (hlen : acc.length ≤ 1000000) (hbase : base ≤ wr.heap.size) (hb : Below base w0 wr)
    (e2 : TypeId) (size2 n2 : Nat) (u : Value) (xs : List Value) (hother : wr.ownsRow base e2 size2 u n2 xs) (hap : Apart v u)
    (h : ∀ v' w', w'.ownsRow base R.e 1 v' acc'.length (kc R.k acc') → Below base w0 w' → w'.ownsRow base e2 size2 u n2 xs → Apart v' u → wpList Tryz.prog ops Q rest (ac.put o.dst v') w') :
    wpList Tryz.prog ops Q (o :: rest) ac (wr.alloc (.cells #[.int R.k z] R.e)) := by
  obtain ⟨i0, hi, hz0, hz1, hz2⟩ := info_parts R.hi
  have h8 := R.hb8
  refine wpList_append_where _ hgd _ _ R.ts ho base R.e i0 (.int R.k 0) R.size R.hu hi hz0 hz1 hz2 rfl v _ _ hs (hown.alloc _) ⟨wr.heap.size, 0, none⟩ 1 1 [_] hx rfl (cell_one_new _ _ _) (by intro u hu; simp at hu; subst hu; rfl) (by unfold maxLen; omega) (Nat.le_trans (Nat.mul_le_mul_left _ h8) (by omega)) (by simp; omega) (by decide) ?_
  intro v' w2 hown2 hgrow hwhere
  have hb2 := below_grown hb hbase hown hgrow
  rw [hc.out] at hown2
  have e : kc R.k acc ++ [Value.int R.k (c : Int)] = kc R.k acc' := by rw [← he.out, kc_append]; rfl
  have e2' : acc.length + 1 = acc'.length := by rw [← he.out]; simp
  rw [e, e2'] at hown2
  have hlt := World.ownsRow.lt hother
  refine h v' w2 hown2 hb2 ((hother.alloc _).kept hgrow ?_) ?_
  · rcases hu : u.ownBlock with _ | k
    · exact .inl rfl
    · exact .inr (fun hh => hap k hh.symm hu)
  · intro k hk hu
    rcases hwhere with h1 | h1
    · exact hap k (by rw [← h1]; exact hk) hu
    · rw [h1] at hk
      have := (hlt k hu).2
      simp at hk
      omega
end Go.Proofs.YtpcmpeeflnlkpaaGreatDoor

/-
  Package nat: words without the noughts at their end.
-/
namespace Go.Proofs.YtpcmpeeflnlkpaaGreatDoor
open Go.RowKit Ch
set_option maxRecDepth 100000

/-- Words, the least first, as a number. -/
def numW : List Nat → Nat
  | [] => 0
  | x :: xs => x + 18446744073709551616 * numW xs
theorem numW_append (a b : List Nat) : numW (a ++ b) = numW a + 18446744073709551616 ^ a.length * numW b := by
  induction a with
  | nil => simp [numW]
  | cons x a ih =>
    rw [List.cons_append, numW, numW, ih, List.length_cons, Nat.pow_succ, Nat.mul_add, Nat.add_assoc, Nat.mul_comm (18446744073709551616 ^ a.length) 18446744073709551616, Nat.mul_assoc]
/-- Without noughts at the end. -/
def trimL (l : List Nat) : List Nat := (l.reverse.dropWhile (· == 0)).reverse
theorem trimL_zero (l : List Nat) : trimL (l ++ [0]) = trimL l := by simp [trimL]
theorem trimL_stop {d : Nat} (h : d ≠ 0) (l : List Nat) : trimL (l ++ [d]) = l ++ [d] := by
  unfold trimL
  rw [List.reverse_append]
  simp [h]
theorem numW_trim : ∀ (n : Nat) (l : List Nat), l.length = n → numW (trimL l) = numW l
  | 0, l, h => by rw [List.eq_nil_of_length_eq_zero h]; rfl
  | n + 1, l, h => by
    rcases List.eq_nil_or_concat l with rfl | ⟨l', d, rfl⟩
    · rfl
    · rw [List.concat_eq_append] at h ⊢
      by_cases hd : d = 0
      · subst hd
        rw [trimL_zero, numW_append, numW_trim n l' (by simp at h; exact h)]
        simp [numW]
      · rw [trimL_stop hd]
theorem IsN.take {k : IntKind} {w : World} {y : Option Addr} {n c m : Nat} {L : List Nat} (h : IsN k w (.slice y n c) L) (hm : m ≤ L.length) : IsN k w (.slice y m c) (L.take m) := by
  have hl : (L.take m).length = m := by rw [List.length_take]; omega
  obtain ⟨a, cap, hv, hc, hmx, ⟨ha, h0, hc0⟩ | ⟨x, ha, h0 | ⟨b, o, hx, hb, hf⟩⟩⟩ := h
  all_goals
    simp only [Value.slice.injEq] at hv
    obtain ⟨rfl, _, rfl⟩ := hv
  · exact ⟨y, c, by rw [hl], by rw [hl]; omega, hmx, .inl ⟨ha, by rw [hl]; omega, hc0⟩⟩
  · exact ⟨y, c, by rw [hl], by rw [hl]; omega, hmx, .inr ⟨x, ha, .inl (by rw [hl]; omega)⟩⟩
  · refine ⟨y, c, by rw [hl], by rw [hl]; omega, hmx, .inr ⟨x, ha, .inr ⟨b, o, hx, hb, fun i n hn => hf i n ?_⟩⟩⟩
    rw [List.getElem?_take] at hn
    split at hn
    · exact hn
    · cases hn
set_option maxHeartbeats 2000000 in
theorem nTrimmed_any (y : Option Addr) (c : Nat) (L : List Nat) (w : World) (hS : IsN .u64 w (.slice y L.length c) L) (hs : L.length ≤ 1000000) :
    Calls Tryz.prog 79 #[.slice y L.length c] w fun e w' => e = .returned (.slice y (trimL L).length c) ∧ IsN .u64 w (.slice y (trimL L).length c) (trimL L) ∧ w' = w := by
  have HS := show Hid (IsN .u64 w (.slice y L.length c) L) from hS
  have hcL : L.length ≤ c := by
    obtain ⟨_, _, e1, e2, _⟩ := hS
    simp only [Value.slice.injEq] at e1
    omega
  obtain ⟨n, hn⟩ : ∃ n, L.length = n := ⟨_, rfl⟩
  have HN := show Hid (L.length = n) from hn
  rw [hn] at hs hcL ⊢
  clear hS hn
  go_enter Tryz.func79, Tryz.ntmps79
  go_wp2_with fail
  go_loopw [0] (fun u wr => ∃ m : Nat, u = .slice y m c ∧ m ≤ n ∧ Hid (trimL (L.take m) = trimL L) ∧ wr = w) (fun u _ => lenOf u)
  case atStart => exact ⟨n, rfl, Nat.le_refl _, by unfold Hid; rw [List.take_of_length_le (by rw [HN.out]; exact Nat.le_refl _)], rfl⟩
  case round =>
    obtain ⟨m, rfl, hmn, hT, rfl⟩ := hrel
    by_cases h0 : 0 < m
    · have h02 : (0 : Int) < (m : Int) := by omega
      obtain ⟨m1, hm1⟩ : ∃ m1, m - 1 = m1 := ⟨_, rfl⟩
      have e1 : (m : Int) - 1 = (m1 : Int) := by omega
      have wi : IntKind.i64.wrap (m1 : Int) = (m1 : Int) := by rw [IntKind.wrap_i64]; omega
      have hlt : (m1 : Int) < (m : Int) := by omega
      have hm1c : (m1 : Int) ≤ (c : Int) := by omega
      have hm1c2 : m1 ≤ c := by omega
      have hdg : L[m1]? = some (atN L m1) := atN_some (by have := HN.out; omega)
      obtain ⟨d, hd⟩ : ∃ d, atN L m1 = d := ⟨_, rfl⟩
      rw [hd] at hdg
      have htk : L.take m = L.take m1 ++ [d] := by
        rw [show m = m1 + 1 by omega, List.take_add_one, hdg]
        rfl
      obtain ⟨x1, b, o, rfl, hbl, gc⟩ := IsN.cellAt HS.out hdg
      clear x1
      have HT2 := show Hid (trimL (L.take m1 ++ [d]) = trimL L) from by unfold Hid; rw [← htk]; exact hT.out
      have HTK := show Hid (L.take m = L.take m1 ++ [d]) from htk
      clear hT htk hdg hd
      by_cases hd0 : d = 0
      · subst hd0
        have HT3 := show Hid (trimL (L.take m1) = trimL L) from by unfold Hid; rw [← HT2.out, trimL_zero]
        clear HT2 HTK
        go_wp2_with fail
        go_roundw
        case rel => exact ⟨m1, rfl, by omega, HT3.out, trivial⟩
        case measure => simp [lenOf]; omega
      · have hdz : ((d : Int) == 0) = false := by simp; omega
        have hbd : trimL L = L.take m := by rw [← HT2.out, trimL_stop hd0, HTK.out]
        have hlm : (L.take m).length = m := by rw [List.length_take, HN.out]; omega
        have HR := show Hid ((trimL L).length = m ∧ IsN .u64 wr (.slice (some ⟨b, o, none⟩) m c) (trimL L)) from ⟨by rw [hbd, hlm], by rw [hbd]; exact HS.out.take (by rw [HN.out]; exact hmn)⟩
        clear hbd hlm HT2 HTK
        go_wp2_with fail
        go_ret
        exact ⟨by rw [HR.out.1]; rfl, by rw [HR.out.1]; exact HR.out.2, rfl⟩
    · have h02 : ¬ (0 : Int) < (m : Int) := by omega
      obtain rfl : m = 0 := by omega
      have hbd : trimL L = L.take 0 := by rw [← hT.out, List.take_zero]; rfl
      have HR := show Hid ((trimL L).length = 0 ∧ IsN .u64 wr (.slice y 0 c) (trimL L)) from ⟨by rw [hbd]; rfl, by rw [hbd]; exact HS.out.take (Nat.zero_le _)⟩
      clear hbd hT
      go_wp2_with fail
      go_ret
      exact ⟨by rw [HR.out.1]; rfl, by rw [HR.out.1]; exact HR.out.2, rfl⟩
end Go.Proofs.YtpcmpeeflnlkpaaGreatDoor

/-
  Package nat: the piece behind the leading noughts.
-/
namespace Go.Proofs.YtpcmpeeflnlkpaaGreatDoor
open Go.RowKit Ch
set_option maxRecDepth 100000

/-- Without leading noughts. -/
def bareL (l : List UInt8) : List UInt8 := l.dropWhile (· == 0)
theorem bareL_zero (l : List UInt8) : bareL (0 :: l) = bareL l := by simp [bareL]
theorem bareL_stop {c : UInt8} (h : c ≠ 0) (l : List UInt8) : bareL (c :: l) = c :: l := by simp [bareL, h]
set_option maxHeartbeats 2000000 in
theorem nBare_any (x : Option Addr) (cx : Nat) (s : ByteArray) (w : World) (hS : IsBytes w (.slice x s.size cx) s) (hs : s.size ≤ 1000000) :
    Calls Tryz.prog 52 #[.slice x s.size cx] w fun e w' => (∃ y m c, e = .returned (.slice y m c) ∧ m = (bareL s.data.toList).length ∧ IsBytes w (.slice y m c) ⟨(bareL s.data.toList).toArray⟩) ∧ w' = w := by
  have HS0 := show Hid (IsBytes w (.slice x s.size cx) ⟨(s.data.toList.drop 0).toArray⟩) from by unfold Hid; rw [List.drop_zero]; exact hS
  clear hS
  go_enter Tryz.func52, Tryz.ntmps52
  go_wp2_with fail
  go_loopw [0] (fun u wr => ∃ (p m c : Nat) (y : Option Addr), u = .slice y m c ∧ Hid (p + m = s.size) ∧ m ≤ 1000000 ∧ Hid (IsBytes w (.slice y m c) ⟨(s.data.toList.drop p).toArray⟩) ∧ Hid (bareL (s.data.toList.drop p) = bareL s.data.toList) ∧ wr = w) (fun u _ => lenOf u)
  case atStart => exact ⟨0, s.size, cx, x, rfl, by unfold Hid; omega, hs, HS0.out, by unfold Hid; rw [List.drop_zero], rfl⟩
  case round =>
    obtain ⟨p, m, c, y, rfl, hpm, hm, hB, hb, rfl⟩ := hrel
    have hl : (s.data.toList.drop p).length = m := by rw [List.length_drop, len_eq]; have := hpm.out; omega
    have hz : (⟨(s.data.toList.drop p).toArray⟩ : ByteArray).size = m := by rw [size_of_list]; exact hl
    by_cases h0 : 0 < m
    · have h02 : (0 : Int) < (m : Int) := by omega
      obtain ⟨d, rest, hd⟩ : ∃ d rest, s.data.toList.drop p = d :: rest := by
        rcases h : s.data.toList.drop p with _ | ⟨d, rest⟩
        · rw [h] at hl; simp at hl; omega
        · exact ⟨d, rest, rfl⟩
      obtain ⟨bb, oo, rfl, hbl, gc⟩ := IsBytes.cellAt (s := ⟨(s.data.toList.drop p).toArray⟩) (by rw [hz]; exact hB.out) (i := 0) (by rw [hz]; exact h0)
      have hby : byte ⟨(s.data.toList.drop p).toArray⟩ 0 = d.toNat := by rw [byte_list, List.toList_toArray, hd]; rfl
      rw [hby, Nat.add_zero] at gc
      have hcm : m ≤ c := by
        obtain ⟨_, _, e1, e2, _⟩ := hB.out
        simp only [Value.slice.injEq] at e1
        omega
      by_cases hd0 : d = 0
      · have hdz : ((d.toNat : Int) == 0) = true := by rw [hd0]; rfl
        have hrest := IsBytes.rest (s := ⟨(s.data.toList.drop p).toArray⟩) (by rw [hz]; exact hB.out) (k := 1) (by rw [hz]; omega)
        have hseg : seg ⟨(s.data.toList.drop p).toArray⟩ 1 (⟨(s.data.toList.drop p).toArray⟩ : ByteArray).size = s.data.toList.drop (p + 1) := by
          unfold seg
          rw [hz, List.toList_toArray, List.drop_drop, ← hl]
          exact List.take_of_length_le (by rw [List.length_drop, List.length_drop]; omega)
        rw [hseg, hz] at hrest
        have HRS := show Hid (IsBytes wr (.slice (if c = 1 then some ⟨bb, oo, none⟩ else (some ⟨bb, oo, none⟩ : Option Addr).map fun x => x.add 1) (m - 1) (c - 1)) ⟨(s.data.toList.drop (p + 1)).toArray⟩) from hrest
        have HB2 := show Hid (bareL (s.data.toList.drop (p + 1)) = bareL s.data.toList) from by
          unfold Hid
          rw [← hb.out, hd, hd0, bareL_zero]
          congr 1
          rw [← List.drop_drop, hd]
          rfl
        clear hrest hseg hB hb hl hz hby hd
        have h1m : (1 : Int) ≤ (m : Int) := by omega
        have h1c : (1 : Int) ≤ (c : Int) := by omega
        go_wp2_with fail
        go_roundw
        case rel => exact ⟨p + 1, m - 1, c - 1, _, by first | rfl | (congr 1; omega), by unfold Hid; have := hpm.out; omega, by omega, HRS.out, HB2.out, trivial⟩
        case measure => simp [lenOf]; omega
      · have hdz : ((d.toNat : Int) == 0) = false := by
          have : d.toNat ≠ 0 := fun h => hd0 (by rw [← UInt8.toNat_inj]; exact h)
          simp; omega
        have hbd : bareL s.data.toList = s.data.toList.drop p := by rw [← hb.out, hd, bareL_stop hd0]
        have HR := show Hid (m = (bareL s.data.toList).length ∧ IsBytes wr (.slice (some ⟨bb, oo, none⟩) m c) ⟨(bareL s.data.toList).toArray⟩) from ⟨by rw [hbd, hl], by rw [hbd]; exact hB.out⟩
        clear hbd hl hz hby hd hB hb
        go_wp2_with fail
        go_ret
        exact ⟨⟨_, _, _, rfl, HR.out.1, HR.out.2⟩, rfl⟩
    · have h02 : ¬ (0 : Int) < (m : Int) := by omega
      have hd : s.data.toList.drop p = [] := List.eq_nil_of_length_eq_zero (by omega)
      have hbd : bareL s.data.toList = [] := by rw [← hb.out, hd]; rfl
      have HR := show Hid (m = (bareL s.data.toList).length ∧ IsBytes wr (.slice y m c) ⟨(bareL s.data.toList).toArray⟩) from ⟨by rw [hbd]; simp; omega, by rw [hbd, ← hd]; exact hB.out⟩
      clear hbd hl hz hd hB hb
      go_wp2_with fail
      go_ret
      exact ⟨⟨_, _, _, rfl, HR.out.1, HR.out.2⟩, rfl⟩
end Go.Proofs.YtpcmpeeflnlkpaaGreatDoor
