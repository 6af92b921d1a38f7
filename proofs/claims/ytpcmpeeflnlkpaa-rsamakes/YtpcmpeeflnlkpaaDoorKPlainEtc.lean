/-
  PLAIN: SHA-256 over plain numbers. No program is named here.
  Rows of whole numbers of any kind: read, made, appended to, written. Of no layer alone.
-/
import Derived.Test.YtpcmpeeflnlkpaaDoorGPlainEtc
import Derived.Test.YtpcmpeeflnlkpaaDoorGen2Etc
import Derived.OwnWalk
namespace Go.Proofs.YtpcmpeeflnlkpaaDoor.Ch

/-- To the right, around. -/
def rotr (n x : Nat) : Nat := x * 2 ^ (32 - n) % 4294967296 ||| x / 2 ^ n
def sgA (x : Nat) : Nat := rotr 7 x ^^^ rotr 18 x ^^^ x / 8
def sgB (x : Nat) : Nat := rotr 17 x ^^^ rotr 19 x ^^^ x / 1024
def bgA (x : Nat) : Nat := rotr 2 x ^^^ rotr 13 x ^^^ rotr 22 x
def bgB (x : Nat) : Nat := rotr 6 x ^^^ rotr 11 x ^^^ rotr 25 x
def chooN (x y z : Nat) : Nat := (x &&& y) ^^^ ((4294967295 - x) &&& z)
def majN (x y z : Nat) : Nat := (x &&& y) ^^^ (x &&& z) ^^^ (y &&& z)
theorem rotr_lt (n x : Nat) (h : x < 4294967296) : rotr n x < 4294967296 :=
  Nat.or_lt_two_pow (n := 32) (Nat.mod_lt _ (by decide)) (Nat.lt_of_le_of_lt (Nat.div_le_self _ _) h)
theorem xor_lt32 {a b : Nat} (ha : a < 4294967296) (hb : b < 4294967296) : a ^^^ b < 4294967296 := Nat.xor_lt_two_pow (n := 32) ha hb
theorem and_lt32 {a b : Nat} (hb : b < 4294967296) : a &&& b < 4294967296 := Nat.and_lt_two_pow (n := 32) a hb
theorem sgA_lt {x : Nat} (h : x < 4294967296) : sgA x < 4294967296 := xor_lt32 (xor_lt32 (rotr_lt _ _ h) (rotr_lt _ _ h)) (by omega)
theorem sgB_lt {x : Nat} (h : x < 4294967296) : sgB x < 4294967296 := xor_lt32 (xor_lt32 (rotr_lt _ _ h) (rotr_lt _ _ h)) (by omega)
theorem bgA_lt {x : Nat} (h : x < 4294967296) : bgA x < 4294967296 := xor_lt32 (xor_lt32 (rotr_lt _ _ h) (rotr_lt _ _ h)) (rotr_lt _ _ h)
theorem bgB_lt {x : Nat} (h : x < 4294967296) : bgB x < 4294967296 := xor_lt32 (xor_lt32 (rotr_lt _ _ h) (rotr_lt _ _ h)) (rotr_lt _ _ h)
theorem choo_lt {x y z : Nat} (hy : y < 4294967296) (hz : z < 4294967296) : chooN x y z < 4294967296 := xor_lt32 (and_lt32 hy) (and_lt32 hz)
theorem maj_lt {x y z : Nat} (hy : y < 4294967296) (hz : z < 4294967296) : majN x y z < 4294967296 := xor_lt32 (xor_lt32 (and_lt32 hy) (and_lt32 hz)) (and_lt32 hz)
/-- The byte of a list at a place, as a number. -/
def byL (b : List UInt8) (i : Nat) : Nat := ((b[i]?).getD 0).toNat
theorem byL_lt (b : List UInt8) (i : Nat) : byL b i < 256 := UInt8.toNat_lt _
def wordAt (b : List UInt8) (t : Nat) : Nat := ((byL b (4 * t) * 256 + byL b (4 * t + 1)) * 256 + byL b (4 * t + 2)) * 256 + byL b (4 * t + 3)
theorem wordAt_lt (b : List UInt8) (t : Nat) : wordAt b t < 4294967296 := by
  have h0 := byL_lt b (4 * t)
  have h1 := byL_lt b (4 * t + 1)
  have h2 := byL_lt b (4 * t + 2)
  have h3 := byL_lt b (4 * t + 3)
  unfold wordAt
  omega
def atN (l : List Nat) (i : Nat) : Nat := (l[i]?).getD 0
/-- The word behind those of a schedule. -/
def nextW (b : List UInt8) (W : List Nat) : Nat := if W.length < 16 then wordAt b W.length else (sgB (atN W (W.length - 2)) + atN W (W.length - 7) + sgA (atN W (W.length - 15)) + atN W (W.length - 16)) % 4294967296
def schedN (b : List UInt8) : Nat → List Nat
  | 0 => []
  | n + 1 => schedN b n ++ [nextW b (schedN b n)]
theorem schedN_length (b : List UInt8) (n : Nat) : (schedN b n).length = n := by
  induction n with
  | zero => rfl
  | succ n ih => rw [schedN, List.length_append, ih]; rfl
theorem schedN_prefix (b : List UInt8) (n m i : Nat) (h : i < n) (hm : n ≤ m) : atN (schedN b m) i = atN (schedN b n) i := by
  induction m with
  | zero => omega
  | succ m ih =>
    by_cases e : n = m + 1
    · rw [e]
    · rw [← ih (by omega), schedN]
      unfold atN
      rw [List.getElem?_append_left (by rw [schedN_length]; omega)]
theorem schedN_last (b : List UInt8) (n : Nat) : atN (schedN b (n + 1)) n = nextW b (schedN b n) := by
  rw [schedN]
  unfold atN
  rw [List.getElem?_append_right (by rw [schedN_length]; exact Nat.le_refl _), schedN_length, Nat.sub_self]
  rfl
theorem nextW_lt (b : List UInt8) (W : List Nat) : nextW b W < 4294967296 := by
  unfold nextW
  split
  · exact wordAt_lt _ _
  · exact Nat.mod_lt _ (by decide)
theorem schedN_lt (b : List UInt8) (n i : Nat) : atN (schedN b n) i < 4294967296 := by
  by_cases h : i < n
  · rw [schedN_prefix b (i + 1) n i (by omega) (by omega), schedN_last]
    exact nextW_lt _ _
  · unfold atN
    rw [List.getElem?_eq_none (by rw [schedN_length]; omega)]
    decide
/-- The state: eight words. -/
structure S8 where
  a : Nat
  b : Nat
  c : Nat
  d : Nat
  e : Nat
  f : Nat
  g : Nat
  h : Nat
def S8.ok (s : S8) : Prop := s.a < 4294967296 ∧ s.b < 4294967296 ∧ s.c < 4294967296 ∧ s.d < 4294967296 ∧ s.e < 4294967296 ∧ s.f < 4294967296 ∧ s.g < 4294967296 ∧ s.h < 4294967296
def roundK : List Nat := [0x428a2f98, 0x71374491, 0xb5c0fbcf, 0xe9b5dba5, 0x3956c25b, 0x59f111f1, 0x923f82a4, 0xab1c5ed5,
  0xd807aa98, 0x12835b01, 0x243185be, 0x550c7dc3, 0x72be5d74, 0x80deb1fe, 0x9bdc06a7, 0xc19bf174,
  0xe49b69c1, 0xefbe4786, 0x0fc19dc6, 0x240ca1cc, 0x2de92c6f, 0x4a7484aa, 0x5cb0a9dc, 0x76f988da,
  0x983e5152, 0xa831c66d, 0xb00327c8, 0xbf597fc7, 0xc6e00bf3, 0xd5a79147, 0x06ca6351, 0x14292967,
  0x27b70a85, 0x2e1b2138, 0x4d2c6dfc, 0x53380d13, 0x650a7354, 0x766a0abb, 0x81c2c92e, 0x92722c85,
  0xa2bfe8a1, 0xa81a664b, 0xc24b8b70, 0xc76c51a3, 0xd192e819, 0xd6990624, 0xf40e3585, 0x106aa070,
  0x19a4c116, 0x1e376c08, 0x2748774c, 0x34b0bcb5, 0x391c0cb3, 0x4ed8aa4a, 0x5b9cca4f, 0x682e6ff3,
  0x748f82ee, 0x78a5636f, 0x84c87814, 0x8cc70208, 0x90befffa, 0xa4506ceb, 0xbef9a3f7, 0xc67178f2]
def rnd (k w : Nat) (s : S8) : S8 :=
  let t1 := (s.h + bgB s.e + chooN s.e s.f s.g + k + w) % 4294967296
  let t2 := (bgA s.a + majN s.a s.b s.c) % 4294967296
  ⟨(t1 + t2) % 4294967296, s.a, s.b, s.c, (s.d + t1) % 4294967296, s.e, s.f, s.g⟩
def rounds (W : List Nat) (s : S8) : Nat → S8
  | 0 => s
  | n + 1 => rnd (atN roundK n) (atN W n) (rounds W s n)
theorem rnd_ok {k w : Nat} {s : S8} (h : s.ok) : (rnd k w s).ok := by
  obtain ⟨ha, hb, hc, hd, he, hf, hg, hh⟩ := h
  exact ⟨Nat.mod_lt _ (by decide), ha, hb, hc, Nat.mod_lt _ (by decide), he, hf, hg⟩
theorem rounds_ok {W : List Nat} {s : S8} (h : s.ok) (n : Nat) : (rounds W s n).ok := by
  induction n with
  | zero => exact h
  | succ n ih => exact rnd_ok ih
def addS (s t : S8) : S8 := ⟨(s.a + t.a) % 4294967296, (s.b + t.b) % 4294967296, (s.c + t.c) % 4294967296, (s.d + t.d) % 4294967296, (s.e + t.e) % 4294967296, (s.f + t.f) % 4294967296, (s.g + t.g) % 4294967296, (s.h + t.h) % 4294967296⟩
theorem addS_ok (s t : S8) : (addS s t).ok := ⟨Nat.mod_lt _ (by decide), Nat.mod_lt _ (by decide), Nat.mod_lt _ (by decide), Nat.mod_lt _ (by decide), Nat.mod_lt _ (by decide), Nat.mod_lt _ (by decide), Nat.mod_lt _ (by decide), Nat.mod_lt _ (by decide)⟩
/-- The state behind one block more. -/
def mixS (s : S8) (b : List UInt8) : S8 := addS s (rounds (schedN b 64) s 64)
def S8.l (s : S8) : List Nat := [s.a, s.b, s.c, s.d, s.e, s.f, s.g, s.h]
def beginS : S8 := ⟨0x6a09e667, 0xbb67ae85, 0x3c6ef372, 0xa54ff53a, 0x510e527f, 0x9b05688c, 0x1f83d9ab, 0x5be0cd19⟩
theorem beginS_ok : beginS.ok := by unfold S8.ok; decide
/-- The state behind the first n blocks. -/
def blocksS (m : List UInt8) : Nat → S8
  | 0 => beginS
  | n + 1 => mixS (blocksS m n) ((m.drop (64 * n)).take 64)
theorem blocksS_ok (m : List UInt8) (n : Nat) : (blocksS m n).ok := by
  cases n with
  | zero => exact beginS_ok
  | succ n => exact addS_ok _ _
theorem blocksS_append (m t : List UInt8) (n : Nat) (h : 64 * n ≤ m.length) : blocksS (m ++ t) n = blocksS m n := by
  induction n with
  | zero => rfl
  | succ n ih =>
    rw [blocksS, blocksS, ih (by omega)]
    congr 1
    rw [List.drop_append_of_le_length (by omega), List.take_append_of_le_length (by rw [List.length_drop]; omega)]
def wordB (x : Nat) : List UInt8 := [UInt8.ofNat (x / 16777216 % 256), UInt8.ofNat (x / 65536 % 256), UInt8.ofNat (x / 256 % 256), UInt8.ofNat (x % 256)]
def stateB (s : S8) : List UInt8 := s.l.flatMap wordB
/-- The count of bits, in eight bytes. -/
def countB (n : Nat) : List UInt8 := (List.range 8).map fun i => UInt8.ofNat (n * 8 / 2 ^ (8 * (7 - i)) % 256)
def fillB (n : Nat) : List UInt8 := 128 :: List.replicate ((119 - n % 64) % 64) 0
def padL (m : List UInt8) : List UInt8 := m ++ fillB m.length ++ countB m.length
def shaL (m : List UInt8) : List UInt8 := stateB (blocksS (padL m) ((padL m).length / 64))
theorem countB_length (n : Nat) : (countB n).length = 8 := by simp [countB]
theorem fillB_length (n : Nat) : (fillB n).length = 1 + (119 - n % 64) % 64 := by simp [fillB]; omega
theorem padL_length (m : List UInt8) : (padL m).length % 64 = 0 := by
  unfold padL
  rw [List.length_append, List.length_append, fillB_length, countB_length]
  omega
theorem stateB_length (s : S8) : (stateB s).length = 32 := rfl
theorem shaL_length (m : List UInt8) : (shaL m).length = 32 := rfl
set_option maxRecDepth 100000 in
theorem sha_abc : shaL [97, 98, 99] = [0xba, 0x78, 0x16, 0xbf, 0x8f, 0x01, 0xcf, 0xea, 0x41, 0x41, 0x40, 0xde, 0x5d, 0xae, 0x22, 0x23, 0xb0, 0x03, 0x61, 0xa3, 0x96, 0x17, 0x7a, 0x9c, 0xb4, 0x10, 0xff, 0x61, 0xf2, 0x00, 0x15, 0xad] := by decide +kernel
end Go.Proofs.YtpcmpeeflnlkpaaDoor.Ch

namespace Go.Proofs.YtpcmpeeflnlkpaaDoor
open Go.RowKit Ch
set_option maxRecDepth 100000

/-- A kind of whole numbers, with its slice's type. -/
structure KR where
  k : IntKind
  e : TypeId
  ts : TypeId
  size : Nat
  hu : Tryd.prog.underlying ts = some (.slice e)
  hi : (Tryd.prog.info? e).map (fun i => (i.zero, i.size, i.bytes)) = some (some (.int k 0), 1, size)
  hb8 : size ≤ 8
def kc (k : IntKind) (L : List Nat) : List Value := L.map fun n : Nat => .int k (n : Int)
theorem kc_length (k : IntKind) (L : List Nat) : (kc k L).length = L.length := by simp [kc]
theorem kc_append (k : IntKind) (a b : List Nat) : kc k (a ++ b) = kc k a ++ kc k b := by simp [kc]
theorem kc_at {k : IntKind} {L : List Nat} {i n : Nat} (h : L[i]? = some n) : (kc k L)[i]? = some (.int k (n : Int)) := by simp [kc, h]
theorem kc_set (k : IntKind) (L : List Nat) (i n : Nat) : (kc k L).set i (.int k (n : Int)) = kc k (L.set i n) := by simp [kc, List.map_set]
theorem kc_one (k : IntKind) (L : List Nat) : ∀ u ∈ kc k L, u.oneCell' = true := by
  intro u hu
  obtain ⟨c, _, rfl⟩ := List.mem_map.1 hu
  rfl
/-- A slice of these numbers. -/
def IsN (k : IntKind) (w : World) (v : Value) (L : List Nat) : Prop :=
  ∃ a cap, v = .slice a L.length cap ∧ L.length ≤ cap ∧ cap ≤ maxLen ∧ ((a = none ∧ L.length = 0 ∧ cap = 0) ∨ ∃ x, a = some x ∧ (L.length = 0 ∨ ∃ b o, x = ⟨b, o, none⟩ ∧ b < w.heap.size ∧ ∀ i n : Nat, L[i]? = some n → w.cell? ⟨b, o + i, none⟩ = some (.int k (n : Int))))
theorem IsN.later {k : IntKind} {w w' : World} {v : Value} {L : List Nat} (h : IsN k w v L) (hw : Below w.heap.size w w') : IsN k w' v L := by
  obtain ⟨a, cap, hv, hc, hm, h | ⟨x, ha, h | ⟨b, o, hx, hb, hf⟩⟩⟩ := h
  · exact ⟨a, cap, hv, hc, hm, .inl h⟩
  · exact ⟨a, cap, hv, hc, hm, .inr ⟨x, ha, .inl h⟩⟩
  · exact ⟨a, cap, hv, hc, hm, .inr ⟨x, ha, .inr ⟨b, o, hx, Nat.lt_of_lt_of_le hb hw.size, fun i n hn => (hw.cell (p := ⟨b, o + i, none⟩) hb).trans (hf i n hn)⟩⟩⟩
theorem IsN.alloc {k : IntKind} {w : World} {v : Value} {L : List Nat} (h : IsN k w v L) (o : Obj) : IsN k (w.alloc o) v L := h.later ((Below.refl _ w).alloc (Nat.le_refl _) o)
theorem IsN.cellAt {k : IntKind} {w : World} {a : Option Addr} {m cap : Nat} {L : List Nat} (h : IsN k w (.slice a m cap) L) {i n : Nat} (hn : L[i]? = some n) : m = L.length ∧ ∃ b o, a = some ⟨b, o, none⟩ ∧ b < w.heap.size ∧ w.cell? ⟨b, o + i, none⟩ = some (.int k (n : Int)) := by
  have hi : i < L.length := (List.getElem?_eq_some_iff.1 hn).1
  obtain ⟨a', cap', hv, hc, hm, ⟨_, h0, _⟩ | ⟨y, hy, h0 | ⟨b, o, hx, hb, hf⟩⟩⟩ := h
  · omega
  · omega
  · simp only [Value.slice.injEq] at hv
    exact ⟨hv.2.1, b, o, by rw [hv.1, hy, hx], hb, hf i n hn⟩
theorem own_n {k : IntKind} {e : TypeId} {w : World} {base : Nat} {v : Value} {L : List Nat} (h : w.ownsRow base e 1 v L.length (kc k L)) : IsN k w v L := by
  have hcl := fun g (hg : v.ownBlock = some g) => World.ownsRow.cells h hg
  rcases h.2 with ⟨hv, h0⟩ | ⟨g, cap, cur, hv, hb, hh, hcap, hmax, _⟩
  · exact ⟨none, 0, by rw [hv, h0], by omega, by unfold maxLen; omega, .inl ⟨rfl, h0, rfl⟩⟩
  · refine ⟨_, cap, hv, hcap, hmax, .inr ⟨_, rfl, .inr ⟨g, 0, rfl, block_lt hh, fun i n hn => ?_⟩⟩⟩
    have := hcl g (by rw [hv]; rfl) i (.int k (n : Int)) (kc_at hn)
    have e : (⟨g, 0, none⟩ : Addr).add i = ⟨g, 0 + i, none⟩ := by unfold Addr.add; split <;> simp_all
    rw [e] at this
    exact this
theorem IsN.news {k : IntKind} {w : World} {x : Addr} {n cap : Nat} {L : List Nat} (h : IsN k w (.slice (some x) n cap) L) : ∀ j u, (kc k L)[j]? = some u → w.cell? (x.add j) = some u := by
  intro j u hj
  have hj2 : j < L.length := by have := (List.getElem?_eq_some_iff.1 hj).1; rw [kc_length] at this; exact this
  have hn : L[j]? = some L[j] := List.getElem?_eq_getElem hj2
  rw [kc_at hn] at hj
  obtain ⟨_, b, o, hx, _, hc⟩ := h.cellAt hn
  obtain rfl := Option.some.inj hx
  have e : (⟨b, o, none⟩ : Addr).add j = ⟨b, o + j, none⟩ := by unfold Addr.add; split <;> simp_all
  rw [e, hc]
  exact hj
theorem own_nil (w : World) (base : Nat) (e : TypeId) : w.ownsRow base e 1 (.slice none 0 0) 0 [] := ⟨rfl, .inl ⟨rfl, rfl⟩⟩
theorem own_emptyN (w : World) (base : Nat) (e : TypeId) (hb : base ≤ w.heap.size) : (w.alloc (.cells #[] e)).ownsRow base e 1 (.slice (some ⟨w.heap.size, 0, none⟩) 0 0) 0 [] :=
  ⟨rfl, .inr ⟨w.heap.size, 0, #[], rfl, hb, heap_push_at w _, Nat.le_refl _, by unfold maxLen; omega, rfl, rfl⟩⟩
theorem own_monoN {w : World} {b b2 : Nat} {e : TypeId} {size n : Nat} {v : Value} {xs : List Value} (h : w.ownsRow b2 e size v n xs) (hb : b ≤ b2) : w.ownsRow b e size v n xs := by
  refine ⟨h.1, ?_⟩
  rcases h.2 with h2 | ⟨g, cap, cur, hv, hg2, hh, r⟩
  · exact .inl h2
  · exact .inr ⟨g, cap, cur, hv, by omega, hh, r⟩
/-- append of one number that was just laid down, onto what the call owns. -/
theorem wpList_append_n (R : KR) {w0 wr : World} {ops : Array Oper} {rest : List Oper} {o : Oper} {ac : Act} {Q : Exit → Act → World → Prop} (hgd : o.guard = none) (so x : Operand)
    (ho : o.op = .call { callee := .builtin .append, args := #[so, x], argTypes := #[R.ts, R.ts] })
    (base : Nat) (v : Value) (acc : List Nat) (hs : ac.eval so = v) (hown : wr.ownsRow base R.e 1 v acc.length (kc R.k acc))
    (z : Int) (hx : ac.eval x = .slice (some ⟨wr.heap.size, 0, none⟩) 1 1) (c : Nat) (hc : Hid (z = (c : Int))) (acc' : List Nat) (he : Hid (acc ++ [c] = acc')) (hlen : acc.length ≤ 1000000) (hbase : base ≤ wr.heap.size) (hb : Below base w0 wr)
    (h : ∀ v' w', w'.ownsRow base R.e 1 v' acc'.length (kc R.k acc') → Below base w0 w' → wpList Tryd.prog ops Q rest (ac.put o.dst v') w') :
    wpList Tryd.prog ops Q (o :: rest) ac (wr.alloc (.cells #[.int R.k z] R.e)) := by
  obtain ⟨i0, hi, hz0, hz1, hz2⟩ := info_parts R.hi
  have h8 := R.hb8
  refine wpList_append_own _ hgd _ _ R.ts ho base R.e i0 (.int R.k 0) 1 R.size R.hu hi hz0 hz1 hz2 rfl (by decide) v _ _ hs (hown.alloc _) ⟨wr.heap.size, 0, none⟩ 1 1 [_] hx rfl (cell_one_new _ _ _) (by intro u hu; simp at hu; subst hu; rfl) (by unfold maxLen; omega) (Nat.le_trans (Nat.mul_le_mul_left _ h8) (by omega)) (by simp; omega) ?_
  intro v' w2 hown2 hgrow _
  have hb2 := below_grown hb hbase hown hgrow
  rw [hc.out] at hown2
  have e : kc R.k acc ++ [Value.int R.k (c : Int)] = kc R.k acc' := by rw [← he.out, kc_append]; rfl
  have e2 : acc.length + 1 = acc'.length := by rw [← he.out]; simp
  rw [e, e2] at hown2
  exact h v' w2 hown2 hb2
/-- append of a slice of numbers, nil or not, onto what the call owns. -/
theorem wpList_append_ns (R : KR) {w : World} {ops : Array Oper} {rest : List Oper} {o : Oper} {ac : Act} {Q : Exit → Act → World → Prop} (hgd : o.guard = none) (so x : Operand)
    (ho : o.op = .call { callee := .builtin .append, args := #[so, x], argTypes := #[R.ts, R.ts] })
    (base : Nat) (v : Value) (acc : List Nat) (hs : ac.eval so = v) (hown : w.ownsRow base R.e 1 v acc.length (kc R.k acc))
    (u : Value) (L : List Nat) (hx : ac.eval x = u) (hu : IsN R.k w u L) (acc' : List Nat) (he : Hid (acc ++ L = acc')) (hsz : acc.length + L.length ≤ 1000000) (hbase : base ≤ w.heap.size)
    (h : ∀ v' w', w'.ownsRow base R.e 1 v' acc'.length (kc R.k acc') → Below base w w' → wpList Tryd.prog ops Q rest (ac.put o.dst v') w') : wpList Tryd.prog ops Q (o :: rest) ac w := by
  obtain ⟨i0, hi, hz0, hz1, hz2⟩ := info_parts R.hi
  have h8 := R.hb8
  rw [← he.out, kc_append, List.length_append] at h
  obtain ⟨a, cap, rfl, hc, hm, hrest⟩ := hu
  match a, hrest with
  | none, hrest =>
    have h0 : L.length = 0 ∧ cap = 0 := by
      rcases hrest with ⟨_, h0, h1⟩ | ⟨_, h0, _⟩
      · exact ⟨h0, h1⟩
      · cases h0
    have ht : L = [] := List.eq_nil_of_length_eq_zero h0.1
    subst ht
    rw [h0.2] at hx
    refine wpList_append_own_none hgd so x R.ts ho base R.e i0 1 R.hu hi v acc.length _ hs hown hx (h v w ?_ (Below.refl _ _))
    simpa [kc] using hown
  | some y, hrest =>
    refine wpList_append_own w hgd so x R.ts ho base R.e i0 (.int R.k 0) 1 R.size R.hu hi hz0 hz1 hz2 rfl (by decide) v acc.length _ hs hown y L.length cap (kc R.k L) hx (by rw [kc_length]; omega) (IsN.news (n := L.length) (cap := cap) ⟨some y, cap, rfl, hc, hm, hrest⟩) (kc_one R.k L) (by unfold maxLen; omega) (Nat.le_trans (Nat.mul_le_mul_left _ h8) (by omega)) hbase ?_
    intro v' w' ho' hg _
    exact h v' w' ho' ((Below.refl _ w).grown hg hbase (own_ge hown))
theorem made_kc (k : IntKind) (n : Nat) : (madeCells (Value.int k 0).cells (n * 1)).toList = kc k (List.replicate n 0) := by
  apply List.ext_getElem?
  intro i
  rw [Nat.mul_one]
  unfold madeCells kc
  by_cases h : i < n
  · have h1 : i % 1 = 0 := Nat.mod_one i
    simp [h, Value.cells, h1]
  · simp [h]
/-- make of so many noughts. -/
theorem wpList_make_n (R : KR) (w : World) {ops : Array Oper} {rest : List Oper} {o : Oper} {a : Act} {Q : Exit → Act → World → Prop}
    (hg : o.guard = none) (l c : Operand) (hop : o.op = Op.makeSlice R.ts l c) (kl kcc : IntKind) (N C : Int) (n : Nat) (hl : a.eval l = .int kl N) (hc : a.eval c = .int kcc C) (hL : N = (n : Int)) (hC : C = (n : Int)) (hn : n ≤ 1000000)
    (hK : ∀ w', w'.ownsRow w.heap.size R.e 1 (.slice (some ⟨w.heap.size, 0, none⟩) n n) (List.replicate n 0).length (kc R.k (List.replicate n 0)) → Below w.heap.size w w' → wpList Tryd.prog ops Q rest (a.put o.dst (.slice (some ⟨w.heap.size, 0, none⟩) n n)) w') :
    wpList Tryd.prog ops Q (o :: rest) a w := by
  obtain ⟨i0, hi, hz0, hz1, hz2⟩ := info_parts R.hi
  have h8 := R.hb8
  refine wpList_make_full w hg l c R.ts hop w.heap.size R.e i0 (.int R.k 0) 1 R.hu hi hz0 hz1 kl kcc N C n hl hc hL hC (by rw [hz2]; exact Nat.le_trans (Nat.mul_le_mul h8 hn) (by omega)) (by unfold maxLen; omega) (Nat.le_refl _) ?_
  intro w' ho hgr
  rw [made_kc] at ho
  exact hK w' (by rw [List.length_replicate]; exact ho) ((Below.refl _ w).grown hgr (Nat.le_refl _) (fun k h => by cases h))
/-- A number of a row that is owned, and another in its place. -/
theorem own_setN {k : IntKind} {e : TypeId} {w : World} {base : Nat} {v : Value} {L : List Nat} (h : w.ownsRow base e 1 v L.length (kc k L)) {i n : Nat} (hn : L[i]? = some n) :
    ∃ g cap, v = .slice (some ⟨g, 0, none⟩) L.length cap ∧ L.length ≤ cap ∧ base ≤ g ∧ g < w.heap.size ∧ w.cell? ⟨g, i, none⟩ = some (.int k (n : Int)) ∧ w.frozen? ⟨g, i, none⟩ = false ∧ ∀ m : Nat, (w.setCell ⟨g, i, none⟩ (.int k (m : Int))).ownsRow base e 1 v (L.set i m).length (kc k (L.set i m)) := by
  have hi : i < L.length := (List.getElem?_eq_some_iff.1 hn).1
  obtain ⟨g, cap, h1, h2, h3, h4, h5, h6, h7⟩ := own_set h hi
  refine ⟨g, cap, h1, h2, h3, h4, by rw [h5, kc_at hn], h6, fun m => ?_⟩
  rw [← kc_set, List.length_set]
  exact h7 _
/-- The same, where it lies. -/
theorem own_setG {k : IntKind} {e : TypeId} {w : World} {base g m c : Nat} {L : List Nat} (h : w.ownsRow base e 1 (.slice (some ⟨g, 0, none⟩) m c) L.length (kc k L)) {i n : Nat} (hn : L[i]? = some n) :
    m = L.length ∧ L.length ≤ c ∧ base ≤ g ∧ g < w.heap.size ∧ w.cell? ⟨g, i, none⟩ = some (.int k (n : Int)) ∧ w.frozen? ⟨g, i, none⟩ = false ∧ ∀ q : Nat, (w.setCell ⟨g, i, none⟩ (.int k (q : Int))).ownsRow base e 1 (.slice (some ⟨g, 0, none⟩) m c) (L.set i q).length (kc k (L.set i q)) := by
  obtain ⟨g', cap, h1, h2, h3, h4, h5, h6, h7⟩ := own_setN h hn
  simp only [Value.slice.injEq, Option.some.injEq, Addr.mk.injEq, and_true] at h1
  obtain ⟨h1, h8, h9⟩ := h1
  subst h1 h9
  exact ⟨h8, h2, h3, h4, h5, h6, h7⟩
theorem atN_some {L : List Nat} {i : Nat} (h : i < L.length) : L[i]? = some (atN L i) := by
  unfold atN
  rw [List.getElem?_eq_getElem h]
  rfl
end Go.Proofs.YtpcmpeeflnlkpaaDoor
