/-
  What the program's Decode reads: plain facts, and the append of a piece's bytes.
-/
import Derived.Test.YtioncfodelaakaaDoorCThree
import Derived.Test.YtioncfodelaakaaDoorCBox
import Derived.Test.YtioncfodelaakaaDoorCRound
import Derived.Test.YtioncfodelaakaaDoorCBlank
import Derived.Laws.AppendOwn
namespace Go.Proofs.YtioncfodelaakaaDoor
open Go.RowKit Go.Shelf Ch

theorem body_signs {l r : List UInt8} (h : ∀ c ∈ l, c ≠ 61) (hr : r = [] ∨ ∃ t, r = 61 :: t) : bodyL (l ++ r) = l := by
  unfold bodyL
  refine takeWhile_all (fun c hc => by simpa using h c hc) ?_
  rcases hr with rfl | ⟨t, rfl⟩
  · rfl
  · rfl
theorem S8_ne (n : Nat) : S8 n ≠ 61 := fun h => by
  have := congrArg UInt8.toNat h
  unfold S8 at this
  rw [sign8_toNat] at this
  exact sign_ne n this
theorem six_S8 {n : Nat} (h : n < 64) : six8 (S8 n) = n := six8_sign h
theorem u8_of {n : Nat} {c : UInt8} (h : n % 256 = c.toNat) : UInt8.ofNat n = c := UInt8.toNat_inj.1 (by rw [UInt8.toNat_ofNat']; exact h)
/-- The signs of one to three bytes are read as these. -/
theorem three_enc {y : ByteArray} (h1 : 1 ≤ y.size) (h3 : y.size ≤ 3) : threeOf (bodyL (encL y)) = y.data.toList := by
  have hb : ∀ k, byte y k < 256 := byte_lt y
  have hl := len_eq y
  have g0 := hb 0
  have g1 := hb 1
  have g2 := hb 2
  rcases (show y.size = 1 ∨ y.size = 2 ∨ y.size = 3 by omega) with h | h | h
  · have e1 : byte y 1 = 0 := byte_default y 1 (by omega)
    rw [enc_of1 h, e1]
    have hbd : bodyL ([S8 (byte y 0 / 4), S8 (byte y 0 % 4 * 16 + 0 / 16)] ++ [61, 61]) = [S8 (byte y 0 / 4), S8 (byte y 0 % 4 * 16 + 0 / 16)] :=
      body_signs (by intro c hc; simp at hc; rcases hc with rfl | rfl <;> exact S8_ne _) (.inr ⟨_, rfl⟩)
    have hbd' : bodyL [S8 (byte y 0 / 4), S8 (byte y 0 % 4 * 16 + 0 / 16), 61, 61] = [S8 (byte y 0 / 4), S8 (byte y 0 % 4 * 16 + 0 / 16)] := hbd
    rw [hbd']
    unfold threeOf numS
    simp only [List.foldl_cons, List.foldl_nil, List.length_cons, List.length_nil]
    rw [six_S8 (by omega), six_S8 (by omega)]
    rw [h] at hl
    have e0 := list_at y 0 (by omega)
    match hy : y.data.toList, hl with
    | [c], _ =>
      rw [hy] at e0
      have : c.toNat = byte y 0 := by rw [byte_eq y 0 (by omega)]; rw [Option.some.inj e0]
      show [UInt8.ofNat _] = _
      rw [u8_of (c := c)]
      rw [this]
      omega
  · have e2 : byte y 2 = 0 := byte_default y 2 (by omega)
    rw [enc_of2 h, e2]
    have hbd : bodyL ([S8 (byte y 0 / 4), S8 (byte y 0 % 4 * 16 + byte y 1 / 16), S8 (byte y 1 % 16 * 4 + 0 / 64)] ++ [61]) = [S8 (byte y 0 / 4), S8 (byte y 0 % 4 * 16 + byte y 1 / 16), S8 (byte y 1 % 16 * 4 + 0 / 64)] :=
      body_signs (by intro c hc; simp at hc; rcases hc with rfl | rfl | rfl <;> exact S8_ne _) (.inr ⟨_, rfl⟩)
    have hbd' : bodyL [S8 (byte y 0 / 4), S8 (byte y 0 % 4 * 16 + byte y 1 / 16), S8 (byte y 1 % 16 * 4 + 0 / 64), 61] = [S8 (byte y 0 / 4), S8 (byte y 0 % 4 * 16 + byte y 1 / 16), S8 (byte y 1 % 16 * 4 + 0 / 64)] := hbd
    rw [hbd']
    unfold threeOf numS
    simp only [List.foldl_cons, List.foldl_nil, List.length_cons, List.length_nil]
    rw [six_S8 (by omega), six_S8 (by omega), six_S8 (by omega)]
    rw [h] at hl
    have e0 := list_at y 0 (by omega)
    have e1 := list_at y 1 (by omega)
    match hy : y.data.toList, hl with
    | [c, d], _ =>
      rw [hy] at e0 e1
      have t0 : c.toNat = byte y 0 := by rw [byte_eq y 0 (by omega)]; rw [Option.some.inj e0]
      have t1 : d.toNat = byte y 1 := by rw [byte_eq y 1 (by omega)]; rw [Option.some.inj e1]
      show [UInt8.ofNat _, UInt8.ofNat _] = _
      rw [u8_of (c := c), u8_of (c := d)]
      · rw [t1]; omega
      · rw [t0]; omega
  · rw [enc_of3 h]
    have hbd : bodyL ([S8 (byte y 0 / 4), S8 (byte y 0 % 4 * 16 + byte y 1 / 16), S8 (byte y 1 % 16 * 4 + byte y 2 / 64), S8 (byte y 2 % 64)] ++ []) = _ :=
      body_signs (by intro c hc; simp at hc; rcases hc with rfl | rfl | rfl | rfl <;> exact S8_ne _) (.inl rfl)
    rw [List.append_nil] at hbd
    rw [hbd]
    unfold threeOf numS
    simp only [List.foldl_cons, List.foldl_nil, List.length_cons, List.length_nil]
    rw [six_S8 (by omega), six_S8 (by omega), six_S8 (by omega), six_S8 (by omega)]
    rw [h] at hl
    have e0 := list_at y 0 (by omega)
    have e1 := list_at y 1 (by omega)
    have e2 := list_at y 2 (by omega)
    match hy : y.data.toList, hl with
    | [c, d, f], _ =>
      rw [hy] at e0 e1 e2
      have t0 : c.toNat = byte y 0 := by rw [byte_eq y 0 (by omega)]; rw [Option.some.inj e0]
      have t1 : d.toNat = byte y 1 := by rw [byte_eq y 1 (by omega)]; rw [Option.some.inj e1]
      have t2 : f.toNat = byte y 2 := by rw [byte_eq y 2 (by omega)]; rw [Option.some.inj e2]
      show [UInt8.ofNat _, UInt8.ofNat _, UInt8.ofNat _] = _
      rw [u8_of (c := c), u8_of (c := d), u8_of (c := f)]
      · rw [t2]; omega
      · rw [t1]; omega
      · rw [t0]; omega
theorem mk_extract (l r : List UInt8) {n : Nat} (h : l.length = n) : (⟨(l ++ r).toArray⟩ : ByteArray).extract 0 n = ⟨l.toArray⟩ ∧ (⟨(l ++ r).toArray⟩ : ByteArray).extract n (l ++ r).length = ⟨r.toArray⟩ := by
  constructor
  · apply ByteArray.ext
    apply Array.toList_inj.1
    rw [Lib.extract_data]
    simp [h]
  · apply ByteArray.ext
    apply Array.toList_inj.1
    rw [Lib.extract_data]
    simp [← h]
theorem dec_pieces : ∀ (k : Nat) (b : ByteArray), b.size ≤ k → (piecesB 4 ⟨(encL b).toArray⟩).flatMap threeL = b.data.toList
  | 0, b, hk => by
    rw [empty_of_size (s := b) (by omega)]
    decide +kernel
  | k + 1, b, hk => by
    by_cases h0 : b.size = 0
    · rw [empty_of_size h0]; decide +kernel
    have step : ∀ (y : ByteArray) (r : List UInt8), 1 ≤ y.size → y.size ≤ 3 → (piecesB 4 ⟨(encL y ++ r).toArray⟩).flatMap threeL = y.data.toList ++ (piecesB 4 ⟨r.toArray⟩).flatMap threeL := by
      intro y r h1 h3
      obtain ⟨c0, c1, c2, c3, hc⟩ := enc_four h1 h3
      have hl : (encL y).length = 4 := by rw [hc]; rfl
      have hsz : (⟨(encL y ++ r).toArray⟩ : ByteArray).size = (encL y ++ r).length := size_of_list _
      have hll : (encL y ++ r).length = 4 + r.length := by rw [List.length_append, hl]
      obtain ⟨e1, e2⟩ := mk_extract (encL y) r hl
      rw [piecesB_cons (by omega) (by rw [hsz]; omega), hsz, show min 4 (encL y ++ r).length = 4 by omega, e1, e2, List.flatMap_cons]
      congr 1
      exact three_enc h1 h3
    by_cases h3 : b.size ≤ 3
    · have := step b [] (by omega) h3
      rw [List.append_nil] at this
      rw [this]
      have e0 : (piecesB 4 ⟨([] : List UInt8).toArray⟩).flatMap threeL = [] := by rw [piecesB_nil rfl]; rfl
      rw [e0, List.append_nil]
    · have hcat : b = cat (b.extract 0 3) (b.extract 3 b.size) := by
        apply ByteArray.ext
        apply Array.toList_inj.1
        show _ = (_ ++ _ : List UInt8)
        rw [Lib.extract_data, Lib.extract_data, List.drop_zero, Nat.sub_zero, List.take_of_length_le (l := List.drop 3 b.data.toList) (by rw [List.length_drop, len_eq]; exact Nat.le_refl _)]
        exact (List.take_append_drop _ _).symm
      have hs3 : (b.extract 0 3).size = 3 := by rw [ByteArray.size_extract]; omega
      have henc : encL b = encL (b.extract 0 3) ++ encL (b.extract 3 b.size) := by
        conv => lhs; rw [hcat]
        exact enc_cat _ _ 1 (by omega)
      rw [henc, step _ _ (by omega) (by omega), dec_pieces k _ (by rw [size_rest]; omega)]
      conv => rhs; rw [hcat]
      rfl
/-- The pieces that Decode is handed. -/
abbrev P4 := { x : ByteArray // x.size ≤ 4 ∧ x.data.toList.all okSign = true }
def decP (pre : List P4) : List UInt8 := pre.flatMap fun x => threeL x.1
theorem decP_snoc (pre : List P4) (x : P4) : decP (pre ++ [x]) = decP pre ++ threeL x.1 := by simp [decP]
theorem threeL_length (x : ByteArray) : (threeL x).length ≤ 3 := by
  unfold threeL threeOf
  rw [List.length_take]
  simp
  omega
theorem decP_length (pre : List P4) : (decP pre).length ≤ 3 * pre.length := by
  induction pre with
  | nil => exact Nat.le_refl _
  | cons x r ih =>
    have : decP (x :: r) = threeL x.1 ++ decP r := rfl
    have := threeL_length x.1
    rw [‹decP (x :: r) = _›, List.length_append, List.length_cons]
    omega
theorem decP_all {pre : List P4} {T : ByteArray} (h : pre.map (·.1) = piecesB 4 T) : decP pre = (piecesB 4 T).flatMap threeL := by
  rw [← h]
  simp [decP]
/-- No bytes are written so, if what was read is written otherwise. -/
theorem dec_none {pre : List P4} {T : ByteArray} (h : pre.map (·.1) = piecesB 4 T) (hne : encL ⟨(decP pre).toArray⟩ ≠ T.data.toList) : ∀ b : ByteArray, encL b ≠ T.data.toList := fun b hb => by
  apply hne
  have hT : T = ⟨(encL b).toArray⟩ := ByteArray.ext (Array.toList_inj.1 hb.symm)
  have : decP pre = b.data.toList := by rw [decP_all h, hT]; exact dec_pieces b.size b (Nat.le_refl _)
  rw [this]
  exact hb

theorem step_append_any {P : Program} {ops : Array Oper} {o : Oper} {a : Act} {w : World} {K : Act → World → Prop} {Q : Exit → Act → World → Prop} {E : Prop} (hgd : o.guard = none) (s x : Operand) (t : TypeId)
    (ho : o.op = .call { callee := .builtin .append, args := #[s, x], argTypes := #[t, t] })
    (base : Nat) (e : TypeId) (i : TypeInfo) (z : Value) (size bytes : Nat) (ht : P.underlying t = some (.slice e)) (hi : P.info? e = some i) (hz : i.zero = some z)
    (hsize : i.size = size) (hby : i.bytes = bytes) (hzs : z.cells.size = size) (hsz : 0 < size)
    (v : Value) (n : Nat) (xs : List Value) (hs : a.eval s = v) (hown : w.ownsRow base e size v n xs)
    (ad : Addr) (m c : Nat) (news : List Value) (hx : a.eval x = .slice (some ad) m c) (hl : news.length = m * size) (hnews : ∀ j u, news[j]? = some u → w.cell? (ad.add j) = some u) (h1 : ∀ u ∈ news, u.oneCell' = true)
    (h63 : n + m ≤ maxLen) (hbytes : (n + m) * bytes ≤ 140737488355328) (hbase : base ≤ w.heap.size)
    (h : ∀ v' w', w'.ownsRow base e size v' (n + m) (xs ++ news) → w.grownBy w' v.ownBlock → K (a.put o.dst v') w') :
    if Region.wanted o (yielded ops a.tmps) = true then Oper.wp P o a w K Q else E := by
  have hw : Region.wanted o (yielded ops a.tmps) = true := by simp [Region.wanted, hgd]
  rw [if_pos hw]
  obtain ⟨v', w', hrun, r1, r2, _⟩ := run_append_own (P := P) w base t o.type e i z size bytes ht hi hz hsize hby hzs hsz v n xs hown ad m c news hl hnews h1 h63 hbytes hbase
  unfold Oper.wp
  simp [execOp, ho, resolve, invoke, builtin, hs, hx, hrun, Result.andThen]
  exact h v' w' r1 r2
end Go.Proofs.YtioncfodelaakaaDoor
