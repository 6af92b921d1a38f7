/-
  The statement on folded texts; told what the program's own functions answer.
-/
import Derived.Test.YtioncfodelaakaaDoorBLaw2
import Derived.Deep.QuietTactic
import Derived.BigQuiet
namespace Go.Proofs.YtioncfodelaakaaDoor
open Go.RowKit Ch

theorem fold_low {n : Int} (h : n < 1) (l : List UInt8) : ∀ i, foldFrom n i l = l := by
  induction l with
  | nil => intro i; rfl
  | cons c r ih => intro i; rw [foldFrom, if_neg (by omega), ih]

/-- How far the line is, behind k bytes. -/
def lineAt (n : Int) (k : Nat) : Int := if 0 < k ∧ (k : Int) % n = 0 then n else (k : Int) % n
/-- Where the statement's own reading stands. -/
def FoldAt (n : Int) (S T : List UInt8) (p k : Nat) (z : Int) : Prop :=
  (T.drop p = foldFrom n k (S.drop k) ∧ z = lineAt n k) ∨ (∃ c, T.drop p = c :: foldFrom n (k + 1) (S.drop (k + 1)) ∧ S.drop k = c :: S.drop (k + 1) ∧ z = 0 ∧ (k : Int) % n = 0)
theorem drop_some {l r : List UInt8} {c : UInt8} {p : Nat} (h : l.drop p = c :: r) : l[p]? = some c ∧ l.drop (p + 1) = r := by
  constructor
  · have := congrArg (fun x : List UInt8 => x[0]?) h
    simpa using this
  · have := congrArg (fun x : List UInt8 => x.drop 1) h
    simpa [List.drop_drop] using this
theorem line_next {n : Int} (hn : 1 ≤ n) (k : Nat) : lineAt n (k + 1) = (k : Int) % n + 1 := by
  unfold lineAt
  have hr0 := Int.emod_nonneg (k : Int) (show n ≠ 0 by omega)
  have hr1 := Int.emod_lt_of_pos (k : Int) (show 0 < n by omega)
  have e := Int.emod_add_mul_ediv (k : Int) n
  by_cases h1 : (k : Int) % n + 1 = n
  · have : ((k + 1 : Nat) : Int) % n = 0 := by
      have e2 : ((k + 1 : Nat) : Int) = n * ((k : Int) / n + 1) := by rw [Int.mul_add]; omega
      rw [e2]
      exact Int.mul_emod_right _ _
    rw [if_pos ⟨by omega, this⟩, h1]
  · have : ((k + 1 : Nat) : Int) % n = (k : Int) % n + 1 := by
      have e2 : ((k + 1 : Nat) : Int) = ((k : Int) % n + 1) + n * ((k : Int) / n) := by omega
      rw [e2, Int.add_mul_emod_self_left]
      exact Int.emod_eq_of_lt (by omega) (by omega)
    rw [this, if_neg (by omega)]
theorem fold_step {n : Int} (hn : 1 ≤ n) {S T : List UInt8} {p k : Nat} {z : Int} (h : FoldAt n S T p k z) (hp : p < T.length) :
    (z = n ∧ T[p]? = some 10 ∧ FoldAt n S T (p + 1) k 0) ∨ (∃ c, 0 ≤ z ∧ z < n ∧ k < S.length ∧ T[p]? = some c ∧ S[k]? = some c ∧ FoldAt n S T (p + 1) (k + 1) (z + 1)) := by
  have hr0 := Int.emod_nonneg (k : Int) (show n ≠ 0 by omega)
  have hr1 := Int.emod_lt_of_pos (k : Int) (show 0 < n by omega)
  rcases h with ⟨h, hz⟩ | ⟨c, h, h2, hz, hk⟩
  · have hk : k < S.length := by
      rcases Nat.lt_or_ge k S.length with h' | h'
      · exact h'
      · rw [List.drop_of_length_le h', foldFrom] at h
        have := congrArg List.length h
        rw [List.length_drop] at this
        simp at this
        omega
    obtain ⟨c, hc⟩ : ∃ c, S.drop k = c :: S.drop (k + 1) := ⟨_, List.drop_eq_getElem_cons hk⟩
    rw [hc] at h
    by_cases hb : 0 < k ∧ (k : Int) % n = 0
    · rw [foldFrom, if_pos ⟨by omega, hb⟩] at h
      obtain ⟨h1, h2⟩ := drop_some h
      refine .inl ⟨by rw [hz]; unfold lineAt; rw [if_pos hb], h1, .inr ⟨c, h2, hc, rfl, hb.2⟩⟩
    · rw [foldFrom, if_neg (by omega)] at h
      obtain ⟨h1, h2⟩ := drop_some h
      have hz' : z = (k : Int) % n := by rw [hz]; unfold lineAt; rw [if_neg hb]
      refine .inr ⟨c, by omega, by omega, hk, h1, (drop_some hc).1, .inl ⟨h2, ?_⟩⟩
      rw [line_next hn k, hz']
  · obtain ⟨h1, h3⟩ := drop_some h
    have hkl : k < S.length := by
      rcases Nat.lt_or_ge k S.length with h' | h'
      · exact h'
      · rw [List.drop_of_length_le h'] at h2; cases h2
    refine .inr ⟨c, by omega, by omega, hkl, h1, (drop_some h2).1, .inl ⟨h3, ?_⟩⟩
    rw [line_next hn k, hz, hk]
theorem fold_end {n : Int} {S T : List UInt8} {p k : Nat} {z : Int} (h : FoldAt n S T p k z) (hp : T.length ≤ p) : S.length ≤ k := by
  rcases h with ⟨h, _⟩ | ⟨c, h, _⟩
  · rcases Nat.lt_or_ge k S.length with h' | h'
    · exfalso
      rw [List.drop_of_length_le hp, List.drop_eq_getElem_cons h', foldFrom] at h
      split at h <;> cases h
    · exact h'
  · rw [List.drop_of_length_le hp] at h; cases h
theorem fold_start (n : Int) (S : List UInt8) : FoldAt n S (foldL n S) 0 0 0 := by
  refine .inl ⟨rfl, ?_⟩
  unfold lineAt
  rw [if_neg (by omega)]
  simp
theorem byte_of {s : ByteArray} {i : Nat} {c : UInt8} (h : s.data.toList[i]? = some c) (hi : i < s.size) : s[i]'hi = c := by
  have := list_at s i hi
  rw [h] at this
  exact (Option.some.inj this).symm

set_option maxHeartbeats 1000000 in
theorem lFolds_any {G : World → Prop} (OK : BaseOk G) (s : ByteArray) (n : Int) (w : World) (hG : G w) (hs : s.size ≤ 9223372036854775807) (hn0 : -9223372036854775808 ≤ n) (hn1 : n ≤ 9223372036854775807) :
    Calls Tryd.prog 6 #[.string s, .int .i64 n] w fun e w' => e = .returned (.bool true) ∧ Below w.heap.size w w' := by
  by_cases h : s.size ≤ 3000
  · obtain ⟨T, hT⟩ : ∃ T : ByteArray, (⟨(foldL n s.data.toList).toArray⟩ : ByteArray) = T := ⟨_, rfl⟩
    have hTl : Hid (T.data.toList = foldL n s.data.toList) := by unfold Hid; rw [← hT]
    have hTz : T.size ≤ 6000 := by rw [← hT, size_of_list]; have := fold_length n s.data.toList 0; rw [len_eq] at this; unfold foldL; omega
    have tT := text_eq T
    by_cases hn : n < 1
    · obtain rfl : T = s := by
        rw [← hT]
        unfold foldL
        rw [fold_low hn]
      go_enter Tryd.func6, Tryd.ntmps6
      go_wp2_with fail
      refine (awakeB_any OK w hG).mono ?_
      rintro e w1 ⟨rfl, hb1⟩
      have hG1 := OK.later _ _ hG hb1
      go_wp2_with fail
      refine (OK.fold T n w1 hG1 (by omega) hn0 hn1).mono ?_
      rintro e w2 ⟨rfl, hb2⟩
      rw [hT]
      go_wp2_with fail
      refine (sFold_any T n w2 (by omega) hn0 hn1).mono ?_
      rintro e w3 ⟨rfl, hb3⟩
      rw [hT]
      clear hT hTl
      go_wp2_with fail
      go_ret
      have s1 := hb1.size
      have s2 := hb2.size
      exact ⟨rfl, hb1.trans ((hb2.trans (hb3.mono s2)).mono s1)⟩
    · go_enter Tryd.func6, Tryd.ntmps6
      go_wp2_with fail
      refine (awakeB_any OK w hG).mono ?_
      rintro e w1 ⟨rfl, hb1⟩
      have hG1 := OK.later _ _ hG hb1
      go_wp2_with fail
      refine (OK.fold s n w1 hG1 (by omega) hn0 hn1).mono ?_
      rintro e w2 ⟨rfl, hb2⟩
      rw [hT]
      go_wp2_with fail
      refine (sFold_any s n w2 (by omega) hn0 hn1).mono ?_
      rintro e w3 ⟨rfl, hb3⟩
      rw [hT]
      have s1 := hb1.size
      have s2 := hb2.size
      have hbw : Below w.heap.size w w3 := hb1.trans ((hb2.trans (hb3.mono s2)).mono s1)
      clear hT
      go_wp2_with fail
      go_loopw [6, 7, 8] (fun at_ line i wr => ∃ (p k : Nat) (z : Int), at_ = .int .i64 (k : Int) ∧ line = .int .i64 z ∧ i = .int .i64 (p : Int) ∧ p ≤ T.size ∧ k ≤ s.size ∧ Below w.heap.size w wr ∧ Hid (FoldAt n s.data.toList T.data.toList p k z)) (fun _ _ i _ => T.size - (intOf i).toNat)
      case atStart => exact ⟨0, 0, 0, rfl, rfl, rfl, Nat.zero_le _, Nat.zero_le _, hbw, by unfold Hid; rw [hTl.out]; exact fold_start n _⟩
      case round =>
        obtain ⟨p, k, z, rfl, rfl, rfl, hp, hk, hb, hF⟩ := hrel
        by_cases hlt : p < T.size
        · rcases fold_step (by omega) hF.out (by rw [len_eq]; exact hlt) with ⟨rfl, h1, h2⟩ | ⟨c, hz0, hz1, hkl, h1, h2, h3⟩
          · have H2 : Hid (FoldAt z s.data.toList T.data.toList (p + 1) k 0) := h2
            have hb10 : T[p]'hlt = 10 := byte_of h1 hlt
            have e10 : (((T[p]'hlt).toNat : Int) == 10) = true := by rw [hb10]; rfl
            have ez : (z == z) = true := by simp
            clear h1 h2 hF hb10
            go_wp2_with fail
            go_roundw
            case rel => exact ⟨p + 1, k, 0, by go_num, by go_num, by go_num, by omega, hk, hb, H2⟩
            case measure => simp [intOf]; omega
          · rw [len_eq] at hkl
            have H3 : Hid (FoldAt n s.data.toList T.data.toList (p + 1) (k + 1) (z + 1)) := h3
            have ec : ((((s[k]'hkl).toNat : Nat) : Int) != (((T[p]'hlt).toNat : Nat) : Int)) = false := by
              rw [byte_of h1 hlt, byte_of h2 hkl]
              simp
            have ez : (z == n) = false := beq_eq_false_iff_ne.2 (by omega)
            have ek : decide ((s.size : Int) ≤ (k : Int)) = false := decide_eq_false (by omega)
            have en : decide (n ≤ z) = false := decide_eq_false (by omega)
            have q1 : (0 : Int) ≤ (k : Int) := by omega
            have q2 : (k : Int) < (s.size : Int) := by omega
            have q3 : (0 : Int) ≤ (p : Int) := by omega
            have q4 : (p : Int) < (T.size : Int) := by omega
            clear h1 h2 h3 hF
            go_wp2_with fail
            go_quiet (fail)
            go_wp2
            go_roundw
            case rel => exact ⟨p + 1, k + 1, z + 1, by go_num, by go_num, by go_num, by omega, by omega, below_drewN hb nq, H3⟩
            case measure => simp [intOf]; omega
        · have hend := fold_end hF.out (by rw [len_eq]; omega)
          rw [len_eq] at hend
          have ek : ((k : Int) == (s.size : Int)) = true := beq_iff_eq.2 (by omega)
          go_wp2_with fail
          go_ret
          exact ⟨rfl, hb⟩
  · go_enter Tryd.func6, Tryd.ntmps6
    go_wp2_with fail
    refine (awakeB_any OK w hG).mono ?_
    rintro e w1 ⟨rfl, hb1⟩
    have hG1 := OK.later _ _ hG hb1
    go_wp2_with fail
    refine (awakeB_any OK w1 hG1).mono ?_
    rintro e w2 ⟨rfl, hb2⟩
    go_wp2_with fail
    go_ret
    have s1 := hb1.size
    exact ⟨rfl, hb1.trans (hb2.mono s1)⟩
end Go.Proofs.YtioncfodelaakaaDoor
