/-
  The document's Words, Collapse and Texts, for every text.
-/
import Derived.Test.YtmhbdckgejcdhaaDoorRLines
import Derived.Deep.QuietTactic
import Derived.BigQuiet
namespace Go.Proofs.YtmhbdckgejcdhaaDoor
open Go.RowKit Ch

theorem words_over (s : ByteArray) : wordsFrom (seg s (s.size + 1) (s.size + 1)) (s.data.toList.drop (s.size + 1)) = [] := by
  rw [seg_nil, List.drop_of_length_le (by rw [len_eq]; omega)]
  rfl

/-- A blank, or the end. -/
theorem words_stop {s : ByteArray} {a i : Nat} (hi : i ≤ s.size) (h : i < s.size → blankB (byte s i : Int) = true) : wordsFrom (seg s a i) (s.data.toList.drop i) = flush (seg s a i) ++ wordsFrom (seg s (i + 1) (i + 1)) (s.data.toList.drop (i + 1)) := by
  rcases Nat.lt_or_ge i s.size with h' | h'
  · exact words_blank h' (h h')
  · obtain rfl : i = s.size := by omega
    rw [words_end, words_over, List.append_nil]

theorem own_word {w : World} {base : Nat} {v : Value} {ws : List (List UInt8)} {s : ByteArray} {a b : Nat} (h : w.ownsRow base 9 1 v (ws.length + 1) (strs ws ++ [.string (s.extract a b)])) : w.ownsRow base 9 1 v (strs (ws ++ [seg s a b])).length (strs (ws ++ [seg s a b])) := by
  rw [strs_snoc] at h
  rw [strs_length, List.length_append]
  exact h

set_option maxHeartbeats 2000000 in
theorem rWords_any (s : ByteArray) (w : World) (hs : s.size ≤ 1000000) :
    Calls Tryd.prog 21 #[.string s] w fun e w' => ∃ v, e = .returned v ∧ w'.ownsRow w.heap.size 9 1 v (wordsB s).length ((wordsB s).map Value.string) ∧ Below w.heap.size w w' := by
  obtain ⟨i0, hi, hz0, hz1, hz2⟩ := info9
  go_enter Tryd.func21, Tryd.ntmps21
  go_wp2
  go_loopw [3, 4, 5] (fun v f t wr => ∃ (i start : Nat) (fr : Int) (ws : List (List UInt8)), i ≤ s.size + 1 ∧ t = .int .i64 i ∧ f = .int .i64 fr ∧ wr.ownsRow w.heap.size 9 1 v (strs ws).length (strs ws) ∧ Below w.heap.size w wr ∧ Hid (ws ++ wordsFrom (seg s start i) (s.data.toList.drop i) = words s.data.toList) ∧ ((fr = -1 ∧ start = i) ∨ (fr = start ∧ start < i ∧ i ≤ s.size)) ∧ ws.length ≤ i) (fun _ _ t _ => s.size + 1 - (intOf t).toNat)
  case atStart => exact ⟨0, 0, -1, [], Nat.zero_le _, rfl, rfl, World.ownsRow_nil _ _ _ _, Below.refl _ _, words_start s, .inl ⟨rfl, rfl⟩, Nat.le_refl _⟩
  case round =>
    obtain ⟨i, start, fr, ws, hi0, rfl, rfl, hown, hb, hW, hfr, hal⟩ := hrel
    have hbs := hb.size
    by_cases hle : i ≤ s.size
    · by_cases hnb : i < s.size ∧ blankB (byte s i : Int) = false
      · obtain ⟨hlt, hbl⟩ := hnb
        have hbl' : blankB ((s[i]'hlt).toNat : Int) = false := by rw [← byte_eq s i hlt]; exact hbl
        have hW2 : Hid (ws ++ wordsFrom (seg s start (i + 1)) (s.data.toList.drop (i + 1)) = words s.data.toList) := by
          have := hW.out
          rw [words_step (n := 1) (by omega) (fun k hk => by
            obtain rfl : k = 0 := by omega
            exact hbl)] at this
          exact this
        clear hW hbl
        rcases hfr with ⟨rfl, rfl⟩ | ⟨rfl, h1, h2⟩
        · go_wp2_with (go_at_call 32; refine (rBlank_any _ _).mono ?_; rintro e w' ⟨rfl, hw'⟩; rw [hw']; clear hw' w')
          go_roundw
          case rel => exact ⟨start + 1, start, start, ws, by omega, by go_num, rfl, hown, hb, hW2, .inr ⟨rfl, by omega, by omega⟩, by omega⟩
          case measure => simp [intOf]; omega
        · go_wp2_with (go_at_call 32; refine (rBlank_any _ _).mono ?_; rintro e w' ⟨rfl, hw'⟩; rw [hw']; clear hw' w')
          go_roundw
          case rel => exact ⟨i + 1, start, start, ws, by omega, by go_num, rfl, hown, hb, hW2, .inr ⟨rfl, by omega, by omega⟩, by omega⟩
          case measure => simp [intOf]; omega
      · have hst : i < s.size → blankB (byte s i : Int) = true := fun h => by
          cases hx : blankB (byte s i : Int)
          · exact absurd ⟨h, hx⟩ hnb
          · rfl
        have hW2 : Hid ((ws ++ flush (seg s start i)) ++ wordsFrom (seg s (i + 1) (i + 1)) (s.data.toList.drop (i + 1)) = words s.data.toList) := by
          have := hW.out
          rw [words_stop hle hst, ← List.append_assoc] at this
          exact this
        clear hW hnb
        rcases hfr with ⟨rfl, rfl⟩ | ⟨rfl, h1, h2⟩
        · rw [flush_none (by omega), List.append_nil] at hW2
          by_cases hlt : start < s.size
          · have hbl' : blankB ((s[start]'hlt).toNat : Int) = true := by rw [← byte_eq s start hlt]; exact hst hlt
            clear hst
            go_wp2_with (go_at_call 32; refine (rBlank_any _ _).mono ?_; rintro e w' ⟨rfl, hw'⟩; rw [hw']; clear hw' w')
            go_roundw
            case rel => exact ⟨start + 1, start + 1, -1, ws, by omega, by go_num, rfl, hown, hb, hW2, .inl ⟨rfl, rfl⟩, by omega⟩
            case measure => simp [intOf]; omega
          · clear hst
            go_wp2_with fail
            go_roundw
            case rel => exact ⟨start + 1, start + 1, -1, ws, by omega, by go_num, rfl, hown, hb, hW2, .inl ⟨rfl, rfl⟩, by omega⟩
            case measure => simp [intOf]; omega
        · rw [flush_some h1 hle] at hW2
          have hsl := strs_length ws
          have hle2 : start ≤ i := by omega
          by_cases hlt : i < s.size
          · have hbl' : blankB ((s[i]'hlt).toNat : Int) = true := by rw [← byte_eq s i hlt]; exact hst hlt
            clear hst
            go_wp2_with (first | (go_at_call 32; refine (rBlank_any _ _).mono ?_; rintro e w' ⟨rfl, hw'⟩; rw [hw']; clear hw' w') | (at_builtin; refine wpList_append_own _ rfl _ _ 26 rfl w.heap.size 9 i0 (.string ⟨#[]⟩) 1 16 Tryd.underlying26 hi hz0 hz1 hz2 rfl (by decide) _ _ _ rfl (hown.alloc _) ⟨wr.heap.size, 0, none⟩ 1 1 [_] rfl rfl (cell_one_new _ _ _) (by intro u hu; simp at hu; subst hu; rfl) (by unfold maxLen; omega) (by omega) (by simp; omega) ?_))
            intro v' w2 hown2 hgrow _
            have hb2 : Below w.heap.size w w2 := (hb.alloc hb.size _).grown hgrow (by simp; omega) (own_ge hown)
            have hown3 := own_word hown2
            clear hgrow hown2 hown
            go_wp2_with fail
            go_roundw
            case rel => exact ⟨i + 1, i + 1, -1, ws ++ [seg s start i], by omega, by go_num, rfl, hown3, hb2, hW2, .inl ⟨rfl, rfl⟩, by simp; omega⟩
            case measure => simp [intOf]; omega
          · clear hst
            go_wp2_with (at_builtin; refine wpList_append_own _ rfl _ _ 26 rfl w.heap.size 9 i0 (.string ⟨#[]⟩) 1 16 Tryd.underlying26 hi hz0 hz1 hz2 rfl (by decide) _ _ _ rfl (hown.alloc _) ⟨wr.heap.size, 0, none⟩ 1 1 [_] rfl rfl (cell_one_new _ _ _) (by intro u hu; simp at hu; subst hu; rfl) (by unfold maxLen; omega) (by omega) (by simp; omega) ?_)
            intro v' w2 hown2 hgrow _
            have hb2 : Below w.heap.size w w2 := (hb.alloc hb.size _).grown hgrow (by simp; omega) (own_ge hown)
            have hown3 := own_word hown2
            clear hgrow hown2 hown
            go_wp2_with fail
            go_roundw
            case rel => exact ⟨i + 1, i + 1, -1, ws ++ [seg s start i], by omega, by go_num, rfl, hown3, hb2, hW2, .inl ⟨rfl, rfl⟩, by simp; omega⟩
            case measure => simp [intOf]; omega
    · obtain rfl : i = s.size + 1 := by omega
      have hW2 : Hid (ws = words s.data.toList) := by
        rcases hfr with ⟨_, rfl⟩ | ⟨_, _, h2⟩
        · have := hW.out
          rw [words_over, List.append_nil] at this
          exact this
        · omega
      clear hW hfr
      go_wp2
      go_ret
      refine ⟨_, rfl, ?_, hb⟩
      rw [hW2.out, strs_wordsB] at hown
      simpa using hown

theorem mem_total {x : List UInt8} : ∀ {ws : List (List UInt8)}, x ∈ ws → x.length + 1 ≤ total ws
  | y :: r, h => by
    rcases List.mem_cons.1 h with rfl | h
    · simp [total]
    · have := mem_total h
      simp only [total, List.map_cons, List.sum_cons] at this ⊢
      omega
theorem join_take_one {ws : List (List UInt8)} {x : List UInt8} (h : ws[0]? = some x) : Lib.join (ws.take 1) [32] = x := by
  match ws, h with
  | y :: r, h =>
    simp at h
    rw [h]
    exact Lib.join_one x [32]
theorem join_take_more {ws : List (List UInt8)} {x : List UInt8} {k : Nat} (h : ws[k + 1]? = some x) : Lib.join (ws.take (k + 2)) [32] = Lib.join (ws.take (k + 1)) [32] ++ [32] ++ x := by
  match ws, h with
  | y :: r, h =>
    rw [List.take_succ_cons, List.take_succ_cons, Lib.join_cons, Lib.join_cons]
    rw [Lib.joinTail_take_succ [32] r k x (by simpa using h)]
    simp [List.append_assoc]
theorem join_take_le (ws : List (List UInt8)) (k : Nat) : (Lib.join (ws.take k) [32]).length ≤ total ws := by
  refine Nat.le_trans (join_le _) ?_
  have h := total_append (ws.take k) (ws.drop k)
  rw [List.take_append_drop] at h
  omega
theorem bytes_append (a b : ByteArray) : (a ++ b).data.toList = a.data.toList ++ b.data.toList := by
  simp
theorem text_of {o : ByteArray} {l : List UInt8} (h : o.data.toList = l) : o = ⟨l.toArray⟩ := by
  apply ByteArray.ext
  apply Array.toList_inj.1
  exact h

set_option maxHeartbeats 2000000 in
theorem rCollapse_any (s : ByteArray) (w : World) (hs : s.size ≤ 1000000) :
    Calls Tryd.prog 18 #[.string s] w fun e w' => e = .returned (.string ⟨(collapse s.data.toList).toArray⟩) ∧ Below w.heap.size w w' := by
  have htot := words_total s
  have hlen := length_total (words s.data.toList)
  have hwl := wordsB_length s
  have hjl := fun k => join_take_le (words s.data.toList) k
  go_enter Tryd.func18, Tryd.ntmps18
  go_wp2_with fail
  refine (rWords_any s w hs).mono ?_
  rintro e w1 ⟨v, rfl, own1, b1⟩
  have hcell := own_cells own1
  clear own1
  have hne : Hid (∀ k, k < (wordsB s).length → ∃ (x : ByteArray), (words s.data.toList)[k]? = some x.data.toList ∧ (wordsB s)[k]? = some x) := by
    unfold Hid
    intro k hk
    refine ⟨(wordsB s)[k], ?_, List.getElem?_eq_getElem hk⟩
    have e := wordsB_lists s
    rw [← e, List.getElem?_map, List.getElem?_eq_getElem hk]
    rfl
  rcases hcell with ⟨rfl, hnil⟩ | ⟨g, cap, rfl, _, hlt, hcap, hc⟩
  · have hq : Hid (collapse s.data.toList = []) := by
      have e := wordsB_lists s
      rw [hnil] at e
      unfold Hid collapse
      rw [← e]
      rfl
    clear hne hnil hjl
    go_wp2_with fail
    go_loop [4, 5] (fun o t => t = .int .i64 0 ∧ o = .string ⟨#[]⟩) (fun _ _ => 0)
    case atStart => exact ⟨rfl, rfl⟩
    case round =>
      obtain ⟨rfl, rfl⟩ := hrel
      go_wp2
      go_ret
      rw [hq.out]
      exact ⟨rfl, b1⟩
  · have HC : Hid (∀ (j : Nat) x, (wordsB s)[j]? = some x → w1.cell? ⟨g, 0 + j, none⟩ = some (.string x)) := hc
    clear hc
    obtain ⟨m, hm⟩ : ∃ m, (wordsB s).length = m := ⟨_, rfl⟩
    rw [hm] at hcap hwl hne ⊢
    have hm2 : m ≤ 1000001 := by omega
    have HM : Hid (m = (words s.data.toList).length) := hwl
    have HJ : Hid (∀ k, (Lib.join ((words s.data.toList).take k) [32]).length ≤ 1000001) := fun k => Nat.le_trans (hjl k) (by omega)
    clear hjl hwl hm htot hlen
    go_wp2_with fail
    go_loop [4, 5] (fun o t => ∃ (i : Nat) (ob : ByteArray), i ≤ m ∧ t = .int .i64 i ∧ o = .string ob ∧ Hid (ob.data.toList = Lib.join ((words s.data.toList).take i) [32])) (fun _ t => m - (intOf t).toNat)
    case atStart => exact ⟨0, ⟨#[]⟩, Nat.zero_le _, rfl, rfl, rfl⟩
    case round =>
      obtain ⟨i, ob, hi0, rfl, rfl, hob⟩ := hrel
      have hobz : ob.size ≤ 1000001 := by
        have := HJ.out i
        rw [← hob.out, len_eq] at this
        exact this
      by_cases hlt2 : i < m
      · obtain ⟨x, hx1, hx2⟩ := hne.out i hlt2
        have hcx : w1.cell? ⟨g, i, none⟩ = some (.string x) := by
          have := HC.out i x hx2
          rw [Nat.zero_add] at this
          exact this
        have hxz : x.size ≤ 1000001 := by
          have := HJ.out 0
          have h2 := words_total s
          have h3 : x.data.toList.length + 1 ≤ total (words s.data.toList) := by
            have hm := List.mem_of_getElem? hx1
            exact mem_total hm
          rw [len_eq] at h3
          omega
        have HX : Hid ((words s.data.toList)[i]? = some x.data.toList) := hx1
        clear hx1 hx2
        by_cases hz : i = 0
        · have HR : Hid ((ob ++ x).data.toList = Lib.join ((words s.data.toList).take (i + 1)) [32]) := by
            unfold Hid
            rw [bytes_append, hob.out, hz, join_take_one (by rw [← hz]; exact HX.out)]
            rfl
          have hz' : ¬ (0 < i) := by omega
          clear hz hob
          go_wp2
          go_round
          case rel => exact ⟨i + 1, ob ++ x, by omega, by go_num, rfl, HR⟩
          case measure => simp [intOf]; omega
        · have HR : Hid ((ob ++ ⟨#[32]⟩ ++ x).data.toList = Lib.join ((words s.data.toList).take (i + 1)) [32]) := by
            unfold Hid
            obtain ⟨k, rfl⟩ : ∃ k, i = k + 1 := ⟨i - 1, by omega⟩
            rw [bytes_append, bytes_append, hob.out, join_take_more HX.out]
          have hz' : 0 < i := by omega
          clear hz hob
          go_wp2
          go_round
          case rel => exact ⟨i + 1, ob ++ ⟨#[32]⟩ ++ x, by omega, by go_num, rfl, HR⟩
          case measure => simp [intOf]; omega
      · have HR : Hid (ob = ⟨(collapse s.data.toList).toArray⟩) := by
          unfold Hid
          refine text_of ?_
          rw [hob.out, List.take_of_length_le (by have := HM.out; omega)]
          rfl
        go_wp2
        go_ret
        rw [HR.out]
        exact ⟨rfl, b1⟩

set_option maxHeartbeats 2000000 in
theorem rTexts_none (a b : Option Addr) (ca cb : Nat) (w : World) :
    Calls Tryd.prog 19 #[.slice a 0 ca, .slice b 0 cb] w fun e w' => e = .returned (.bool true) ∧ Below w.heap.size w w' := by
  go_enter Tryd.func19, Tryd.ntmps19
  go_wp2
  go_loop [5] (fun t => t = .int .i64 0) (fun _ => 0)
  case atStart => rfl
  case round =>
    subst hrel
    go_wp2
    go_ret
    exact ⟨rfl, Below.refl _ _⟩

set_option maxHeartbeats 2000000 in
theorem rTexts_some (g1 o1 c1 g2 o2 c2 : Nat) (l : List ByteArray) (w : World) (hl : l.length ≤ 1000001) (h1 : ∀ (j : Nat) x, l[j]? = some x → w.cell? ⟨g1, o1 + j, none⟩ = some (.string x)) (h2 : ∀ (j : Nat) x, l[j]? = some x → w.cell? ⟨g2, o2 + j, none⟩ = some (.string x)) :
    Calls Tryd.prog 19 #[.slice (some ⟨g1, o1, none⟩) l.length c1, .slice (some ⟨g2, o2, none⟩) l.length c2] w fun e w' => e = .returned (.bool true) ∧ Below w.heap.size w w' := by
  have hne : ((l.length : Int) != (l.length : Int)) = false := by simp
  go_enter Tryd.func19, Tryd.ntmps19
  go_wp2
  go_loopw [5] (fun t wr => ∃ i : Nat, i ≤ l.length ∧ t = .int .i64 i ∧ Below w.heap.size w wr ∧ (∀ b o, wr.cell? ⟨b, o, none⟩ = w.cell? ⟨b, o, none⟩)) (fun t _ => l.length - (intOf t).toNat)
  case atStart => exact ⟨0, Nat.zero_le _, rfl, Below.refl _ _, fun _ _ => rfl⟩
  case round =>
    obtain ⟨i, hi0, rfl, hb, hcl⟩ := hrel
    by_cases hlt : i < l.length
    · have hx : l[i]? = some l[i] := List.getElem?_eq_getElem hlt
      have e1 : wr.cell? ⟨g1, o1 + i, none⟩ = some (.string l[i]) := (hcl _ _).trans (h1 i _ hx)
      have e2 : wr.cell? ⟨g2, o2 + i, none⟩ = some (.string l[i]) := (hcl _ _).trans (h2 i _ hx)
      obtain ⟨x, hxe⟩ : ∃ x, l[i] = x := ⟨_, rfl⟩
      rw [hxe] at e1 e2
      have hxx : (x.toList != x.toList) = false := by simp
      have HCL : Hid (∀ b o, wr.cell? ⟨b, o, none⟩ = w.cell? ⟨b, o, none⟩) := hcl
      clear hx hxe hcl h1 h2
      have q1 : (0 : Int) ≤ (i : Int) := by omega
      have q2 : (i : Int) < (l.length : Int) := by omega
      go_wp2_with fail
      go_quiet (fail)
      go_wp2
      go_roundw
      case rel => exact ⟨i + 1, by omega, by go_num, below_drewN hb nq, fun b o => by have := HCL.out b o; simpa using this⟩
      case measure => simp [intOf]; omega
    · go_wp2
      go_ret
      exact ⟨rfl, hb⟩

theorem rTexts_same {w : World} {b1 b2 : Nat} {v1 v2 : Value} {l : List ByteArray} (hl : l.length ≤ 1000001) (h1 : w.ownsRow b1 9 1 v1 l.length (l.map Value.string)) (h2 : w.ownsRow b2 9 1 v2 l.length (l.map Value.string)) :
    Calls Tryd.prog 19 #[v1, v2] w fun e w' => e = .returned (.bool true) ∧ Below w.heap.size w w' := by
  rcases own_cells h1 with ⟨rfl, rfl⟩ | ⟨g1, c1, rfl, _, _, _, hc1⟩
  · rcases own_cells h2 with ⟨rfl, _⟩ | ⟨g2, c2, rfl, _, _, _, _⟩
    · exact rTexts_none none none 0 0 w
    · exact rTexts_none none _ 0 c2 w
  · rcases own_cells h2 with ⟨rfl, rfl⟩ | ⟨g2, c2, rfl, _, _, _, hc2⟩
    · exact rTexts_none _ none c1 0 w
    · exact rTexts_some g1 0 c1 g2 0 c2 l w hl hc1 hc2
end Go.Proofs.YtmhbdckgejcdhaaDoor
