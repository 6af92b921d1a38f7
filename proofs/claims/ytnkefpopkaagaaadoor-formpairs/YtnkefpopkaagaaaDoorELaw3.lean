/-
  The statement on pairs as a query.
-/
import Derived.Test.YtnkefpopkaagaaaDoorELaw2
namespace Go.Proofs.YtnkefpopkaagaaaDoor
open Go.RowKit Ch
set_option maxRecDepth 100000

theorem pairL_le (p : ByteArray × ByteArray) (h : p.1.size ≤ 200 ∧ p.2.size ≤ 200) : (pairL p).length ≤ 1201 := by
  have h1 := percL_length p.1.data.toList
  have h2 := percL_length p.2.data.toList
  rw [len_eq] at h1 h2
  unfold pairL
  rw [List.length_append, List.length_append]
  simp
  omega
theorem queryFrom_le : ∀ (l : List (ByteArray × ByteArray)) (f : Bool), (∀ p ∈ l, p.1.size ≤ 200 ∧ p.2.size ≤ 200) → (queryFrom f l).length ≤ 1202 * l.length
  | [], f, _ => by cases f <;> simp [queryFrom]
  | p :: r, f, h => by
    have h1 := pairL_le p (h p (by simp))
    have h2 := queryFrom_le r false (fun x hx => h x (by simp [hx]))
    have h3 : (if f = true then ([] : List UInt8) else [38]).length ≤ 1 := by split <;> simp
    rw [queryFrom, List.length_append, List.length_append, List.length_cons]
    omega
theorem as_back (l : List (ByteArray × ByteArray)) : (l.map fun p => (p.1.data.toList, p.2.data.toList)).map asBA = l := by
  rw [List.map_map]
  have : (asBA ∘ fun p : ByteArray × ByteArray => (p.1.data.toList, p.2.data.toList)) = id := by
    funext p
    rfl
  rw [this, List.map_id]
theorem pairs_none {w : World} {v : Value} (h : IsPairs w v []) : ∃ a cap, v = .slice a 0 cap := by
  obtain ⟨a, cap, rfl, _⟩ := h
  exact ⟨a, cap, rfl⟩

set_option maxHeartbeats 2000000 in
theorem lPairs_some (b o cap : Nat) (l : List (ByteArray × ByteArray)) (name : ByteArray) (w : World) (hG : MaxLenIs w) (hl : l.length ≤ 100) (hcap : l.length ≤ cap) (hcm : cap ≤ maxLen) (hbl : b < w.heap.size)
    (hsz : ∀ p ∈ l, p.1.size ≤ 9223372036854775807 ∧ p.2.size ≤ 9223372036854775807)
    (hf : ∀ i p, l[i]? = some p → w.cell? ⟨b, o + i * 2, none⟩ = some (.string p.1) ∧ w.cell? ⟨b, o + i * 2 + 1, none⟩ = some (.string p.2)) :
    Calls Tryd.prog 5 #[.slice (some ⟨b, o, none⟩) l.length cap, .string name] w fun e w' => e = .returned (.bool true) ∧ Below w.heap.size w w' := by
  have HI : Hid (IsPairs w (.slice (some ⟨b, o, none⟩) l.length cap) l) := ⟨_, _, rfl, hcap, hcm, .inr ⟨_, rfl, .inr ⟨b, o, rfl, hbl, hf⟩⟩⟩
  have HF : Hid (∀ i p, l[i]? = some p → w.cell? ⟨b, o + i * 2, none⟩ = some (.string p.1) ∧ w.cell? ⟨b, o + i * 2 + 1, none⟩ = some (.string p.2)) := hf
  clear hf
  go_enter Tryd.func5, Tryd.ntmps5
  go_wp2_with fail
  refine (awakeE_any w hG).mono ?_
  rintro e w1 ⟨rfl, hb1⟩
  have hz1 := hb1.size
  go_wp2_with fail
  go_loopw [5] (fun t wr => ∃ i : Nat, t = .int .i64 (i : Int) ∧ i ≤ l.length ∧ Below w1.heap.size w1 wr ∧ Hid (∀ p ∈ l.take i, p.1.size ≤ 200 ∧ p.2.size ≤ 200)) (fun t _ => l.length - (intOf t).toNat)
  case atStart => exact ⟨0, rfl, Nat.zero_le _, Below.refl _ _, fun p hp => by simp at hp⟩
  case round =>
    obtain ⟨i, rfl, hi, hb, hsm⟩ := hrel
    have hBW := hb1.trans (hb.mono hz1)
    by_cases hlt : i < l.length
    · obtain ⟨p, hp⟩ : ∃ p, l[i]? = some p := ⟨_, List.getElem?_eq_getElem hlt⟩
      obtain ⟨f1, f2⟩ := HF.out i p hp
      have c1 := (hBW.cell (p := ⟨b, o + i * 2, none⟩) hbl).trans f1
      have c2 := (hBW.cell (p := ⟨b, o + i * 2 + 1, none⟩) hbl).trans f2
      obtain ⟨hs1, hs2⟩ := hsz p (List.mem_of_getElem? hp)
      have q1 : (0 : Int) ≤ (i : Int) := by omega
      have q2 : (i : Int) < (l.length : Int) := by omega
      have step : (p.1.size ≤ 200 ∧ p.2.size ≤ 200) → Hid (∀ p ∈ l.take (i + 1), p.1.size ≤ 200 ∧ p.2.size ≤ 200) := fun hh x hx => by
        rw [List.take_succ_eq_append_getElem hlt] at hx
        rcases List.mem_append.1 hx with hx | hx
        · exact hsm.out x hx
        · have := List.mem_singleton.1 hx
          rw [List.getElem?_eq_getElem hlt] at hp
          rw [this, Option.some.inj hp]
          exact hh
      clear f1 f2 hp
      by_cases g1 : p.1.size ≤ 200
      · by_cases g2 : p.2.size ≤ 200
        · have hs3 := step ⟨g1, g2⟩
          clear step hsm
          go_wp2_with fail
          go_roundw
          case rel => exact ⟨i + 1, by go_num, by omega, hb, hs3⟩
          case measure => simp [intOf]; omega
        · clear step hsm
          go_wp2_with fail
          go_ret
          exact ⟨rfl, hBW⟩
      · clear step hsm
        go_wp2_with fail
        go_ret
        exact ⟨rfl, hBW⟩
    · have hall : ∀ p ∈ l, p.1.size ≤ 200 ∧ p.2.size ≤ 200 := by
        have := hsm.out
        rw [List.take_of_length_le (by omega)] at this
        exact this
      have hIr : Hid (IsPairs wr (.slice (some ⟨b, o, none⟩) l.length cap) l) := HI.out.later hBW
      have hGr := hG.later hBW
      have hQ1 := fun W h => fQuery_any (.slice (some ⟨b, o, none⟩) l.length cap) l W (by omega) (fun p hp => by have := hall p hp; omega) h
      have hQ2 := fun W h => sQuery_any (.slice (some ⟨b, o, none⟩) l.length cap) l W (by omega) (fun p hp => by have := hall p hp; omega) h
      have hqz := queryFrom_le l true hall
      obtain ⟨pe, pp⟩ := parse_query l
      obtain ⟨S, hS⟩ : ∃ S : ByteArray, ⟨(queryL l).toArray⟩ = S := ⟨_, rfl⟩
      have hSz : S.size ≤ 1000000 := by
        rw [← hS, size_of_list]
        unfold queryL
        omega
      have hP := fun W h => fParse_any S W h hSz
      have hSd : S.data.toList = queryL l := by rw [← hS]
      rw [hSd, pe, pp] at hP
      rw [hS] at hQ1 hQ2
      have tS : (S.toList == S.toList) = true := text_eq S
      clear hsm pe pp hSd hS hqz HF HI
      by_cases h64 : 64 < l.length
      · rw [if_pos h64, if_pos h64] at hP
        go_wp2_with fail
        refine (hQ1 wr hIr.out).mono ?_
        rintro e w2 ⟨rfl, hb2⟩
        go_wp2_with fail
        refine (hP w2 (hGr.later hb2)).mono ?_
        rintro e w3 ⟨v, rfl, hv, hb3⟩
        obtain ⟨a3, cap3, rfl⟩ := pairs_none hv
        have hI3 := (hIr.out.later hb2).later hb3
        clear hv
        go_wp2_with fail
        refine (hQ2 w3 hI3).mono ?_
        rintro e w4 ⟨rfl, hb4⟩
        clear hI3
        go_wp2_with fail
        go_ret
        exact ⟨rfl, below2 hBW (below3 hb2 hb3 hb4)⟩
      · rw [if_neg h64, if_neg h64, as_back] at hP
        have hG1 := fun W v h => fGet_any v l name W (by omega) (fun p hp => by have := hall p hp; omega) h
        have hG2 := fun W v h => sGet_any v l name W (by omega) h
        obtain ⟨V, hV⟩ : ∃ V, getV name l = V := ⟨_, rfl⟩
        obtain ⟨n, hn⟩ : ∃ n, getN name l = n := ⟨_, rfl⟩
        rw [hV, hn] at hG1 hG2
        have tv := text_eq V
        have tn : ((n : Int) == (n : Int)) = true := by simp
        clear hV hn hall
        go_wp2_with fail
        refine (hQ1 wr hIr.out).mono ?_
        rintro e w2 ⟨rfl, hb2⟩
        go_wp2_with fail
        refine (hP w2 (hGr.later hb2)).mono ?_
        rintro e w3 ⟨v, rfl, hv, hb3⟩
        have hI3 := (hIr.out.later hb2).later hb3
        go_wp2_with fail
        refine (hQ2 w3 hI3).mono ?_
        rintro e w4 ⟨rfl, hb4⟩
        have hI4 := hI3.later hb4
        have hv4 := hv.later hb4
        clear hI3 hv
        go_wp2_with fail
        refine (hG1 w4 v hv4).mono ?_
        rintro e w5 ⟨rfl, hb5⟩
        have hI5 := hI4.later hb5
        have hv5 := hv4.later hb5
        clear hI4 hv4
        go_wp2_with fail
        refine (hG2 w5 _ hI5).mono ?_
        rintro e w6 ⟨rfl, rfl⟩
        go_wp2_with fail
        refine (sSame_any v _ l l _ (by omega) hv5 hI5).mono ?_
        rintro e w7 ⟨⟨q, rfl, hq⟩, hb7⟩
        obtain rfl := hq.2 rfl
        clear hI5 hv5 hq
        go_wp2_with fail
        go_ret
        exact ⟨rfl, below2 hBW (below3 hb2 hb3 (below3 hb4 hb5 hb7))⟩

set_option maxHeartbeats 1000000 in
theorem lPairs_none (a : Option Addr) (cap : Nat) (name : ByteArray) (w : World) (hG : MaxLenIs w) (hI : IsPairs w (.slice a 0 cap) []) :
    Calls Tryd.prog 5 #[.slice a 0 cap, .string name] w fun e w' => e = .returned (.bool true) ∧ Below w.heap.size w w' := by
  have HI : Hid (IsPairs w (.slice a 0 cap) []) := hI
  have hQ1 := fun W h => fQuery_any (.slice a 0 cap) [] W (by simp) (fun p hp => by cases hp) h
  have hQ2 := fun W h => sQuery_any (.slice a 0 cap) [] W (by simp) (fun p hp => by cases hp) h
  have hP := fun W h => fParse_any ⟨(queryL []).toArray⟩ W h (by decide)
  have hSd : (⟨(queryL []).toArray⟩ : ByteArray).data.toList = queryL [] := rfl
  rw [hSd, (parse_query []).1, (parse_query []).2, if_neg (by decide), if_neg (by decide), as_back] at hP
  have hS : (⟨(queryL []).toArray⟩ : ByteArray) = ⟨#[]⟩ := rfl
  rw [hS] at hP hQ1 hQ2
  have hG1 := fun W v h => fGet_any v [] name W (by simp) (fun p hp => by cases hp) h
  have hG2 := fun W v h => sGet_any v [] name W (by simp) h
  have hV : getV name [] = ⟨#[]⟩ := rfl
  have hn : getN name [] = 0 := rfl
  rw [hV, hn] at hG1 hG2
  clear hSd hS hV hn hI
  go_enter Tryd.func5, Tryd.ntmps5
  go_wp2_with fail
  refine (awakeE_any w hG).mono ?_
  rintro e w1 ⟨rfl, hb1⟩
  have hI1 := HI.out.later hb1
  have hGr := hG.later hb1
  go_wp2_with fail
  refine wp_loop_once ?_
  go_wp2_with fail
  refine (hQ1 w1 hI1).mono ?_
  rintro e w2 ⟨rfl, hb2⟩
  go_wp2_with fail
  refine (hP w2 (hGr.later hb2)).mono ?_
  rintro e w3 ⟨v, rfl, hv, hb3⟩
  have hI3 := (hI1.later hb2).later hb3
  clear hI1
  go_wp2_with fail
  refine (hQ2 w3 hI3).mono ?_
  rintro e w4 ⟨rfl, hb4⟩
  have hI4 := hI3.later hb4
  have hv4 := hv.later hb4
  clear hI3 hv
  go_wp2_with fail
  refine (hG1 w4 v hv4).mono ?_
  rintro e w5 ⟨rfl, hb5⟩
  have hI5 := hI4.later hb5
  have hv5 := hv4.later hb5
  clear hI4 hv4
  go_wp2_with fail
  refine (hG2 w5 _ hI5).mono ?_
  rintro e w6 ⟨rfl, rfl⟩
  go_wp2_with fail
  refine (sSame_any v _ [] [] _ (by simp) hv5 hI5).mono ?_
  rintro e w7 ⟨⟨q, rfl, hq⟩, hb7⟩
  obtain rfl := hq.2 rfl
  clear hI5 hv5 hq
  go_wp2_with fail
  go_ret
  exact ⟨rfl, below2 hb1 (below3 hb2 hb3 (below3 hb4 hb5 hb7))⟩

set_option maxHeartbeats 400000 in
theorem lPairs_long (a : Option Addr) (n cap : Nat) (name : ByteArray) (w : World) (hG : MaxLenIs w) (hn : n ≤ 9223372036854775807) (h : 100 < n) :
    Calls Tryd.prog 5 #[.slice a n cap, .string name] w fun e w' => e = .returned (.bool true) ∧ Below w.heap.size w w' := by
  go_enter Tryd.func5, Tryd.ntmps5
  go_wp2_with fail
  refine (awakeE_any w hG).mono ?_
  rintro e w1 ⟨rfl, hb1⟩
  go_wp2_with fail
  refine (awakeE_any w1 (hG.later hb1)).mono ?_
  rintro e w2 ⟨rfl, hb2⟩
  go_wp2_with fail
  go_ret
  exact ⟨rfl, below2 hb1 hb2⟩
theorem lPairs_any (v : Value) (l : List (ByteArray × ByteArray)) (name : ByteArray) (w : World) (hG : MaxLenIs w) (hsz : ∀ p ∈ l, p.1.size ≤ 9223372036854775807 ∧ p.2.size ≤ 9223372036854775807) (h : IsPairs w v l) :
    Calls Tryd.prog 5 #[v, .string name] w fun e w' => e = .returned (.bool true) ∧ Below w.heap.size w w' := by
  have h' := h
  obtain ⟨a, cap, rfl, hc, hm, hrest⟩ := h
  by_cases hl : l.length ≤ 100
  · by_cases h0 : l = []
    · subst h0
      exact lPairs_none a cap name w hG h'
    · rcases hrest with ⟨_, h1, _⟩ | ⟨x, rfl, h1 | ⟨b, o, rfl, hb, hf⟩⟩
      · exact absurd h1 h0
      · exact absurd h1 h0
      · exact lPairs_some b o cap l name w hG hl hc hm hb hsz hf
  · exact lPairs_long a l.length cap name w hG (by unfold maxLen at hm; omega) (by omega)
end Go.Proofs.YtnkefpopkaagaaaDoor
