/-
  The statements of layer 3: queries and pairs.
-/
import Derived.Test.YtnkefpopkaagaaaDoorELaw
namespace Go.Proofs.YtnkefpopkaagaaaDoor
open Go.RowKit Ch
set_option maxRecDepth 100000

theorem pairsOf_mem : ∀ (ts : List (List UInt8)) (q : List (List UInt8 × List UInt8)), pairsOf ts = some q → q.length = ts.length ∧ ∀ p ∈ q, ∃ t ∈ ts, pairOf t = some p
  | [], q, h => by
    rw [pairsOf] at h
    obtain rfl := Option.some.inj h
    exact ⟨rfl, fun p hp => by cases hp⟩
  | t :: r, q, h => by
    cases h1 : pairOf t with
    | none => rw [pairsOf_bad t r h1] at h; cases h
    | some p =>
      rw [pairsOf_cons t r (a := p.1) (b := p.2) h1] at h
      obtain ⟨u, hu, rfl⟩ := Option.map_eq_some_iff.1 h
      obtain ⟨h2, h3⟩ := pairsOf_mem r u hu
      refine ⟨by simp [h2], fun x hx => ?_⟩
      rcases List.mem_cons.1 hx with rfl | hx
      · exact ⟨t, by simp, h1⟩
      · obtain ⟨y, hy, hxy⟩ := h3 x hx
        exact ⟨y, by simp [hy], hxy⟩
theorem parseP_le (l : List UInt8) : ((parseP l).map asBA).length ≤ 64 ∧ ∀ p ∈ (parseP l).map asBA, p.1.size ≤ l.length ∧ p.2.size ≤ l.length := by
  unfold parseP
  by_cases h64 : 64 < (ampL l).length
  · rw [if_pos h64]
    exact ⟨by simp, fun p hp => by simp at hp⟩
  · rw [if_neg h64]
    cases h : pairsOf (ampL l) with
    | none => exact ⟨by simp, fun p hp => by simp at hp⟩
    | some q =>
      obtain ⟨h1, h2⟩ := pairsOf_mem _ _ h
      refine ⟨by rw [List.length_map]; show q.length ≤ 64; omega, fun p hp => ?_⟩
      obtain ⟨x, hx, rfl⟩ := List.mem_map.1 hp
      obtain ⟨t, ht, hxt⟩ := h2 x hx
      have h3 := pairOf_le (a := x.1) (b := x.2) hxt
      have h4 := amp_mem l [] t ht
      simp only [List.length_nil, Nat.zero_add] at h4
      show (⟨x.1.toArray⟩ : ByteArray).size ≤ _ ∧ (⟨x.2.toArray⟩ : ByteArray).size ≤ _
      rw [size_of_list, size_of_list]
      omega

set_option maxHeartbeats 1000000 in
theorem lQueries_any (s name : ByteArray) (w : World) (hG : MaxLenIs w) (hs : s.size ≤ 9223372036854775807) :
    Calls Tryd.prog 4 #[.string s, .string name] w fun e w' => e = .returned (.bool true) ∧ Below w.heap.size w w' := by
  by_cases h : s.size ≤ 2000
  · have hP := fun W h => fParse_any s W h (by omega)
    have hR := fun W => sParse_any s W (by omega)
    obtain ⟨hl1, hl2⟩ := parseP_le s.data.toList
    rw [len_eq] at hl2
    obtain ⟨l, hl⟩ : ∃ l, (parseP s.data.toList).map asBA = l := ⟨_, rfl⟩
    obtain ⟨E, hE⟩ : ∃ E, parseE s.data.toList = E := ⟨_, rfl⟩
    rw [hl, hE] at hP hR
    rw [hl] at hl1 hl2
    have hG1 := fun W v h => fGet_any v l name W (by omega) (fun p hp => by have := (hl2 p hp).2; omega) h
    have hG2 := fun W v h => sGet_any v l name W (by omega) h
    obtain ⟨V, hV⟩ : ∃ V, getV name l = V := ⟨_, rfl⟩
    obtain ⟨n, hn⟩ : ∃ n, getN name l = n := ⟨_, rfl⟩
    rw [hV, hn] at hG1 hG2
    have tv := text_eq V
    have te : (E == E) = true := by simp
    have tn : ((n : Int) == (n : Int)) = true := by simp
    clear hl hE hV hn hl2
    go_enter Tryd.func4, Tryd.ntmps4
    go_wp2_with fail
    refine (awakeE_any w hG).mono ?_
    rintro e w1 ⟨rfl, hb1⟩
    go_wp2_with fail
    refine (hP w1 (hG.later hb1)).mono ?_
    rintro e w2 ⟨v, rfl, hv, hb2⟩
    go_wp2_with fail
    refine (hR w2).mono ?_
    rintro e w3 ⟨u, rfl, hu, hb3⟩
    have hv3 := hv.later hb3
    clear hv
    go_wp2_with fail
    refine (hG1 w3 v hv3).mono ?_
    rintro e w4 ⟨rfl, hb4⟩
    have hv4 := hv3.later hb4
    have hu4 := hu.later hb4
    clear hv3 hu
    go_wp2_with fail
    refine (hG2 w4 u hu4).mono ?_
    rintro e w5 ⟨rfl, rfl⟩
    go_wp2_with fail
    refine (sSame_any v u l l _ (by omega) hv4 hu4).mono ?_
    rintro e w6 ⟨⟨q, rfl, hq⟩, hb6⟩
    obtain rfl := hq.2 rfl
    clear hv4 hu4 hq
    go_wp2_with fail
    go_ret
    exact ⟨rfl, below3 hb1 hb2 (below3 hb3 hb4 hb6)⟩
  · go_enter Tryd.func4, Tryd.ntmps4
    go_wp2_with fail
    refine (awakeE_any w hG).mono ?_
    rintro e w1 ⟨rfl, hb1⟩
    go_wp2_with fail
    refine (awakeE_any w1 (hG.later hb1)).mono ?_
    rintro e w2 ⟨rfl, hb2⟩
    go_wp2_with fail
    go_ret
    exact ⟨rfl, below2 hb1 hb2⟩
end Go.Proofs.YtnkefpopkaagaaaDoor
