/- The laws' own looks at strings and at lists of strings. -/
import Derived.Test.YtdnkgjjboonmnaaDoorSymRows
import Derived.Outline
import Derived.Deep.Light
namespace Go.Proofs.YtdnkgjjboonmnaaDoor
open Go.RowKit

theorem made_all (s : ByteArray) : madeB s 4 = (s.data.toList.all (fun b => decide (4 ≤ kindF b.toNat)) && (decide (1 ≤ s.size) && decide (s.size ≤ 32))) := by
  unfold madeB; rw [Bool.and_comm]
set_option maxRecDepth 100000 in
set_option maxHeartbeats 4000000 in
theorem good_any (s : ByteArray) (w : World) (hs : s.size ≤ maxLen) :
    Calls Tryd.prog 27 #[.string s] w fun e w' => e = .returned (.bool (madeB s 4)) ∧ w' = w := by
  unfold maxLen at hs
  have hm : Hid (madeB s 4 = (s.data.toList.all (fun b => decide (4 ≤ kindF b.toNat)) && (decide (1 ≤ s.size) && decide (s.size ≤ 32)))) := made_all s
  go_enter Tryd.func27, Tryd.ntmps27
  go_wp2
  go_loop [3] (fun i => ∃ n : Nat, n ≤ s.size ∧ i = .int .i64 n ∧ Hid ((s.data.toList.take n).all (fun b => decide (4 ≤ kindF b.toNat)) = true)) (fun i => s.size - (intOf i).toNat)
  case atStart => exact ⟨0, Nat.zero_le _, rfl, rfl⟩
  case round =>
    obtain ⟨n, hn, rfl, ha⟩ := hrel
    by_cases hlt : n < s.size
    · go_wp2
      all_goals first
        | (go_round
           case rel => exact ⟨n + 1, by omega, by go_num, all_step hlt ha.out (by
             go_light
             rw [decide_eq_true_iff, kind4 _ (Int.natCast_nonneg _)]
             simp only [Bool.not_eq_false', bne_eq_false_iff_eq, decide_eq_true_eq] at *
             omega)⟩
           case measure => simp [intOf]; omega)
        | (go_ret
           exact ⟨ret_bool (by
             rw [hm.out, all_miss (p := fun b => decide (4 ≤ kindF b.toNat)) hlt (by
               go_light
               rw [decide_eq_false_iff_not, kind4 _ (Int.natCast_nonneg _)]
               simp only [Bool.not_eq_true', bne_iff_ne, ne_eq, decide_eq_false_iff_not] at *
               omega)]; rfl), rfl⟩)
    · by_cases h1 : 1 ≤ s.size
      · go_wp2
        go_ret
        refine ⟨ret_bool ?_, rfl⟩
        rw [hm.out, all_done (by omega) ha.out, decide_eq_true h1]
        simp
        omega
      · go_wp2
        go_ret
        refine ⟨ret_bool ?_, rfl⟩
        rw [hm.out, all_done (by omega) ha.out, decide_eq_false h1]
        simp

theorem same_bytes (a b : ByteArray) : (a.toList == b.toList) = decide (a = b) := by
  rw [Lib.toList_data, Lib.toList_data]
  by_cases h : a = b
  · subst h; simp
  · rw [decide_eq_false h]
    rw [beq_eq_false_iff_ne]
    intro e
    apply h
    obtain ⟨⟨a⟩⟩ := a
    obtain ⟨⟨b⟩⟩ := b
    have : a = b := e
    rw [this]
theorem labOf_none {l : List ByteArray} {s : ByteArray} (h : ∀ t ∈ l, t ≠ s) : (labOf l s).isSome = false := by
  unfold labOf
  rw [Option.isSome_eq_false_iff, Option.isNone_iff_eq_none, List.findIdx?_eq_none_iff]
  intro t ht
  simpa using h t ht
theorem labOf_some {l : List ByteArray} {s : ByteArray} (h : s ∈ l) : (labOf l s).isSome = true := by
  by_cases h2 : (labOf l s).isSome = true
  · exact h2
  · exfalso
    have h3 : labOf l s = none := by simpa using h2
    unfold labOf at h3
    rw [List.findIdx?_eq_none_iff] at h3
    have := h3 s h
    simp at this

set_option maxRecDepth 100000 in
set_option maxHeartbeats 2000000 in
theorem has_any (w : World) (v : Value) (l : List ByteArray) (s : ByteArray) (hl : l.length ≤ 4611686018427387904) (h : w.ownsRow 0 9 1 v l.length (l.map Value.string)) :
    Calls Tryd.prog 28 #[v, .string s] w fun e w' => e = .returned (.bool (labOf l s).isSome) ∧ w' = w := by
  obtain ⟨a, cap, hv⟩ := own_slice h
  obtain ⟨n, hn⟩ : ∃ n, n = l.length := ⟨_, rfl⟩
  have Hn : Hid (n = l.length) := hn
  have Hrow : Hid (w.ownsRow 0 9 1 v n (l.map Value.string)) := by rw [hn]; exact h
  rw [← hn] at hv hl
  have Hv : Hid (v = .slice a n cap) := hv
  subst hv
  clear h hn
  go_enter Tryd.func28, Tryd.ntmps28
  go_wp2
  go_loop [5] (fun i => ∃ j : Nat, j ≤ n ∧ i = .int .i64 j ∧ Hid (∀ t ∈ l.take j, t ≠ s)) (fun i => n - (intOf i).toNat)
  case atStart => exact ⟨0, Nat.zero_le _, rfl, fun t ht => by simp at ht⟩
  case round =>
    obtain ⟨j, hj, rfl, ha⟩ := hrel
    by_cases hlt : j < n
    · have hlt' : j < l.length := by rw [← Hn.out]; exact hlt
      have n1 : (j : Int) < (n : Int) := by omega
      obtain ⟨g, cap', hv⟩ := own_form Hrow.out (by omega)
      cases hv
      have cj := own_cell Hrow.out j (.string l[j]) (by rw [List.getElem?_map, List.getElem?_eq_getElem hlt']; rfl)
      obtain ⟨x, hx⟩ : ∃ x, x = l[j] := ⟨_, rfl⟩
      rw [← hx] at cj
      have Hx : Hid (x = l[j]) := hx
      clear hx
      by_cases he : x = s
      · have hb : (x.toList == s.toList) = true := by rw [same_bytes, decide_eq_true he]
        have hs : Hid (s ∈ l) := by show s ∈ l; rw [← he, Hx.out]; exact List.getElem_mem _
        clear he
        go_wp2
        go_ret
        exact ⟨ret_bool (labOf_some hs.out).symm, rfl⟩
      · have hb : (x.toList == s.toList) = false := by rw [same_bytes, decide_eq_false he]
        have he' : Hid (x ≠ s) := he
        clear he
        go_wp2
        go_round
        case rel =>
          refine ⟨j + 1, by omega, by go_num, fun t ht => ?_⟩
          rw [List.take_add_one, List.getElem?_eq_getElem hlt'] at ht
          simp only [Option.toList_some, List.mem_append, List.mem_cons, List.not_mem_nil, or_false] at ht
          rcases ht with ht | ht
          · exact ha.out t ht
          · rw [ht, ← Hx.out]; exact he'.out
        case measure => simp [intOf]; omega
    · have n1 : ¬ (j : Int) < (n : Int) := by omega
      go_wp2
      go_ret
      exact ⟨ret_bool (labOf_none (by
        have := ha.out
        rwa [List.take_of_length_le (by rw [← Hn.out]; omega)] at this)).symm, rfl⟩

set_option maxRecDepth 100000 in
set_option maxHeartbeats 2000000 in
theorem same_eq (w : World) (v u : Value) (l : List ByteArray) (hl : l.length ≤ 4611686018427387904) (h : w.ownsRow 0 9 1 v l.length (l.map Value.string)) (h2 : w.ownsRow 0 9 1 u l.length (l.map Value.string)) :
    Calls Tryd.prog 26 #[v, u] w fun e w' => e = .returned (.bool true) ∧ ∃ n, w' = w.drewN n := by
  obtain ⟨a, cap, hv⟩ := own_slice h
  obtain ⟨a2, cap2, hv2⟩ := own_slice h2
  obtain ⟨n, hn⟩ : ∃ n, n = l.length := ⟨_, rfl⟩
  have Hn : Hid (n = l.length) := hn
  have Hrow : Hid (w.ownsRow 0 9 1 v n (l.map Value.string)) := by rw [hn]; exact h
  have Hrow2 : Hid (w.ownsRow 0 9 1 u n (l.map Value.string)) := by rw [hn]; exact h2
  rw [← hn] at hv hv2 hl
  subst hv hv2
  clear h h2 hn
  go_enter Tryd.func26, Tryd.ntmps26
  go_wp2
  go_loopw [5] (fun i wx => ∃ j m : Nat, j ≤ n ∧ i = .int .i64 j ∧ wx = w.drewN m) (fun i _ => n - (intOf i).toNat)
  case atStart => exact ⟨0, 0, Nat.zero_le _, rfl, rfl⟩
  case round =>
    obtain ⟨j, m, hj, rfl, rfl⟩ := hrel
    by_cases hlt : j < n
    · have hlt' : j < l.length := by rw [← Hn.out]; exact hlt
      have n1 : (j : Int) < (n : Int) := by omega
      obtain ⟨g, cap', hv⟩ := own_form Hrow.out (by omega)
      cases hv
      obtain ⟨g2, cap2', hv⟩ := own_form Hrow2.out (by omega)
      cases hv
      have cj := own_cell Hrow.out j (.string l[j]) (by rw [List.getElem?_map, List.getElem?_eq_getElem hlt']; rfl)
      have cj2 := own_cell Hrow2.out j (.string l[j]) (by rw [List.getElem?_map, List.getElem?_eq_getElem hlt']; rfl)
      generalize l[j] = x at cj cj2
      go_wp2_with fail
      go_quiet (fail)
      go_wp2
      go_roundw
      case rel => exact ⟨j + 1, _, by omega, by go_num, rfl⟩
      case measure => simp [intOf]; omega
    · have n1 : ¬ (j : Int) < (n : Int) := by omega
      go_wp2
      go_ret
      exact ⟨rfl, _, rfl⟩
end Go.Proofs.YtdnkgjjboonmnaaDoor
