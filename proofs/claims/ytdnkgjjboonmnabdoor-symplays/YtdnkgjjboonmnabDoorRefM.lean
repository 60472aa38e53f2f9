/- The document's own table: Label, Labels; the laws' same. -/
import Derived.Test.YtdnkgjjboonmnabDoorRefL
namespace Go.Proofs.YtdnkgjjboonmnabDoor.R
open Go.RowKit
open Go.Proofs.YtdnkgjjboonmnabDoor.E

abbrev LabRow (w : World) (vt : Value) (L : List ByteArray) : Prop := w.ownsRow 0 9 1 vt L.length (L.map Value.string)
theorem row_words {w : World} {a : Option Addr} {ws : List ByteArray} (h : RowAt w a (ws.map Value.string)) : WordsAt w a ws := fun i s hi => h i (.string s) (by rw [List.getElem?_map, hi]; rfl)
theorem one_strings (l : List ByteArray) : ∀ u ∈ l.map Value.string, u.oneCell' = true := fun u hu => by
  obtain ⟨t, _, rfl⟩ := List.mem_map.1 hu
  rfl
set_option maxRecDepth 100000 in
set_option maxHeartbeats 4000000 in
theorem rlabels_any (w : World) (B : Nat) (S : List (ByteArray × Bool)) (A : List Int) (vs va vt : Value) (L : List ByteArray) (hL : L.length ≤ 1024) (h : RT w B S A vs va vt) (hl : LabRow w vt L) :
    Calls Tryd.prog 13 #[.pointer (some ⟨B, 0, none⟩)] w fun e w' => ∃ a c, e = .returned (.slice a L.length c) ∧ WordsAt w' a L ∧ Below w.heap.size w w' := by
  obtain ⟨i9, hi9, hy0, hy1, hy3⟩ := info_parts infoStr
  obtain ⟨_, _, c2⟩ := cells3 h.block
  obtain ⟨a, cap, rfl, hr⟩ := own_row hl
  have HR : Hid (RowAt w a (L.map Value.string)) := hr
  obtain ⟨n, hn⟩ : ∃ n, L.length = n := ⟨_, rfl⟩
  have HN : Hid (L.length = n) := hn
  rw [hn] at c2 hL ⊢
  clear h hl hr hn
  go_enter Tryd.func13, Tryd.ntmps13
  go_wp2_with (at_builtin; refine wpList_append_more (w := w) rfl _ _ _ rfl w.heap.size 9 i9 _ 1 16 Tryd.underlying32 hi9 hy0 hy1 hy3 rfl (by omega) _ 0 [] (by rfl) (by exact World.ownsRow_nil _ _ _ _) a n cap (L.map Value.string) (by rfl) (by rw [List.length_map, HN.out, Nat.mul_one]) (by exact HR.out.news) (one_strings L) (by unfold maxLen; omega) (by omega) (Nat.le_refl _) ?_; intro a2 c2 w2 ho hb; rw [Nat.zero_add, List.nil_append] at ho; have HO : Hid (w2.ownsRow w.heap.size 9 1 (.slice a2 n c2) n (L.map Value.string)) := ho; have HB : Hid (Below w.heap.size w w2) := hb; clear ho hb)
  go_ret
  obtain ⟨_, _, e2, hr2⟩ := own_row HO.out
  cases e2
  exact ⟨_, _, rfl, row_words hr2, HB.out⟩

set_option maxRecDepth 100000 in
set_option maxHeartbeats 1000000 in
theorem same_words (w : World) (a b : Option Addr) (ca cb : Nat) (l : List ByteArray) (n : Nat) (ha : l.length = n) (_hn : n ≤ 4611686018427387904) (hA : WordsAt w a l) (hB : WordsAt w b l) :
    Calls Tryd.prog 11 #[.slice a n ca, .slice b n cb] w fun e w' => e = .returned (.bool true) ∧ ∃ k, w' = w.drewN k := by
  have HA : Hid (WordsAt w a l) := hA
  have HB : Hid (WordsAt w b l) := hB
  have HL : Hid (l.length = n) := ha
  clear hA hB ha
  go_enter Tryd.func11, Tryd.ntmps11
  go_wp2_with fail
  go_loopw [5] (fun i wx => ∃ j k : Nat, j ≤ n ∧ i = .int .i64 j ∧ wx = w.drewN k) (fun i _ => n - (intOf i).toNat)
  case atStart => exact ⟨0, 0, Nat.zero_le _, rfl, rfl⟩
  case round =>
    obtain ⟨j, k, hj, rfl, rfl⟩ := hrel
    by_cases hlt : j < n
    · have n1 : (j : Int) < (n : Int) := by omega
      obtain ⟨x, hx⟩ : ∃ x, l[j]? = some x := ⟨l[j]'(by rw [HL.out]; exact hlt), List.getElem?_eq_getElem _⟩
      obtain ⟨b1, o1, rfl, c1⟩ := HA.out j x hx
      obtain ⟨b2, o2, rfl, c2⟩ := HB.out j x hx
      have hst : (x.toList != x.toList) = false := by simp
      clear hx
      go_wp2_with fail
      go_quiet (fail)
      go_wp2
      go_roundw
      case rel => exact ⟨j + 1, _, by omega, by go_num, rfl⟩
      case measure => simp [intOf]; omega
    · have n1 : ¬ (j : Int) < (n : Int) := by omega
      go_wp2
      go_ret
      exact ⟨rfl, k, rfl⟩

/-- What the document's Label answers, and its labels behind it. -/
def labF (L : List ByteArray) (s : ByteArray) : Nat × List ByteArray := if madeB s 4 = false then (21, L) else if (labOf L s).isSome then (20, L) else if 1024 ≤ L.length then (22, L) else (0, L ++ [s])
theorem labOf_none {L : List ByteArray} {s : ByteArray} (h : ∀ t ∈ L, t ≠ s) : labOf L s = none := by
  unfold labOf
  rw [List.findIdx?_eq_none_iff]
  intro t ht
  simpa using h t ht
theorem labOf_some {L : List ByteArray} {s : ByteArray} (h : s ∈ L) : (labOf L s).isSome = true := by
  unfold labOf
  rw [List.findIdx?_isSome]
  simpa using h
def LabIs (w w' : World) (B : Nat) (S : List (ByteArray × Bool)) (A : List Int) (vs va vt : Value) (L' : List ByteArray) : Prop :=
  ∃ V, RT w' B S A vs va V ∧ LabRow w' V L' ∧ (∀ g, V.ownBlock = some g → vt.ownBlock = some g ∨ w.heap.size ≤ g) ∧ Turned (rblocks B vt) w w'
theorem LabIs.same {w : World} {B : Nat} {S : List (ByteArray × Bool)} {A : List Int} {vs va vt : Value} {L : List ByteArray} (h : RT w B S A vs va vt) (hl : LabRow w vt L) : LabIs w w B S A vs va vt L := ⟨vt, h, hl, fun _ e => .inl e, Turned.refl _ _⟩

set_option maxRecDepth 100000 in
set_option maxHeartbeats 4000000 in
theorem rlabel_any (w : World) (B : Nat) (S : List (ByteArray × Bool)) (A : List Int) (vs va vt : Value) (L : List ByteArray) (s : ByteArray) (hs : s.size ≤ maxLen) (hL : L.length ≤ 1024) (h : RT w B S A vs va vt) (hl : LabRow w vt L) :
    Calls Tryd.prog 31 #[.pointer (some ⟨B, 0, none⟩), .string s] w fun e w' => e = .returned (.int .i64 ((labF L s).1 : Nat)) ∧ LabIs w w' B S A vs va vt (labF L s).2 := by
  have NM := rlabelName_any s w hs
  have H : Hid (RT w B S A vs va vt) := h
  have HR : Hid (LabRow w vt L) := hl
  unfold labF
  by_cases hm : madeB s 4 = false
  · rw [if_pos hm]
    rw [hm] at NM
    replace NM := show Hid _ from NM
    clear h hl hm
    go_enter Tryd.func31, Tryd.ntmps31
    go_wp2_with fail
    refine Calls.mono NM.out ?_
    rintro e w' ⟨rfl, hw⟩
    subst w'
    clear NM
    go_wp2
    go_ret
    exact ⟨rfl, LabIs.same H.out HR.out⟩
  · rw [if_neg hm]
    rw [show madeB s 4 = true by simpa using hm] at NM
    replace NM := show Hid _ from NM
    obtain ⟨i9, hi9, hy0, hy1, hy3⟩ := info_parts infoStr
    obtain ⟨_, _, c2⟩ := cells3 h.block
    have hBw : B < w.heap.size := (Array.getElem?_eq_some_iff.1 h.block).1
    obtain ⟨a, cap, rfl⟩ := own_slice hl
    have hBc : (Value.slice a L.length cap).ownBlock ≠ some B := fun e => by
      obtain ⟨cur, hc⟩ := own_type hl e
      rw [h.block] at hc
      cases hc
    have HBc : Hid ((Value.slice a L.length cap).ownBlock ≠ some B) := hBc
    obtain ⟨n, hn⟩ : ∃ n, L.length = n := ⟨_, rfl⟩
    have HN : Hid (L.length = n) := hn
    have HRn : Hid (w.ownsRow 0 9 1 (.slice a n cap) n (L.map Value.string)) := by
      have := HR.out
      rw [LabRow, hn] at this
      exact this
    rw [hn] at c2 hL HBc H
    obtain ⟨r, hr⟩ : ∃ r, (if (labOf L s).isSome = true then (20, L) else if 1024 ≤ L.length then (22, L) else (0, L ++ [s])) = r := ⟨_, rfl⟩
    have HF : Hid ((if (labOf L s).isSome = true then ((20 : Nat), L) else if 1024 ≤ L.length then (22, L) else (0, L ++ [s])) = r) := hr
    rw [hr]
    have HR2 : Hid (LabRow w (.slice a n cap) L) := by rw [← hn]; exact HR.out
    rw [hn]
    clear h hl hm hBc hn hr HR
    go_enter Tryd.func31, Tryd.ntmps31
    go_wp2_with fail
    refine Calls.mono NM.out ?_
    rintro e w' ⟨rfl, hw⟩
    subst w'
    clear NM
    go_wp2_with fail
    go_loop [5] (fun i => ∃ j : Nat, j ≤ n ∧ i = .int .i64 j ∧ Hid (∀ t ∈ L.take j, t ≠ s)) (fun i => n - (intOf i).toNat)
    case atStart => exact ⟨0, Nat.zero_le _, rfl, fun t ht => by simp at ht⟩
    case round =>
      obtain ⟨j, hj, rfl, HA⟩ := hrel
      by_cases hlt : j < n
      · have n1 : (j : Int) < (n : Int) := by omega
        obtain ⟨t, ht⟩ : ∃ t, L[j]? = some t := ⟨L[j]'(by rw [HN.out]; exact hlt), List.getElem?_eq_getElem _⟩
        obtain ⟨g, cap', eg⟩ := own_form HRn.out (by omega)
        cases eg
        have c3 := own_cell HRn.out j (.string t) (by rw [List.getElem?_map, ht]; rfl)
        by_cases hts : t = s
        · have HE : Hid (r = (20, L)) := by
            rw [← HF.out, if_pos (labOf_some (by rw [← hts]; exact List.mem_of_getElem? ht))]
            rfl
          subst hts
          have q : (t.toList == t.toList) = true := by simp
          clear ht HF
          go_wp2
          go_ret
          rw [HE.out]
          exact ⟨rfl, LabIs.same H.out HR2.out⟩
        · have q : (t.toList == s.toList) = false := by rw [same_bytes, decide_eq_false hts]
          have HA2 : Hid (∀ u ∈ L.take (j + 1), u ≠ s) := fun u hu => by
            rw [List.take_add_one, ht] at hu
            rcases List.mem_append.1 hu with h1 | h1
            · exact HA.out u h1
            · simp at h1; rw [h1]; exact hts
          clear hts ht HA
          go_wp2
          go_round
          case rel => exact ⟨j + 1, by omega, by go_num, HA2.out⟩
          case measure => simp [intOf]; omega
      · have n1 : ¬ (j : Int) < (n : Int) := by omega
        have hno : labOf L s = none := labOf_none fun t ht => HA.out t (by rw [List.take_of_length_le (by rw [HN.out]; omega)]; exact ht)
        have hF := HF.out
        rw [hno, if_neg (by simp)] at hF
        clear HA hno HF
        by_cases hf : 1024 ≤ L.length
        · rw [if_pos hf, HN.out] at *
          have HE : Hid (r = (22, L)) := hF.symm
          have n2 : (1024 : Int) ≤ (n : Int) := by omega
          clear hF
          go_wp2
          go_ret
          rw [HE.out]
          exact ⟨rfl, LabIs.same H.out HR2.out⟩
        · have HE : Hid (r = (0, L ++ [s])) := by rw [if_neg hf] at hF; exact hF.symm
          have n2 : ¬ (1024 : Int) ≤ (n : Int) := by rw [HN.out] at hf; omega
          clear hF hf
          go_wp2_with (at_builtin; refine wpList_append_lies _ rfl _ _ _ rfl 0 9 i9 _ 1 16 Tryd.underlying32 hi9 hy0 hy1 hy3 rfl (by omega) _ n (L.map Value.string) (by rfl) (by exact (HRn.out.alloc _)) ⟨w.heap.size, 0, none⟩ 1 1 [.string s] (by rfl) (by rfl) (World.news_of_block (cs := #[.string s]) (t := 9) (fr := (0, 0)) (heap_alloc_new w _)) (by simp [Value.oneCell']) (by omega) (by unfold maxLen; omega) (by omega) (by simp) (w.heap.size + 1) (by simp) ?_; intro g2 cap2 w2 hown2 hgrow hat hlt2; have hB2 : w2.heap[B]? = w.heap[B]? := (hgrow.block B (by simp; omega) (fun e => HBc.out e.symm)).trans (Below.heap_alloc w _ B hBw); have z3 : w2.frozen? ⟨B, 2, none⟩ = false := (World.frozen?_of_block (a := ⟨B, 2, none⟩) hB2).trans (by simp [World.frozen?, H.out.block]); have d3 : w2.cell? ⟨B, 2, none⟩ = some (.slice a n cap) := (World.cell?_of_block (a := ⟨B, 2, none⟩) hB2).trans c2)
          go_ret
          have hT := H.out
          replace hat : (Value.slice a n cap).ownBlock = some g2 ∨ g2 = w.heap.size + 1 := hat
          obtain ⟨V, hV⟩ : ∃ V, V = Value.slice (some ⟨g2, 0, none⟩) (n + 1) cap2 := ⟨_, rfl⟩
          have hVo : V.ownBlock = some g2 := by rw [hV]; rfl
          rw [← hV] at hown2 ⊢
          have hsz : w.heap.size + 1 ≤ w2.heap.size := by have := hgrow.size; simpa using this
          have keep : ∀ i, i < w.heap.size → i ≠ B → (Value.slice a n cap).ownBlock ≠ some i → (w2.setCell ⟨B, 2, none⟩ V).heap[i]? = w.heap[i]? := fun i hi hB hc =>
            (Below.heap_setCell _ _ _ i hB).trans ((hgrow.block i (by simp; omega) (fun e => hc e.symm)).trans (Below.heap_alloc w _ i hi))
          have hg2B : g2 ≠ B := by
            rcases hat with e | e
            · intro e'; exact HBc.out (e'.symm ▸ e)
            · omega
          have far : ∀ {e size m : Nat} {v : Value} {xs : List Value}, w.ownsRow 0 e size v m xs → e ≠ 9 → e ≠ 45 → ∀ g, v.ownBlock = some g → (w2.setCell ⟨B, 2, none⟩ V).heap[g]? = w.heap[g]? := fun ho h9 h45 g hg => by
            obtain ⟨cur, hc⟩ := own_type ho hg
            refine keep g (own_low ho g hg) ?_ ?_
            · rintro rfl
              rw [hT.block] at hc
              simp at hc
              exact h45 hc.2.symm
            · intro e
              obtain ⟨cur', hc'⟩ := own_type HRn.out e
              rw [hc] at hc'
              simp at hc'
              exact h9 hc'.2
          rw [HE.out]
          refine ⟨rfl, V, ⟨?_, ?_, ?_⟩, ?_, ?_, ?_⟩
          · rw [heap_set_same (hB2.trans hT.block)]; rfl
          · exact owns_same hT.syms (far hT.syms (by decide) (by decide))
          · exact owns_same hT.acts (far hT.acts (by decide) (by decide))
          · show World.ownsRow _ _ _ _ _ _ _
            have e : (L ++ [s]).length = n + 1 := by simp [HN.out]
            rw [e, List.map_append]
            exact owns_same hown2 fun g hg => Below.heap_setCell _ _ _ g (by rw [hVo] at hg; cases hg; exact hg2B)
          · intro g hg
            rw [hVo] at hg
            cases hg
            rcases hat with e | e
            · exact .inl e
            · exact .inr (by omega)
          · refine ⟨?_, ?_, ?_, ?_, fun i hi hm => keep i hi (fun e => hm (by simp [rblocks, e])) (fun e => hm (by simp [rblocks, e]))⟩
            · exact hgrow.os
            · exact hgrow.tape
            · exact hgrow.output
            · show _ ≤ (w2.setCell _ _).heap.size
              rw [show (w2.setCell ⟨B, 2, none⟩ V).heap.size = w2.heap.size by simp [World.setCell]]
              omega
end Go.Proofs.YtdnkgjjboonmnabDoor.R
