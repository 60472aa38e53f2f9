/- What cutUp answers: pieces that lie one behind the other. -/
import Derived.Test.YtmgpnaehniohgaaPlacesAll
import Derived.Test.YtmgpnaehniohgaaOnto
namespace Go.Proofs.Ytmgpnaehniohgaa
open Go.RowKit Go.Deep

theorem infoE : (Try.prog.info? 22).map (fun i => (i.zero, i.size, i.bytes)) = some (some (.slice none 0 0), 1, 24) := by kernel_rfl
/-- Slices of numbers, each with what it holds. -/
def PartsAt (w : World) (vs : List Value) (ls : List (List Int)) : Prop := vs.length = ls.length ∧ ∀ (i : Nat) (l : List Int), ls[i]? = some l → ∃ a c, vs[i]? = some (Value.slice a l.length c) ∧ IntsAt w a l
theorem ints_rest {w : World} {a : Option Addr} {l : List Int} {r c s : Nat} (h : IntsAt w a l) (hl : l.length = r) (hr : r ≤ c) : IntsAt w (if c = s then a else Option.map (fun x => x.add s) a) (l.drop s) := fun i x hi => by
  rw [List.getElem?_drop] at hi
  obtain ⟨b, off, rfl, hc⟩ := h _ x hi
  have hlt := (List.getElem?_eq_some_iff.1 hi).1
  rw [if_neg (by omega)]
  exact ⟨b, off + s, by simp [Addr.add], by rw [← hc, Nat.add_assoc]⟩
theorem ints_take {w : World} {a : Option Addr} {l : List Int} {s : Nat} (h : IntsAt w a l) : IntsAt w a (l.take s) := fun i x hi => by
  rw [List.getElem?_take] at hi
  split at hi
  · exact h i x hi
  · cases hi
theorem PartsAt.snoc {w : World} {vs : List Value} {ls : List (List Int)} (h : PartsAt w vs ls) (a : Option Addr) (c : Nat) (l : List Int) (n : Nat) (hn : l.length = n) (hl : IntsAt w a l) : PartsAt w (vs ++ [Value.slice a n c]) (ls ++ [l]) := by
  refine ⟨by simp [h.1], fun i x hi => ?_⟩
  by_cases hlt : i < ls.length
  · rw [List.getElem?_append_left hlt] at hi
    obtain ⟨a', c', h1, h2⟩ := h.2 i x hi
    exact ⟨a', c', by rw [List.getElem?_append_left (by rw [h.1]; exact hlt)]; exact h1, h2⟩
  · rw [List.getElem?_append_right (by omega)] at hi
    have hi0 : i - ls.length = 0 := by
      have := (List.getElem?_eq_some_iff.1 hi).1
      simp at this; omega
    rw [hi0] at hi
    simp at hi
    subst hi
    refine ⟨a, c, ?_, hl⟩
    rw [List.getElem?_append_right (by rw [h.1]; omega), h.1, hi0, hn]
    rfl

/-- The pieces of a list, in a row of one's own. -/
def CutIs (w w' : World) (v : Value) (l : List Int) (m : Nat) : Prop := ∃ (vs : List Value) (ls : List (List Int)), w'.ownsRow w.heap.size 22 1 v vs.length vs ∧ PartsAt w vs ls ∧ ls.flatten = l ∧ ls.length ≤ m + 1 ∧ Below w.heap.size w w'
set_option maxRecDepth 100000 in
set_option maxHeartbeats 8000000 in
theorem cutUp_any (w : World) (a b : Option Addr) (ca cb : Nat) (l cs : List Int) (n m : Nat) (hl : l.length = n) (hp : cs.length = m) (hca : n ≤ ca) (hn : n ≤ 1048576) (hm : m ≤ 1048576) (hA : IntsAt w a l) (hB : IntsAt w b cs) :
    Calls Try.prog 8 #[.slice a n ca, .slice b m cb] w fun e w' => ∃ v, e = .returned v ∧ CutIs w w' v l m := by
  obtain ⟨i0, hi0, hz0, hz1, hz3⟩ := info_parts infoE
  have HA : Hid (IntsAt w a l) := hA
  have HB : Hid (IntsAt w b cs) := hB
  have HL : Hid (l.length = n) := hl
  have HP : Hid (cs.length = m) := hp
  clear hA hB hl hp
  go_enter Try.func8, Try.ntmps8
  go_wp2_with fail
  go_loopw [0, 5, 6, 7] (fun e v i _ wx => ∃ (q r k j : Nat) (a' av : Option Addr) (c' cap : Nat) (vs : List Value) (ls : List (List Int)), q + r = n ∧ r ≤ c' ∧ k ≤ j ∧ j ≤ m ∧ e = .slice a' r c' ∧ v = .slice av k cap ∧ i = .int .i64 j ∧ Hid (IntsAt w a' (l.drop q)) ∧ Hid (PartsAt w vs ls) ∧ Hid (ls.flatten = l.take q) ∧ Hid (vs.length = k) ∧ Hid (wx.ownsRow w.heap.size 22 1 (.slice av k cap) k vs) ∧ Hid (Below w.heap.size w wx)) (fun _ _ i _ _ => m - (intOf i).toNat)
  case atStart => exact ⟨0, n, 0, 0, a, none, ca, 0, [], [], by omega, hca, Nat.le_refl _, Nat.zero_le _, rfl, rfl, rfl, HA.out, ⟨rfl, fun i l h => by simp at h⟩, rfl, rfl, World.ownsRow_nil _ _ _ _, Below.refl _ _⟩
  case round =>
    obtain ⟨q, r, k, j, a', av, c', cap, vs, ls, hqr, hrc, hkj, hjm, rfl, rfl, rfl, hin, hparts, hflat, hvs, hown, hb⟩ := hrel
    by_cases hlt : j < m
    · have n1 : (j : Int) < (m : Int) := by omega
      by_cases hr0 : 0 < r
      · have n2 : 0 < (r : Int) := by omega
        obtain ⟨x, hx⟩ : ∃ x, cs[j]? = some x := ⟨cs[j]'(by rw [HP.out]; exact hlt), List.getElem?_eq_getElem _⟩
        obtain ⟨b1, o1, rfl, c1⟩ := (HB.out.under hb.out) j x hx
        have hmod : ∃ s : Nat, s ≤ r ∧ (x.tmod ((r : Int) + 1) = (s : Int) ∨ ∃ z : Int, z < 0 ∧ wrap64 (-z) = (s : Int) ∧ x.tmod ((r : Int) + 1) = z) := by
          have h1 := Int.tmod_lt_of_pos x (show (0 : Int) < (r : Int) + 1 by omega)
          have h2 := Int.lt_tmod_of_pos x (show (0 : Int) < (r : Int) + 1 by omega)
          refine ⟨(x.tmod ((r : Int) + 1)).natAbs, by omega, ?_⟩
          by_cases hneg : x.tmod ((r : Int) + 1) < 0
          · exact .inr ⟨_, hneg, (IntWalk.wrap64_in _ (by omega)).trans (by omega), rfl⟩
          · exact .inl (by omega)
        obtain ⟨s, hsr, hmod⟩ := hmod
        have g1 : ¬ ((s : Int) < 0) := by omega
        have g3 : (s : Int) ≤ (c' : Int) := by omega
        have g4 : (s : Int) ≤ (r : Int) := by omega
        have g5 : (r : Int) ≤ (c' : Int) := by omega
        have g6 : (0 : Int) ≤ (s : Int) := by omega
        have hs2 : w.heap.size ≤ wr.heap.size := hb.out.size
        rcases hmod with hmod | ⟨z, g7, g8, hmod⟩
        · go_wp2_with (at_builtin; refine wpList_append_more (w := wr.alloc (.cells #[.slice a' s c'] 22)) rfl _ _ _ rfl w.heap.size 22 i0 _ 1 24 Try.underlying26 hi0 hz0 hz1 hz3 rfl (by omega) _ k vs (by rfl) (by exact (hown.out.alloc _)) (some ⟨wr.heap.size, 0, none⟩) 1 1 [.slice a' s c'] (by rfl) (by rfl) (fun j' u hu => ⟨_, rfl, World.news_of_block (cs := #[.slice a' s c']) (t := 22) (fr := (0, 0)) (heap_alloc_new wr _) j' u hu⟩) (by simp [Value.oneCell']) (by unfold maxLen; omega) (by omega) (by simp; have := hb.out.size; omega) ?_; intro av2 cap2 w3 hown3 hb3; have Hown3 : Hid (w3.ownsRow w.heap.size 22 1 (.slice av2 (k + 1) cap2) (k + 1) (vs ++ [Value.slice a' s c'])) := hown3; have Hb3 : Hid (Below w.heap.size w w3) := (hb.out.alloc hb.out.size _).trans hb3; clear hown3 hb3)
          go_wp2
          refine ⟨⟨q + s, r - s, k + 1, j + 1, _, _, _, _, vs ++ [Value.slice a' s c'], ls ++ [(l.drop q).take s], by omega, by omega, by omega, by omega, rfl, rfl, by go_num, ?_, hparts.out.snoc a' c' _ s (by rw [List.length_take, List.length_drop, HL.out]; omega) (ints_take (s := s) hin.out), ?_, ?_, Hown3.out, Hb3.out⟩, by simp [intOf]; omega⟩
          · show IntsAt _ _ _
            rw [← List.drop_drop]
            exact ints_rest hin.out (by rw [List.length_drop, HL.out]; omega) hrc
          · show _ = _
            rw [List.flatten_append, hflat.out, List.flatten_singleton, List.take_add]
          · show _ = _
            rw [List.length_append, hvs.out]; rfl
        · go_wp2_with (at_builtin; refine wpList_append_more (w := wr.alloc (.cells #[.slice a' s c'] 22)) rfl _ _ _ rfl w.heap.size 22 i0 _ 1 24 Try.underlying26 hi0 hz0 hz1 hz3 rfl (by omega) _ k vs (by rfl) (by exact (hown.out.alloc _)) (some ⟨wr.heap.size, 0, none⟩) 1 1 [.slice a' s c'] (by rfl) (by rfl) (fun j' u hu => ⟨_, rfl, World.news_of_block (cs := #[.slice a' s c']) (t := 22) (fr := (0, 0)) (heap_alloc_new wr _) j' u hu⟩) (by simp [Value.oneCell']) (by unfold maxLen; omega) (by omega) (by simp; have := hb.out.size; omega) ?_; intro av2 cap2 w3 hown3 hb3; have Hown3 : Hid (w3.ownsRow w.heap.size 22 1 (.slice av2 (k + 1) cap2) (k + 1) (vs ++ [Value.slice a' s c'])) := hown3; have Hb3 : Hid (Below w.heap.size w w3) := (hb.out.alloc hb.out.size _).trans hb3; clear hown3 hb3)
          go_wp2
          refine ⟨⟨q + s, r - s, k + 1, j + 1, _, _, _, _, vs ++ [Value.slice a' s c'], ls ++ [(l.drop q).take s], by omega, by omega, by omega, by omega, rfl, rfl, by go_num, ?_, hparts.out.snoc a' c' _ s (by rw [List.length_take, List.length_drop, HL.out]; omega) (ints_take (s := s) hin.out), ?_, ?_, Hown3.out, Hb3.out⟩, by simp [intOf]; omega⟩
          · show IntsAt _ _ _
            rw [← List.drop_drop]
            exact ints_rest hin.out (by rw [List.length_drop, HL.out]; omega) hrc
          · show _ = _
            rw [List.flatten_append, hflat.out, List.flatten_singleton, List.take_add]
          · show _ = _
            rw [List.length_append, hvs.out]; rfl
      · have n2 : ¬ 0 < (r : Int) := by omega
        have hr1 : r = 0 := by omega
        subst hr1
        obtain rfl : q = n := by omega
        have hs2 : w.heap.size ≤ wr.heap.size := hb.out.size
        go_wp2_with (at_builtin; refine wpList_append_more (w := wr.alloc (.cells #[.slice a' 0 c'] 22)) rfl _ _ _ rfl w.heap.size 22 i0 _ 1 24 Try.underlying26 hi0 hz0 hz1 hz3 rfl (by omega) _ k vs (by rfl) (by exact (hown.out.alloc _)) (some ⟨wr.heap.size, 0, none⟩) 1 1 [.slice a' 0 c'] (by rfl) (by rfl) (fun j' u hu => ⟨_, rfl, World.news_of_block (cs := #[.slice a' 0 c']) (t := 22) (fr := (0, 0)) (heap_alloc_new wr _) j' u hu⟩) (by simp [Value.oneCell']) (by unfold maxLen; omega) (by omega) (by simp; have := hb.out.size; omega) ?_; intro av2 cap2 w3 hown3 hb3; have Hown3 : Hid (w3.ownsRow w.heap.size 22 1 (.slice av2 (k + 1) cap2) (k + 1) (vs ++ [Value.slice a' 0 c'])) := hown3; have Hb3 : Hid (Below w.heap.size w w3) := (hb.out.alloc hb.out.size _).trans hb3; clear hown3 hb3)
        go_wp2
        go_ret
        refine ⟨_, rfl, vs ++ [Value.slice a' 0 c'], ls ++ [l.drop q], ?_, hparts.out.snoc a' c' _ 0 (by rw [List.length_drop, HL.out]; omega) hin.out, ?_, ?_, Hb3.out⟩
        · rw [List.length_append, hvs.out]; exact Hown3.out
        · rw [List.flatten_append, hflat.out, List.flatten_singleton, List.take_append_drop]
        · rw [List.length_append, ← hparts.out.1, hvs.out]; simp; omega
    · have n1 : ¬ (j : Int) < (m : Int) := by omega
      have hs2 : w.heap.size ≤ wr.heap.size := hb.out.size
      go_wp2_with (at_builtin; refine wpList_append_more (w := wr.alloc (.cells #[.slice a' r c'] 22)) rfl _ _ _ rfl w.heap.size 22 i0 _ 1 24 Try.underlying26 hi0 hz0 hz1 hz3 rfl (by omega) _ k vs (by rfl) (by exact (hown.out.alloc _)) (some ⟨wr.heap.size, 0, none⟩) 1 1 [.slice a' r c'] (by rfl) (by rfl) (fun j' u hu => ⟨_, rfl, World.news_of_block (cs := #[.slice a' r c']) (t := 22) (fr := (0, 0)) (heap_alloc_new wr _) j' u hu⟩) (by simp [Value.oneCell']) (by unfold maxLen; omega) (by omega) (by simp; have := hb.out.size; omega) ?_; intro av2 cap2 w3 hown3 hb3; have Hown3 : Hid (w3.ownsRow w.heap.size 22 1 (.slice av2 (k + 1) cap2) (k + 1) (vs ++ [Value.slice a' r c'])) := hown3; have Hb3 : Hid (Below w.heap.size w w3) := (hb.out.alloc hb.out.size _).trans hb3; clear hown3 hb3)
      go_wp2
      go_ret
      refine ⟨_, rfl, vs ++ [Value.slice a' r c'], ls ++ [l.drop q], ?_, hparts.out.snoc a' c' _ r (by rw [List.length_drop, HL.out]; omega) hin.out, ?_, ?_, Hb3.out⟩
      · rw [List.length_append, hvs.out]; exact Hown3.out
      · rw [List.flatten_append, hflat.out, List.flatten_singleton, List.take_append_drop]
      · rw [List.length_append, ← hparts.out.1, hvs.out]; simp; omega
end Go.Proofs.Ytmgpnaehniohgaa
