/- The law's lists of texts with room behind them: texts, whole. -/
import Derived.Test.YtffchjigpppoaaaDoorRPacked
import Derived.BigQuiet
namespace Go.Proofs.YtffchjigpppoaaaDoor
open Go.RowKit

def roomB : ByteArray := ⟨#[114, 111, 111, 109]⟩
theorem strs_news {w : World} {a : Option Addr} {l : List ByteArray} (h : StrsAt w a l) : ∀ (j : Nat) (u : Value), (l.map Value.string)[j]? = some u → ∃ ad, a = some ad ∧ w.cell? (ad.add j) = some u := fun j u hu => by
  rw [List.getElem?_map] at hu
  cases hx : l[j]? with
  | none => rw [hx] at hu; cases hu
  | some x =>
    rw [hx] at hu
    cases hu
    obtain ⟨g, off, e, h0⟩ := h j x hx
    refine ⟨_, e, ?_⟩
    by_cases hj : j = 0
    · subst hj; exact h0
    · simpa [Addr.add, hj] using h0
theorem strs_one (l : List ByteArray) : ∀ u ∈ l.map Value.string, u.oneCell' = true := fun u hu => by
  obtain ⟨x, _, rfl⟩ := List.mem_map.1 hu
  rfl

set_option maxRecDepth 100000 in
set_option maxHeartbeats 4000000 in
theorem texts_any (w : World) (a : Option Addr) (n c : Nat) (l : List ByteArray) (hl : l.length = n) (hn : n ≤ 1099511627776) (h : StrsAt w a l) :
    Calls Tryd.prog 16 #[.slice a n c] w fun e w' => ∃ a' c', e = .returned (.slice a' (n + 1) c') ∧ n + 1 ≤ c' ∧ w'.ownsRow w.heap.size 9 1 (.slice a' (n + 1) c') (n + 1) ((l ++ [roomB]).map Value.string) ∧ Below w.heap.size w w' := by
  obtain ⟨s0, hs0, sz0, sz1, sz3⟩ := info_parts infoS
  have HI : Hid (StrsAt w a l) := h
  have HL : Hid (l.length = n) := hl
  clear h hl
  go_enter Tryd.func16, Tryd.ntmps16
  go_wp2_with (at_builtin; first | (refine wpList_append_more (w := w) rfl _ _ _ rfl w.heap.size 9 s0 _ 1 16 Tryd.underlying23 hs0 sz0 sz1 sz3 rfl (by omega) _ 0 [] (by rfl) (by exact World.ownsRow_nil _ _ _ _) a n c (l.map Value.string) (by rfl) (by rw [List.length_map, HL.out]; omega) (strs_news HI.out) (strs_one l) (by unfold maxLen; omega) (by omega) (by omega) ?_; intro a4 c4 w4 ho4 hb4; have HO4 : Hid (w4.ownsRow w.heap.size 9 1 (.slice a4 (0 + n) c4) (0 + n) ([] ++ l.map Value.string)) := ho4; have HB4 : Hid (Below w.heap.size w w4) := hb4; clear ho4 hb4) | (refine wpList_append_more (w := w4.alloc (.cells #[.string ⟨#[114, 111, 111, 109]⟩] 9)) rfl _ _ _ rfl w.heap.size 9 s0 _ 1 16 Tryd.underlying23 hs0 sz0 sz1 sz3 rfl (by omega) _ n (l.map Value.string) (by rfl) (by have h := HO4.out; rw [Nat.zero_add, List.nil_append] at h; exact owns_alloc h _) (some ⟨w4.heap.size, 0, none⟩) 1 1 [.string ⟨#[114, 111, 111, 109]⟩] (by rfl) (by rfl) (fun j' u hu => ⟨_, rfl, World.news_of_block (cs := #[.string ⟨#[114, 111, 111, 109]⟩]) (t := 9) (fr := (0, 0)) (heap_alloc_new w4 _) j' u hu⟩) (by simp [Value.oneCell']) (by unfold maxLen; omega) (by omega) (by exact Nat.le_trans HB4.out.size (below_alloc _ _).size) ?_; intro a5 c5 w5 ho5 hb5; have HO5 : Hid (w5.ownsRow w.heap.size 9 1 (.slice a5 (n + 1) c5) (n + 1) (l.map Value.string ++ [.string ⟨#[114, 111, 111, 109]⟩])) := ho5; have HB5 : Hid (Below w.heap.size w w5) := (HB4.out.alloc HB4.out.size _).trans hb5; clear ho5 hb5))
  go_ret
  have h := HO5.out
  rw [show l.map Value.string ++ [.string ⟨#[114, 111, 111, 109]⟩] = (l ++ [roomB]).map Value.string by simp [roomB]] at h
  obtain ⟨_, _, e, hc⟩ := own_shape h
  cases e
  exact ⟨a5, c5, rfl, hc, h, HB5.out⟩

set_option maxRecDepth 100000 in
set_option maxHeartbeats 4000000 in
theorem whole_any (w : World) (a1 : Option Addr) (c1 : Nat) (a : Option Addr) (n c : Nat) (l : List ByteArray) (hl : l.length = n) (hn : n ≤ 1099511627776) (h1 : StrsAt w a1 (l ++ [roomB])) (h : StrsAt w a l) :
    Calls Tryd.prog 17 #[.slice a1 (n + 1) c1, .slice a n c] w fun e w' => e = .returned (.bool true) ∧ Below w.heap.size w w' := by
  have HI : Hid (StrsAt w a l) := h
  have HJ : Hid (StrsAt w a1 (l ++ [roomB])) := h1
  have HL : Hid (l.length = n) := hl
  obtain ⟨g1, o1, rfl, r0⟩ := h1 n roomB (by rw [List.getElem?_append_right (by omega), hl, Nat.sub_self]; rfl)
  unfold roomB at r0
  have HR : Hid (w.cell? ⟨g1, o1 + n, none⟩ = some (.string ⟨#[114, 111, 111, 109]⟩)) := r0
  clear h h1 hl r0
  go_enter Tryd.func17, Tryd.ntmps17
  go_wp2_with fail
  go_loopw [5] (fun i wx => ∃ j : Nat, j ≤ n ∧ i = .int .i64 j ∧ Hid (Below w.heap.size w wx)) (fun i _ => n - (intOf i).toNat)
  case atStart => exact ⟨0, Nat.zero_le _, rfl, Below.refl _ _⟩
  case round =>
    obtain ⟨j, hj, rfl, hb⟩ := hrel
    by_cases hlt : j < n
    · have n1 : (j : Int) < (n : Int) := by omega
      obtain ⟨x, hx⟩ : ∃ x, l[j]? = some x := ⟨l[j]'(by rw [HL.out]; exact hlt), List.getElem?_eq_getElem _⟩
      obtain ⟨g, off, rfl, c0⟩ := HI.out.up hb.out j x hx
      obtain ⟨_, _, e, c2⟩ := HJ.out.up hb.out j x (by rw [List.getElem?_append_left (by rw [HL.out]; exact hlt)]; exact hx)
      cases e
      clear hx
      have n3 : (j : Int) < (n : Int) + 1 := by omega
      go_wp2
      go_quiet (fail)
      go_wp2
      go_roundw
      case rel => exact ⟨j + 1, by omega, by go_num, below_drewN hb.out _⟩
      case measure => simp [intOf]; omega
    · have n1 : ¬ (j : Int) < (n : Int) := by omega
      have r0 := (hb.out.cell (p := ⟨g1, o1 + n, none⟩) (World.block_lt_of_cell? _ _ HR.out)).trans HR.out
      go_wp2
      go_ret
      exact ⟨rfl, hb.out⟩
end Go.Proofs.YtffchjigpppoaaaDoor
