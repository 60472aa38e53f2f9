/- What cutUp answers: pieces that lie one behind the other. -/
import Derived.Test.YtmgpnaehniohgaaDoorEPlacesAll
import Derived.Test.YtmgpnaehniohgaaDoorEOnto
namespace Go.Proofs.YtmgpnaehniohgaaDoor.E
open Go.RowKit Go.Deep

theorem infoE : (Tryd.prog.info? 23).map (fun i => (i.zero, i.size, i.bytes)) = some (some (.slice none 0 0), 1, 24) := by kernel_rfl
/-- Slices of numbers, each with what it holds. -/
def PartsAt (w : World) (vs : List Value) (ls : List (List Int)) : Prop := vs.length = ls.length ∧ ∀ (i : Nat) (l : List Int), ls[i]? = some l → ∃ a c, vs[i]? = some (Value.slice a l.length c) ∧ IntsAt w a l
theorem ints_rest {w : World} {a : Option Addr} {l : List Int} {r c s : Nat} (h : IntsAt w a l) (hl : l.length = r) (hr : r ≤ c) : IntsAt w (if c = s then a else Option.map (fun x => x.add s) a) (l.drop s) := fun i x hi => by
  rw [List.getElem?_drop] at hi
  obtain ⟨b, off, rfl, hc⟩ := h _ x hi
  have hlt := (List.getElem?_eq_some_iff.1 hi).1
  rw [if_neg (by omega)]
  exact ⟨b, off + s, by simp [Addr.add], by rw [← hc, Nat.add_assoc]⟩
theorem ints_take {w : World} {a : Option Addr} {l : List Int} {s : Nat} (h : IntsAt w a l) : IntsAt w a (l.take s) := fun i x hi => by
  rw [List.getElem?_take] at hi
  split at hi
  · exact h i x hi
  · cases hi
theorem PartsAt.snoc {w : World} {vs : List Value} {ls : List (List Int)} (h : PartsAt w vs ls) (a : Option Addr) (c : Nat) (l : List Int) (n : Nat) (hn : l.length = n) (hl : IntsAt w a l) : PartsAt w (vs ++ [Value.slice a n c]) (ls ++ [l]) := by
  refine ⟨by simp [h.1], fun i x hi => ?_⟩
  by_cases hlt : i < ls.length
  · rw [List.getElem?_append_left hlt] at hi
    obtain ⟨a', c', h1, h2⟩ := h.2 i x hi
    exact ⟨a', c', by rw [List.getElem?_append_left (by rw [h.1]; exact hlt)]; exact h1, h2⟩
  · rw [List.getElem?_append_right (by omega)] at hi
    have hi0 : i - ls.length = 0 := by
      have := (List.getElem?_eq_some_iff.1 hi).1
      simp at this; omega
    rw [hi0] at hi
    simp at hi
    subst hi
    refine ⟨a, c, ?_, hl⟩
    rw [List.getElem?_append_right (by rw [h.1]; omega), h.1, hi0, hn]
    rfl

/-- The pieces of a list, in a row of one's own. -/
def CutIs (w w' : World) (v : Value) (l : List Int) (m : Nat) : Prop := ∃ (vs : List Value) (ls : List (List Int)), w'.ownsRow w.heap.size 23 1 v vs.length vs ∧ PartsAt w vs ls ∧ ls.flatten = l ∧ ls.length ≤ m + 1 ∧ Below w.heap.size w w'
end Go.Proofs.YtmgpnaehniohgaaDoor.E
