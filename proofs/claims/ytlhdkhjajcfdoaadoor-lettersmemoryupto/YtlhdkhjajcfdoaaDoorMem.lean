/- Rows of codes that are written over. -/
import Derived.Test.YtlhdkhjajcfdoaaDoorRefD
import Derived.Test.YtlhdkhjajcfdoaaDoorStay
import Derived.Test.YtlhdkhjajcfdoaaDoorTextsWalk
namespace Go.Proofs.YtlhdkhjajcfdoaaDoor
open Go.RowKit

def tok0 : Tok := ⟨⟨#[]⟩, 0, 0, 0⟩
def tokA : Tok := ⟨⟨#[65]⟩, 0, 0, 0⟩
def tokB : Tok := ⟨⟨#[98, 101, 104, 105, 110, 100]⟩, 0, 0, 0⟩
def tokC : Tok := ⟨⟨#[116, 104, 105, 115]⟩, 0, 0, 0⟩
def mk1 (i : Nat) : Int × Tok := (-100 - (i : Int), tok0)
def mk2 (i : Nat) : Int × Tok := (-100000 - (i : Int), tok0)
def marksC (cs : List (Int × Tok)) (j : Nat) : List (Int × Tok) := (List.range j).map mk1 ++ cs.drop j
def moreC (j : Nat) : List (Int × Tok) := (List.range j).map mk2
theorem moreC_succ (j : Nat) : moreC (j + 1) = moreC j ++ [mk2 j] := by simp [moreC, List.range_succ]
theorem moreC_at (j i : Nat) (h : i < j) : (moreC j)[i]? = some (mk2 i) := by simp [moreC, h]
theorem marksC_len (cs : List (Int × Tok)) (j : Nat) (h : j ≤ cs.length) : (marksC cs j).length = cs.length := by simp [marksC]; omega
theorem marksC_at (cs : List (Int × Tok)) (j i : Nat) (h : i < j) : (marksC cs j)[i]? = some (mk1 i) := by
  unfold marksC
  rw [List.getElem?_append_left (by simpa using h)]
  simp [h]
theorem marksC_succ (cs : List (Int × Tok)) (j : Nat) (h : j < cs.length) : marksC cs (j + 1) = (marksC cs j).set j (mk1 j) := by
  unfold marksC
  rw [List.set_append_right _ _ (by simp), List.length_map, List.length_range, Nat.sub_self, List.drop_eq_getElem_cons h, List.set_cons_zero, List.range_succ]
  simp
theorem row_put (X : List (Int × Tok)) (j : Nat) (c : Int × Tok) (h : j < X.length) : (((((rowC X).set (j * 5) (.int .i64 c.1)).set (j * 5 + 1) (.string c.2.text)).set (j * 5 + 2) (.int .i64 c.2.off)).set (j * 5 + 3) (.int .i64 c.2.line)).set (j * 5 + 4) (.int .i64 c.2.col) = rowC (X.set j c) := by
  have e : X = X.take j ++ X[j] :: X.drop (j + 1) := by rw [← List.drop_eq_getElem_cons h, List.take_append_drop]
  have hl : (X.take j).length = j := by rw [List.length_take]; omega
  have hr : (rowC (X.take j)).length = j * 5 := by rw [rowC_len, hl]
  have e1 : rowC X = rowC (X.take j) ++ (codeCells X[j] ++ rowC (X.drop (j + 1))) := by
    conv => lhs; rw [e]
    rw [rowC_append]; rfl
  have e2 : rowC (X.set j c) = rowC (X.take j) ++ (codeCells c ++ rowC (X.drop (j + 1))) := by
    have : X.set j c = X.take j ++ c :: X.drop (j + 1) := by
      rw [List.set_eq_take_append_cons_drop, if_pos h]
    rw [this, rowC_append]; rfl
  rw [e1, e2]
  have st : ∀ (l : List Value) (t : Nat) (u : Value), (rowC (X.take j) ++ l).set (j * 5 + t) u = rowC (X.take j) ++ l.set t u := fun l t u => by
    rw [List.set_append_right _ _ (by omega), hr, Nat.add_sub_cancel_left]
  have s0 : (rowC (X.take j) ++ (codeCells X[j] ++ rowC (X.drop (j + 1)))).set (j * 5) (.int .i64 c.1) = rowC (X.take j) ++ (codeCells X[j] ++ rowC (X.drop (j + 1))).set 0 (.int .i64 c.1) := st (codeCells X[j] ++ rowC (X.drop (j + 1))) 0 (.int .i64 c.1)
  rw [s0, st, st, st, st]
  rfl
theorem owns_set_in {W : World} {base e size g n cap : Nat} {xs : List Value} (h : W.ownsRow base e size (.slice (some ⟨g, 0, none⟩) n cap) n xs) (i : Nat) (u : Value) : (W.setCell ⟨g, i, none⟩ u).ownsRow base e size (.slice (some ⟨g, 0, none⟩) n cap) n (xs.set i u) := by
  refine ⟨by rw [List.length_set]; exact h.1, ?_⟩
  rcases h.2 with ⟨e', _⟩ | ⟨g', cap', cur, hv, hg', hh, hn, hc, hsz, ht⟩
  · cases e'
  · simp only [Value.slice.injEq, Option.some.injEq, Addr.mk.injEq] at hv
    obtain ⟨⟨rfl, _⟩, _, rfl⟩ := hv
    refine .inr ⟨g, cap, cur.setIfInBounds i u, rfl, hg', heap_set_same hh, hn, hc, by rw [Array.size_setIfInBounds]; exact hsz, ?_⟩
    rw [Array.toList_setIfInBounds, List.take_set, ht]
/-- A code is written into a row. -/
def putC (W : World) (g j : Nat) (c : Int × Tok) : World := ((((W.setCell ⟨g, j * 5, none⟩ (.int .i64 c.1)).setCell ⟨g, j * 5 + 1, none⟩ (.string c.2.text)).setCell ⟨g, j * 5 + 2, none⟩ (.int .i64 c.2.off)).setCell ⟨g, j * 5 + 3, none⟩ (.int .i64 c.2.line)).setCell ⟨g, j * 5 + 4, none⟩ (.int .i64 c.2.col)
theorem owns_put {W : World} {base g n cap : Nat} {X : List (Int × Tok)} (h : W.ownsRow base 33 5 (.slice (some ⟨g, 0, none⟩) n cap) n (rowC X)) (j : Nat) (c : Int × Tok) (hj : j < X.length) : (putC W g j c).ownsRow base 33 5 (.slice (some ⟨g, 0, none⟩) n cap) n (rowC (X.set j c)) := by
  rw [← row_put X j c hj]
  exact owns_set_in (owns_set_in (owns_set_in (owns_set_in (owns_set_in h _ _) _ _) _ _) _ _) _ _
theorem owns_far {W : World} {base e size g n : Nat} {v : Value} {xs : List Value} (h : W.ownsRow base e size v n xs) (hg : v.ownBlock ≠ some g) (j : Nat) (c : Int × Tok) : (putC W g j c).ownsRow base e size v n xs := by
  refine owns_same h fun b hb => ?_
  have hne : b ≠ g := fun e' => hg (by rw [hb, e'])
  unfold putC
  rw [Below.heap_setCell _ _ _ b hne, Below.heap_setCell _ _ _ b hne, Below.heap_setCell _ _ _ b hne, Below.heap_setCell _ _ _ b hne, Below.heap_setCell _ _ _ b hne]
theorem below_put {B g : Nat} {A W : World} (h : Below B A W) (hg : B ≤ g) (j : Nat) (c : Int × Tok) : Below B A (putC W g j c) :=
  ((((h.setCell (p := ⟨g, _, none⟩) hg _).setCell (p := ⟨g, _, none⟩) hg _).setCell (p := ⟨g, _, none⟩) hg _).setCell (p := ⟨g, _, none⟩) hg _).setCell (p := ⟨g, _, none⟩) hg _
theorem row_free {W : World} {base e size g n cap : Nat} {xs : List Value} (h : W.ownsRow base e size (.slice (some ⟨g, 0, none⟩) n cap) n xs) (i : Nat) : W.frozen? ⟨g, i, none⟩ = false := by
  rcases h.2 with ⟨e', _⟩ | ⟨g', cap', cur, hv, hg', hh, hn, hc, hsz, ht⟩
  · cases e'
  · simp only [Value.slice.injEq, Option.some.injEq, Addr.mk.injEq] at hv
    obtain ⟨⟨rfl, _⟩, _, rfl⟩ := hv
    simp [World.frozen?, hh]
/-- The cells of a code in a row. -/
theorem row_code {W : World} {base g n cap : Nat} {X : List (Int × Tok)} (h : W.ownsRow base 33 5 (.slice (some ⟨g, 0, none⟩) n cap) n (rowC X)) (j : Nat) (c : Int × Tok) (hj : X[j]? = some c) : W.cell? ⟨g, j * 5, none⟩ = some (.int .i64 c.1) ∧ W.cell? ⟨g, j * 5 + 1, none⟩ = some (.string c.2.text) ∧ W.cell? ⟨g, j * 5 + 2, none⟩ = some (.int .i64 c.2.off) ∧ W.cell? ⟨g, j * 5 + 3, none⟩ = some (.int .i64 c.2.line) ∧ W.cell? ⟨g, j * 5 + 4, none⟩ = some (.int .i64 c.2.col) := by
  have k0 := rowC_at X j 0 c hj (by omega)
  rw [Nat.add_zero] at k0
  exact ⟨row_cells h _ _ (k0.trans rfl), row_cells h _ _ ((rowC_at X j 1 c hj (by omega)).trans rfl), row_cells h _ _ ((rowC_at X j 2 c hj (by omega)).trans rfl), row_cells h _ _ ((rowC_at X j 3 c hj (by omega)).trans rfl), row_cells h _ _ ((rowC_at X j 4 c hj (by omega)).trans rfl)⟩
theorem own_some {W : World} {base e size n : Nat} {v : Value} {xs : List Value} (h : W.ownsRow base e size v n xs) (hn : 0 < n) : ∃ g c, v = .slice (some ⟨g, 0, none⟩) n c ∧ n ≤ c ∧ base ≤ g ∧ g < W.heap.size := by
  rcases h.2 with ⟨_, rfl⟩ | ⟨g, cap, cur, rfl, hg, hh, hc, _⟩
  · omega
  · exact ⟨g, cap, rfl, hc, hg, (Array.getElem?_eq_some_iff.1 hh).1⟩
theorem codes_A (T : List Tok) : 0 < (codesOf 0 (T ++ [tokA])).length := by
  rw [codesOf_append, List.length_append]
  have e : (codesOf (endOf 0 T) [tokA]).length = 1 := by
    show (toldBy tokA (numsOf (endOf 0 T) [65]) ++ []).length = 1
    rw [List.append_nil, toldBy_len]
    have e2 : numsOf (endOf 0 T) [65] = stepN (endOf 0 T) 65 := by simp [numsOf]
    rw [e2]; rfl
  omega
end Go.Proofs.YtlhdkhjajcfdoaaDoor
