/- Statements inside: how a keyword begins one, how one is made of what was handed in. -/
import Derived.Test.YtipfhfeaalbmcaaDoorShape
import Derived.Test.YtipfhfeaalbmcaaDoorPut
namespace Go.Proofs.YtipfhfeaalbmcaaDoor
open Go.RowKit

/-- A statement: as it is handed in. -/
structure Stm where
  kind : Int
  label : Tok
  key : Tok
  proving : Bool
  words : List Tok
  proof : List Tok
  fin : Tok
abbrev z4 : List Value := [.string ⟨#[]⟩, .int .i64 0, .int .i64 0, .int .i64 0]
def brackC (k : Int) (ky : Tok) : Array Value := #[.int .i64 k, .string ky.text, .int .i64 ky.off, .int .i64 ky.line, .int .i64 ky.col]
def clauseC (k : Int) (lb ky : Tok) (wd : Value) : Array Value := #[.int .i64 k, .string lb.text, .int .i64 lb.off, .int .i64 lb.line, .int .i64 lb.col, .string ky.text, .int .i64 ky.off, .int .i64 ky.line, .int .i64 ky.col, wd, .string ⟨#[]⟩, .int .i64 0, .int .i64 0, .int .i64 0]
def theoremC (k : Int) (lb ky : Tok) (wd pf : Value) : Array Value := #[.int .i64 k, .string lb.text, .int .i64 lb.off, .int .i64 lb.line, .int .i64 lb.col, .string ky.text, .int .i64 ky.off, .int .i64 ky.line, .int .i64 ky.col, wd, .string ⟨#[]⟩, .int .i64 0, .int .i64 0, .int .i64 0, .bool false, pf]
/-- What stands for a statement of a kind: which pointer, and what lies there. -/
def Holds (W : World) (N : Nat) (st : Value) (k : Int) (lb ky : Tok) (wd pf : Value) : Prop := ∃ g, N ≤ g ∧ g < W.heap.size ∧
  (((k = 8 ∨ k = 9) ∧ st = .iface 123 (.pointer (some ⟨g, 0, none⟩)) ∧ W.heap[g]? = some (.cells (brackC k ky) 126 (0, 0))) ∨
   (k = 7 ∧ st = .iface 116 (.pointer (some ⟨g, 0, none⟩)) ∧ W.heap[g]? = some (.cells (theoremC k lb ky wd pf) 120 (0, 0))) ∨
   (k ≠ 7 ∧ k ≠ 8 ∧ k ≠ 9 ∧ st = .iface 121 (.pointer (some ⟨g, 0, none⟩)) ∧ W.heap[g]? = some (.cells (clauseC k lb ky wd) 118 (0, 0))))

set_option maxRecDepth 100000 in
set_option maxHeartbeats 4000000 in
theorem newSt_any (w : World) (k : Int) (lb ky : Tok) :
    Calls Tryd.prog 57 #[.int .i64 k, tokV lb, tokV ky] w fun e w' => Below w.heap.size w w' ∧ ∃ st, e = .returned st ∧ Holds w' w.heap.size st k lb ky (.slice none 0 0) (.slice none 0 0) := by
  unfold tokV
  obtain ⟨w1, hw1⟩ : ∃ w1, w1 = w.alloc (.cells #[.string lb.text, .int .i64 lb.off, .int .i64 lb.line, .int .i64 lb.col] 34) := ⟨_, rfl⟩
  obtain ⟨w2, hw2⟩ : ∃ w2, w2 = w1.alloc (.cells #[.string ky.text, .int .i64 ky.off, .int .i64 ky.line, .int .i64 ky.col] 34) := ⟨_, rfl⟩
  obtain ⟨w3, hw3⟩ : ∃ w3, w3 = w2.alloc (.cells (clauseC k lb ky (.slice none 0 0)) 118) := ⟨_, rfl⟩
  have b1 : Below w.heap.size w w1 := by rw [hw1]; exact below_alloc _ _
  have b2 : Below w1.heap.size w1 w2 := by rw [hw2]; exact below_alloc _ _
  have b3 : Below w2.heap.size w2 w3 := by rw [hw3]; exact below_alloc _ _
  have k1 : w2.heap[w.heap.size]? = some (.cells #[.string lb.text, .int .i64 lb.off, .int .i64 lb.line, .int .i64 lb.col] 34 (0, 0)) := (b2.block _ (by rw [hw1]; simp)).trans (by rw [hw1]; exact heap_alloc_new w _)
  have k2 : w2.heap[w1.heap.size]? = some (.cells #[.string ky.text, .int .i64 ky.off, .int .i64 ky.line, .int .i64 ky.col] 34 (0, 0)) := by rw [hw2]; exact heap_alloc_new w1 _
  have l1 : w1.heap.size < w2.heap.size := (Array.getElem?_eq_some_iff.1 k2).1
  have k2' : w3.heap[w1.heap.size]? = some (.cells #[.string ky.text, .int .i64 ky.off, .int .i64 ky.line, .int .i64 ky.col] 34 (0, 0)) := (b3.block _ l1).trans k2
  have k3 : w3.heap[w2.heap.size]? = some (.cells (clauseC k lb ky (.slice none 0 0)) 118 (0, 0)) := by rw [hw3]; exact heap_alloc_new w2 _
  have B3 : Hid (Below w.heap.size w w3) := b1.trans ((b2.trans (b3.mono b2.size)).mono b1.size)
  have HK3 : Hid (w3.heap[w2.heap.size]? = some (.cells (clauseC k lb ky (.slice none 0 0)) 118 (0, 0))) := k3
  have HS : Hid (w.heap.size ≤ w2.heap.size) := Nat.le_trans b1.size b2.size
  have x0 : w2.cell? ⟨w.heap.size, 0, none⟩ = some (.string lb.text) := M.cell_whole k1 0
  have x1 : w2.cell? ⟨w.heap.size, 1, none⟩ = some (.int .i64 lb.off) := M.cell_whole k1 1
  have x2 : w2.cell? ⟨w.heap.size, 2, none⟩ = some (.int .i64 lb.line) := M.cell_whole k1 2
  have x3 : w2.cell? ⟨w.heap.size, 3, none⟩ = some (.int .i64 lb.col) := M.cell_whole k1 3
  have y0 : w2.cell? ⟨w1.heap.size, 0, none⟩ = some (.string ky.text) := M.cell_whole k2 0
  have y1 : w2.cell? ⟨w1.heap.size, 1, none⟩ = some (.int .i64 ky.off) := M.cell_whole k2 1
  have y2 : w2.cell? ⟨w1.heap.size, 2, none⟩ = some (.int .i64 ky.line) := M.cell_whole k2 2
  have y3 : w2.cell? ⟨w1.heap.size, 3, none⟩ = some (.int .i64 ky.col) := M.cell_whole k2 3
  have hs1 : w1.heap.size = w.heap.size + 1 := by rw [hw1]; simp
  have E1 : Hid (w.heap.size + 1 = w1.heap.size) := hs1.symm
  clear hs1
  clear b1 b2 b3 k1 k2 k3 l1
  have H1 : Hid (w1 = w.alloc (.cells #[.string lb.text, .int .i64 lb.off, .int .i64 lb.line, .int .i64 lb.col] 34)) := hw1
  have H2 : Hid (w2 = w1.alloc (.cells #[.string ky.text, .int .i64 ky.off, .int .i64 ky.line, .int .i64 ky.col] 34)) := hw2
  have H3 : Hid (w3 = w2.alloc (.cells (clauseC k lb ky (.slice none 0 0)) 118)) := hw3
  clear hw1 hw2 hw3
  go_enter Tryd.func57, Tryd.ntmps57
  go_upto_region 1 with fail
  rw [← H1.out, E1.out, ← H2.out]
  clear H1 H2 E1
  go_upto_region 2 with fail
  rw [show w2.alloc (.cells #[.int .i64 k, .string lb.text, .int .i64 lb.off, .int .i64 lb.line, .int .i64 lb.col, .string ky.text, .int .i64 ky.off, .int .i64 ky.line, .int .i64 ky.col, .slice none 0 0, .string ⟨#[]⟩, .int .i64 0, .int .i64 0, .int .i64 0] 118) = w3 from H3.out.symm]
  have yz0 : w3.cell? ⟨w1.heap.size, 0, none⟩ = some (.string ky.text) := M.cell_whole k2' 0
  have yz1 : w3.cell? ⟨w1.heap.size, 1, none⟩ = some (.int .i64 ky.off) := M.cell_whole k2' 1
  have yz2 : w3.cell? ⟨w1.heap.size, 2, none⟩ = some (.int .i64 ky.line) := M.cell_whole k2' 2
  have yz3 : w3.cell? ⟨w1.heap.size, 3, none⟩ = some (.int .i64 ky.col) := M.cell_whole k2' 3
  clear H3 x0 x1 x2 x3 y0 y1 y2 y3 k2'
  by_cases h89 : k = 8 ∨ k = 9
  · have HB : Hid (∀ O, Below w.heap.size w (w3.alloc O) ∧ w.heap.size ≤ w3.heap.size ∧ w3.heap.size < (w3.alloc O).heap.size) := fun O => ⟨B3.out.alloc B3.out.size _, B3.out.size, by simp⟩
    rcases h89 with h8 | h9
    · subst h8
      go_wp2
      go_ret
      exact ⟨(HB.out _).1, _, rfl, _, B3.out.size, (HB.out _).2.2, .inl ⟨.inl rfl, rfl, heap_alloc_new w3 _⟩⟩
    · subst h9
      go_wp2
      go_ret
      exact ⟨(HB.out _).1, _, rfl, _, B3.out.size, (HB.out _).2.2, .inl ⟨.inr rfl, rfl, heap_alloc_new w3 _⟩⟩
  · have e8 : (k == 8) = false := by simp; omega
    have e9 : (k == 9) = false := by simp; omega
    by_cases h7 : k = 7
    · subst h7
      have HB : Hid (∀ O, Below w.heap.size w (w3.alloc O) ∧ w.heap.size ≤ w3.heap.size ∧ w3.heap.size < (w3.alloc O).heap.size) := fun O => ⟨B3.out.alloc B3.out.size _, B3.out.size, by simp⟩
      have c : ∀ i, w3.cell? ⟨w2.heap.size, i, none⟩ = (clauseC 7 lb ky (.slice none 0 0))[i]? := fun i => M.cell_whole HK3.out i
      have c0 := c 0
      have c1 := c 1
      have c2 := c 2
      have c3 := c 3
      have c4 := c 4
      have c5 := c 5
      have c6 := c 6
      have c7 := c 7
      have c8 := c 8
      have c9 := c 9
      have c10 := c 10
      have c11 := c 11
      have c12 := c 12
      have c13 := c 13
      clear c
      simp only [clauseC] at c0 c1 c2 c3 c4 c5 c6 c7 c8 c9 c10 c11 c12 c13
      go_wp2
      go_ret
      exact ⟨(HB.out _).1, _, rfl, _, B3.out.size, (HB.out _).2.2, .inr (.inl ⟨rfl, rfl, heap_alloc_new w3 _⟩)⟩
    · have e7 : (k == 7) = false := by simp; omega
      go_wp2
      go_ret
      exact ⟨B3.out, _, rfl, w2.heap.size, HS.out, (Array.getElem?_eq_some_iff.1 HK3.out).1, .inr (.inr ⟨h7, fun e => h89 (.inl e), fun e => h89 (.inr e), rfl, HK3.out⟩)⟩
end Go.Proofs.YtipfhfeaalbmcaaDoor
