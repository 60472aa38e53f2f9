/- What the table of the kinds holds, by the condition on it. -/
import Derived.Test.YtipfhfeaalbmcaaDoorRows
import Derived.Test.YtipfhfeaalbmcaaDoorShape
import Derived.Lib.LaidU8
import Derived.ChangeSame
import Derived.Deep.Slices
import Derived.OpenShut
import Derived.Deep.DeepHandedRow
import Derived.ChangeArms
import Derived.ChangeSlices
import Derived.Carry
namespace Go.Proofs.YtipfhfeaalbmcaaDoor
open Go.ChangeShapes Go.WideShapes Go.ChangeAt Go.RowKit Go.Deep

theorem cells34 : Tryd.prog.cellsOf 34 = 4 := by kernel_rfl
theorem cells27 : Tryd.prog.cellsOf 27 = 3 := by kernel_rfl
theorem cells36 : Tryd.prog.cellsOf 36 = 16 := by kernel_rfl
theorem cells31 : Tryd.prog.cellsOf 31 = 1 := by kernel_rfl
theorem cells9 : Tryd.prog.cellsOf 9 = 1 := by kernel_rfl
theorem cells3 : Tryd.prog.cellsOf 3 = 1 := by kernel_rfl
theorem cells4 : Tryd.prog.cellsOf 4 = 1 := by kernel_rfl
theorem cells113 : Tryd.prog.cellsOf 113 = 4 := by kernel_rfl
theorem four {cs : List Value} (h : cs.length = 4) : ∃ a b c d, cs = [a, b, c, d] := by
  match cs, h with
  | [a, b, c, d], _ => exact ⟨a, b, c, d, rfl⟩
/-- A row of the table, opened. -/
theorem shape_open {H : Type} {enc : TypeId × Value → H} {W : World} {fuel base : Nat} {sp : Nat → Bool} {held : Bool} {cs : List Value} {x : DataW H × List MemPlace}
    (h : DataW.trod enc Tryd.prog W base sp held fuel 113 cs = some x) : ∃ (s : ByteArray) (b : Bool) (i j : Int), cs = [.string s, .bool b, .int .i64 i, .int .i64 j] ∧ x.1 = .agg [.lit (.string s.data.toList), .lit (.bool b), .lit (.int .i64 i), .lit (.int .i64 j)] := by
  obtain ⟨xs, n, _, hx, hl, hlen, hf⟩ := DataW.trod_struct Tryd.underlying113 h
  rw [cells113] at hl
  obtain ⟨c0, c1, c2, c3, rfl⟩ := four hl
  match xs, hlen with
  | [y0, y1, y2, y3], _ =>
    have h0 : DataW.trod enc Tryd.prog W base sp held n 9 (List.take (Tryd.prog.cellsOf 9) (List.drop 0 [c0, c1, c2, c3])) = some y0 := hf 0 _ rfl
    have h1 : DataW.trod enc Tryd.prog W base sp held n 4 (List.take (Tryd.prog.cellsOf 4) (List.drop 1 [c0, c1, c2, c3])) = some y1 := hf 1 _ rfl
    have h2 : DataW.trod enc Tryd.prog W base sp held n 3 (List.take (Tryd.prog.cellsOf 3) (List.drop 2 [c0, c1, c2, c3])) = some y2 := hf 2 _ rfl
    have h3 : DataW.trod enc Tryd.prog W base sp held n 3 (List.take (Tryd.prog.cellsOf 3) (List.drop 3 [c0, c1, c2, c3])) = some y3 := hf 3 _ rfl
    rw [cells9] at h0
    rw [cells4] at h1
    rw [cells3] at h2 h3
    obtain ⟨s, e0, r0, _⟩ := DataW.trod_string Tryd.underlying9 h0
    obtain ⟨b, e1, r1⟩ := DataW.trod_bool Tryd.underlying4 h1
    obtain ⟨i, e2, r2, _⟩ := DataW.trod_int Tryd.underlying3 h2
    obtain ⟨j, e3, r3, _⟩ := DataW.trod_int Tryd.underlying3 h3
    simp at e0 e1 e2 e3
    subst e0 e1 e2 e3
    refine ⟨s, b, i, j, rfl, ?_⟩
    rw [hx]
    simp only [List.map_cons, List.map_nil, r0, r1, r2, r3]
def shapeD (k : Nat) : DataW Unit := .agg [.lit (.string (shapeRow.getD k ([], false, 0, 0)).1), .lit (.bool (labB k)), .lit (.int .i64 (lstI k)), .lit (.int .i64 (mstI k))]
theorem shapes_laid : (Rows.laid_lemma_stmt_shapes : DataW Unit) = .agg ((List.range 10).map shapeD) := by kernel_rfl
theorem shapes_of {W : World} (h : Lib.VarReads Tryd.prog W "lemma/stmt.shapes" Rows.laid_lemma_stmt_shapes) : ShapesAt W := fun k hk => by
  obtain ⟨g, t, cs, fuel, p, hg, hty, hvar, hd⟩ := h
  obtain rfl : g = 1 := Option.some.inj (hg.symm.trans (by kernel_rfl))
  obtain rfl : t = 114 := Option.some.inj (hty.symm.trans (by kernel_rfl))
  rw [shapes_laid] at hd
  obtain ⟨fuel', d, q, hdi, he⟩ := Lib.array_elem Tryd.underlying114 hd k hk
  simp only [List.getElem?_map, List.getElem?_range hk, Option.map_some, Option.some.injEq] at hdi
  subst hdi
  rw [cells113] at he
  obtain ⟨s, b, i, j, hcs, hx⟩ := shape_open he
  have hx2 : shapeD k = .agg [.lit (.string s.data.toList), .lit (.bool b), .lit (.int .i64 i), .lit (.int .i64 j)] := hx
  unfold shapeD at hx2
  simp only [DataW.agg.injEq, List.cons.injEq, DataW.lit.injEq, Lit.string.injEq, Lit.bool.injEq, Lit.int.injEq, and_true, true_and] at hx2
  obtain ⟨t0, t1, t2, t3⟩ := hx2
  have hs : s = kwB k := by
    obtain ⟨dd⟩ := s
    unfold kwB
    rw [t0]
  have hc : ∀ q, q < 4 → W.cell? ⟨1, k * 4 + q, none⟩ = ((cs.toList.drop (k * 4)).take 4)[q]? := fun q hq => by
    rw [World.var?_cell hg hvar (k * 4 + q), List.getElem?_take, if_pos hq, List.getElem?_drop, ← Array.getElem?_toList]
  rw [hcs] at hc
  refine ⟨?_, ?_, ?_, ?_⟩
  · rw [← hs]; exact hc 0 (by omega)
  · rw [t1]; exact hc 1 (by omega)
  · rw [t2]; exact hc 2 (by omega)
  · rw [t3]; exact hc 3 (by omega)
end Go.Proofs.YtipfhfeaalbmcaaDoor
