/- What came in: statements, of a bulk; what the tables hold. -/
import Derived.Test.YtipfhfeaalbmcaaDoorRows
import Derived.Test.YtipfhfeaalbmcaaDoorRPrint
import Derived.Test.YtipfhfeaalbmcaaDoorLentSt
import Derived.Lib.LaidU8
import Derived.ChangeSame
import Derived.Deep.Slices
import Derived.OpenShut
import Derived.Deep.DeepHandedRow
import Derived.ChangeArms
import Derived.ChangeSlices
import Derived.Carry
namespace Go.Proofs.YtipfhfeaalbmcaaDoor
open Go.ChangeShapes Go.WideShapes Go.ChangeAt Go.RowKit Go.Deep

theorem cells34 : Tryd.prog.cellsOf 34 = 4 := by kernel_rfl
theorem cells27 : Tryd.prog.cellsOf 27 = 3 := by kernel_rfl
theorem cells36 : Tryd.prog.cellsOf 36 = 16 := by kernel_rfl
theorem cells31 : Tryd.prog.cellsOf 31 = 1 := by kernel_rfl
theorem cells9 : Tryd.prog.cellsOf 9 = 1 := by kernel_rfl
theorem cells3 : Tryd.prog.cellsOf 3 = 1 := by kernel_rfl
theorem cells4 : Tryd.prog.cellsOf 4 = 1 := by kernel_rfl
theorem cells113 : Tryd.prog.cellsOf 113 = 4 := by kernel_rfl
theorem four {cs : List Value} (h : cs.length = 4) : ∃ a b c d, cs = [a, b, c, d] := by
  match cs, h with
  | [a, b, c, d], _ => exact ⟨a, b, c, d, rfl⟩
theorem sixteen {cs : List Value} (h : cs.length = 16) : ∃ a0 a1 a2 a3 a4 a5 a6 a7 a8 a9 b0 b1 b2 b3 b4 b5, cs = [a0, a1, a2, a3, a4, a5, a6, a7, a8, a9, b0, b1, b2, b3, b4, b5] := by
  match cs, h with
  | [a0, a1, a2, a3, a4, a5, a6, a7, a8, a9, b0, b1, b2, b3, b4, b5], _ => exact ⟨_, _, _, _, _, _, _, _, _, _, _, _, _, _, _, _, rfl⟩
theorem tok_open {H : Type} {enc : TypeId × Value → H} {W : World} {fuel base : Nat} {sp : Nat → Bool} {held : Bool} {cs : List Value} {x : DataW H × List MemPlace}
    (h : DataW.trod enc Tryd.prog W base sp held fuel 34 cs = some x) : ∃ t : Tok, cs = tokCells t ∧ x.1 = .agg [.lit (.string t.text.data.toList), .agg [.lit (.int .i64 t.off), .lit (.int .i64 t.line), .lit (.int .i64 t.col)]] := by
  obtain ⟨xs, n, _, hx, hl, hlen, hf⟩ := DataW.trod_struct Tryd.underlying34 h
  rw [cells34] at hl
  obtain ⟨c0, c1, c2, c3, rfl⟩ := four hl
  match xs, hlen with
  | [y0, y1], _ =>
    have h0 : DataW.trod enc Tryd.prog W base sp held n 9 (List.take (Tryd.prog.cellsOf 9) (List.drop 0 [c0, c1, c2, c3])) = some y0 := hf 0 _ rfl
    have h1 : DataW.trod enc Tryd.prog W base sp held n 27 (List.take (Tryd.prog.cellsOf 27) (List.drop 1 [c0, c1, c2, c3])) = some y1 := hf 1 _ rfl
    rw [cells9] at h0
    rw [cells27] at h1
    obtain ⟨s, e0, r0, _⟩ := DataW.trod_string Tryd.underlying9 h0
    obtain ⟨zs, k, _, hz, _, hzl, hg⟩ := DataW.trod_struct Tryd.underlying27 h1
    match zs, hzl with
    | [z0, z1, z2], _ =>
      have g0 : DataW.trod enc Tryd.prog W base sp held k 3 (List.take (Tryd.prog.cellsOf 3) (List.drop 0 [c1, c2, c3])) = some z0 := hg 0 _ rfl
      have g1 : DataW.trod enc Tryd.prog W base sp held k 3 (List.take (Tryd.prog.cellsOf 3) (List.drop 1 [c1, c2, c3])) = some z1 := hg 1 _ rfl
      have g2 : DataW.trod enc Tryd.prog W base sp held k 3 (List.take (Tryd.prog.cellsOf 3) (List.drop 2 [c1, c2, c3])) = some z2 := hg 2 _ rfl
      rw [cells3] at g0 g1 g2
      obtain ⟨i0, e1, r1, _⟩ := DataW.trod_int Tryd.underlying3 g0
      obtain ⟨i1, e2, r2, _⟩ := DataW.trod_int Tryd.underlying3 g1
      obtain ⟨i2, e3, r3, _⟩ := DataW.trod_int Tryd.underlying3 g2
      simp at e0 e1 e2 e3
      subst e0 e1 e2 e3
      refine ⟨⟨s, i0, i1, i2⟩, rfl, ?_⟩
      rw [hx]
      simp only [List.map_cons, List.map_nil, r0, hz, r1, r2, r3]
theorem tok_bulk {H : Type} (t : Tok) : Rows.uptoBulk (.agg [.lit (.string t.text.data.toList), .agg [.lit (.int .i64 t.off), .lit (.int .i64 t.line), .lit (.int .i64 t.col)]] : DataW H) = t.text.size + 6 := by
  simp only [Rows.uptoBulk, Rows.uptoBulkAll, size_list]
/-- What the law's variable holds. -/
theorem room_of {W : World} (h : Lib.VarReads Tryd.prog W "lemma/lemmalaw06.room" Rows.laid_lemma_lemmalaw06_room) : RoomAt W := by
  obtain ⟨g, t, cs, fuel, p, hg, hty, hvar, hd⟩ := h
  obtain rfl : g = 0 := Option.some.inj (hg.symm.trans (by kernel_rfl))
  obtain rfl : t = 34 := Option.some.inj (hty.symm.trans (by kernel_rfl))
  obtain ⟨tk, e1, e2⟩ := tok_open hd
  have e3 : (DataW.agg [.lit (.string [114, 111, 111, 109]), .agg [.lit (.int .i64 0), .lit (.int .i64 0), .lit (.int .i64 0)]] : DataW Unit) = .agg [.lit (.string tk.text.data.toList), .agg [.lit (.int .i64 tk.off), .lit (.int .i64 tk.line), .lit (.int .i64 tk.col)]] := e2
  simp only [DataW.agg.injEq, List.cons.injEq, DataW.lit.injEq, Lit.string.injEq, Lit.int.injEq, and_true, true_and] at e3
  obtain ⟨t0, t1, t2, t3⟩ := e3
  have ht : tk.text = roomS := by
    obtain ⟨⟨d⟩, _, _, _⟩ := tk
    simp only at t0
    show (⟨d⟩ : ByteArray) = ⟨#[114, 111, 111, 109]⟩
    have h : d = #[114, 111, 111, 109] := Array.toList_inj.1 t0.symm
    rw [h]
  have hcell : ∀ i, W.cell? ⟨0, i, none⟩ = (tokCells tk)[i]? := fun i => by
    rw [World.var?_cell hg hvar i, ← Array.getElem?_toList, e1]
  refine ⟨?_, ?_, ?_, ?_⟩
  · rw [hcell 0, ← ht]; rfl
  · rw [hcell 1, t1]; rfl
  · rw [hcell 2, t2]; rfl
  · rw [hcell 3, t3]; rfl
/-- A row of the table, opened. -/
theorem shape_open {H : Type} {enc : TypeId × Value → H} {W : World} {fuel base : Nat} {sp : Nat → Bool} {held : Bool} {cs : List Value} {x : DataW H × List MemPlace}
    (h : DataW.trod enc Tryd.prog W base sp held fuel 113 cs = some x) : ∃ (s : ByteArray) (b : Bool) (i j : Int), cs = [.string s, .bool b, .int .i64 i, .int .i64 j] ∧ x.1 = .agg [.lit (.string s.data.toList), .lit (.bool b), .lit (.int .i64 i), .lit (.int .i64 j)] := by
  obtain ⟨xs, n, _, hx, hl, hlen, hf⟩ := DataW.trod_struct Tryd.underlying113 h
  rw [cells113] at hl
  obtain ⟨c0, c1, c2, c3, rfl⟩ := four hl
  match xs, hlen with
  | [y0, y1, y2, y3], _ =>
    have h0 : DataW.trod enc Tryd.prog W base sp held n 9 (List.take (Tryd.prog.cellsOf 9) (List.drop 0 [c0, c1, c2, c3])) = some y0 := hf 0 _ rfl
    have h1 : DataW.trod enc Tryd.prog W base sp held n 4 (List.take (Tryd.prog.cellsOf 4) (List.drop 1 [c0, c1, c2, c3])) = some y1 := hf 1 _ rfl
    have h2 : DataW.trod enc Tryd.prog W base sp held n 3 (List.take (Tryd.prog.cellsOf 3) (List.drop 2 [c0, c1, c2, c3])) = some y2 := hf 2 _ rfl
    have h3 : DataW.trod enc Tryd.prog W base sp held n 3 (List.take (Tryd.prog.cellsOf 3) (List.drop 3 [c0, c1, c2, c3])) = some y3 := hf 3 _ rfl
    rw [cells9] at h0
    rw [cells4] at h1
    rw [cells3] at h2 h3
    obtain ⟨s, e0, r0, _⟩ := DataW.trod_string Tryd.underlying9 h0
    obtain ⟨b, e1, r1⟩ := DataW.trod_bool Tryd.underlying4 h1
    obtain ⟨i, e2, r2, _⟩ := DataW.trod_int Tryd.underlying3 h2
    obtain ⟨j, e3, r3, _⟩ := DataW.trod_int Tryd.underlying3 h3
    simp at e0 e1 e2 e3
    subst e0 e1 e2 e3
    refine ⟨s, b, i, j, rfl, ?_⟩
    rw [hx]
    simp only [List.map_cons, List.map_nil, r0, r1, r2, r3]
def shapeD (k : Nat) : DataW Unit := .agg [.lit (.string (shapeRow.getD k ([], false, 0, 0)).1), .lit (.bool (labB k)), .lit (.int .i64 (lstI k)), .lit (.int .i64 (mstI k))]
theorem shapes_laid : (Rows.laid_lemma_stmt_shapes : DataW Unit) = .agg ((List.range 10).map shapeD) := by kernel_rfl
theorem shapes_of {W : World} (h : Lib.VarReads Tryd.prog W "lemma/stmt.shapes" Rows.laid_lemma_stmt_shapes) : ShapesAt W := fun k hk => by
  obtain ⟨g, t, cs, fuel, p, hg, hty, hvar, hd⟩ := h
  obtain rfl : g = 1 := Option.some.inj (hg.symm.trans (by kernel_rfl))
  obtain rfl : t = 114 := Option.some.inj (hty.symm.trans (by kernel_rfl))
  rw [shapes_laid] at hd
  obtain ⟨fuel', d, q, hdi, he⟩ := Lib.array_elem Tryd.underlying114 hd k hk
  simp only [List.getElem?_map, List.getElem?_range hk, Option.map_some, Option.some.injEq] at hdi
  subst hdi
  rw [cells113] at he
  obtain ⟨s, b, i, j, hcs, hx⟩ := shape_open he
  have hx2 : shapeD k = .agg [.lit (.string s.data.toList), .lit (.bool b), .lit (.int .i64 i), .lit (.int .i64 j)] := hx
  unfold shapeD at hx2
  simp only [DataW.agg.injEq, List.cons.injEq, DataW.lit.injEq, Lit.string.injEq, Lit.bool.injEq, Lit.int.injEq, and_true, true_and] at hx2
  obtain ⟨t0, t1, t2, t3⟩ := hx2
  have hs : s = kwB k := by
    obtain ⟨dd⟩ := s
    unfold kwB
    rw [t0]
  have hc : ∀ q, q < 4 → W.cell? ⟨1, k * 4 + q, none⟩ = ((cs.toList.drop (k * 4)).take 4)[q]? := fun q hq => by
    rw [World.var?_cell hg hvar (k * 4 + q), List.getElem?_take, if_pos hq, List.getElem?_drop, ← Array.getElem?_toList]
  rw [hcs] at hc
  refine ⟨?_, ?_, ?_, ?_⟩
  · rw [← hs]; exact hc 0 (by omega)
  · rw [t1]; exact hc 1 (by omega)
  · rw [t2]; exact hc 2 (by omega)
  · rw [t3]; exact hc 3 (by omega)
def textSz (ts : List Tok) : Nat := (ts.map fun t => t.text.size).sum
theorem textSz_mem {ts : List Tok} {t : Tok} (h : t ∈ ts) : t.text.size ≤ textSz ts := by
  induction ts with
  | nil => cases h
  | cons x ts ih =>
    unfold textSz at *
    rw [List.map_cons, List.sum_cons]
    rcases List.mem_cons.1 h with rfl | h
    · omega
    · have := ih h; omega
/-- Tokens that came in. -/
theorem toks_in {H : Type} {enc : TypeId × Value → H} {W : World} {fuel : Nat} {v : Value} {x : DataW H × List MemPlace}
    (h : DataW.trod enc Tryd.prog W 0 (fun _ => true) true fuel 31 [v] = some x) :
    ∃ (a0 : Option Addr) (ts : List Tok) (cap : Nat), v = .slice a0 ts.length cap ∧ ts.length ≤ cap ∧ ToksAt W a0 ts ∧ textSz ts + ts.length ≤ Rows.uptoBulk x.1 := by
  rcases open_slice Tryd.underlying31 h with ⟨hcs, _⟩ | ⟨a, len, cap', m, n, D, Pl, hcs, _, hl, hm, hmm, hx, hel⟩
  · simp at hcs
    subst hcs
    exact ⟨none, [], 0, rfl, Nat.le_refl _, fun i s hi => by simp at hi, by simp [textSz]⟩
  · simp at hcs
    subst hcs
    simp only [if_true] at hmm
    have key : ∀ i, i < len → ∃ q : Tok, (∀ j, j < 4 → W.cell? (a.add (i * 4 + j)) = (tokCells q)[j]?) ∧ Rows.uptoBulk (D i) = q.text.size + 6 := by
      intro i hi
      obtain ⟨cs', hc, ht⟩ := hel i (by omega)
      rw [cells34] at hc
      obtain ⟨q, e1, e2⟩ := tok_open ht
      obtain ⟨_, _, hcell⟩ := World.cells?_some hc
      refine ⟨q, fun j hj => ?_, by have e2' : D i = _ := e2; rw [e2']; exact tok_bulk q⟩
      have h0 := hcell j hj
      rw [add_add, e1] at h0
      exact h0
    have inh : Inhabited Tok := ⟨⟨⟨#[]⟩, 0, 0, 0⟩⟩
    obtain ⟨F, hF⟩ := choose_lt key
    refine ⟨some a, (List.range len).map F, cap', by simp, by simpa using hl, fun i s hi => ?_, ?_⟩
    · have hlt : i < len := by
        have := (List.getElem?_eq_some_iff.1 hi).1
        rwa [List.length_map, List.length_range] at this
      obtain ⟨h0, _⟩ := hF i hlt
      obtain ⟨b, off, spot⟩ := a
      have hspot : spot = none := by
        have := World.cell?_spot (((hF 0 (by omega)).1 0 (by omega)).trans (rfl : _ = some (Value.string (F 0).text)))
        simpa [Addr.add] using this
      subst hspot
      rw [List.getElem?_map, List.getElem?_range hlt] at hi
      cases hi
      refine ⟨b, off, rfl, ?_, ?_, ?_, ?_⟩
      · have := h0 0 (by omega); rw [add_plain] at this; exact this
      · have := h0 1 (by omega); rw [add_plain] at this; exact this
      · have := h0 2 (by omega); rw [add_plain] at this; exact this
      · have := h0 3 (by omega); rw [add_plain] at this; exact this
    · have h1 : ∀ L : List Nat, (∀ i ∈ L, i < len) → textSz (L.map F) + L.length ≤ Rows.uptoBulkAll (L.map D) := by
        intro L
        induction L with
        | nil => intro _; simp [textSz, Rows.uptoBulkAll]
        | cons i r ih =>
          intro h
          have h2 := ih fun j hj => h j (by simp [hj])
          have h3 := (hF i (h i (by simp))).2
          simp only [List.map_cons, Rows.uptoBulkAll, List.length_cons]
          unfold textSz at *
          simp only [List.map_cons, List.sum_cons]
          omega
      have h2 := h1 (List.range len) fun i hi => List.mem_range.1 hi
      rw [hx]
      simp only [Rows.uptoBulk, List.length_map, List.length_range] at *
      omega
def stSz (s : Stm) : Nat := s.label.text.size + (textSz s.words + s.words.length) + (textSz s.proof + s.proof.length)
/-- A statement that came in. -/
theorem stm_in {H : Type} {enc : TypeId × Value → H} {W : World} {fuel : Nat} {cs : List Value} {x : DataW H × List MemPlace}
    (h : DataW.trod enc Tryd.prog W 0 (fun _ => true) true fuel 36 cs = some x) :
    ∃ (s : Stm) (aw : Option Addr) (cw : Nat) (ap : Option Addr) (cp : Nat), cs = (stmC s (.slice aw s.words.length cw) (.slice ap s.proof.length cp)).toList ∧ s.words.length ≤ cw ∧ s.proof.length ≤ cp ∧ ToksAt W aw s.words ∧ ToksAt W ap s.proof ∧ stSz s + 1 ≤ Rows.uptoBulk x.1 := by
  obtain ⟨xs, n, _, hx, hl, hlen, hf⟩ := DataW.trod_struct Tryd.underlying36 h
  rw [cells36] at hl
  obtain ⟨a0, a1, a2, a3, a4, a5, a6, a7, a8, a9, b0, b1, b2, b3, b4, b5, rfl⟩ := sixteen hl
  match xs, hlen with
  | [y0, y1, y2, y3, y4, y5, y6], _ =>
    have h0 : DataW.trod enc Tryd.prog W 0 (fun _ => true) true n 3 (List.take (Tryd.prog.cellsOf 3) (List.drop 0 [a0, a1, a2, a3, a4, a5, a6, a7, a8, a9, b0, b1, b2, b3, b4, b5])) = some y0 := hf 0 _ rfl
    have h1 : DataW.trod enc Tryd.prog W 0 (fun _ => true) true n 34 (List.take (Tryd.prog.cellsOf 34) (List.drop 1 [a0, a1, a2, a3, a4, a5, a6, a7, a8, a9, b0, b1, b2, b3, b4, b5])) = some y1 := hf 1 _ rfl
    have h2 : DataW.trod enc Tryd.prog W 0 (fun _ => true) true n 34 (List.take (Tryd.prog.cellsOf 34) (List.drop 5 [a0, a1, a2, a3, a4, a5, a6, a7, a8, a9, b0, b1, b2, b3, b4, b5])) = some y2 := hf 2 _ rfl
    have h3 : DataW.trod enc Tryd.prog W 0 (fun _ => true) true n 4 (List.take (Tryd.prog.cellsOf 4) (List.drop 9 [a0, a1, a2, a3, a4, a5, a6, a7, a8, a9, b0, b1, b2, b3, b4, b5])) = some y3 := hf 3 _ rfl
    have h4 : DataW.trod enc Tryd.prog W 0 (fun _ => true) true n 31 (List.take (Tryd.prog.cellsOf 31) (List.drop 10 [a0, a1, a2, a3, a4, a5, a6, a7, a8, a9, b0, b1, b2, b3, b4, b5])) = some y4 := hf 4 _ rfl
    have h5 : DataW.trod enc Tryd.prog W 0 (fun _ => true) true n 31 (List.take (Tryd.prog.cellsOf 31) (List.drop 11 [a0, a1, a2, a3, a4, a5, a6, a7, a8, a9, b0, b1, b2, b3, b4, b5])) = some y5 := hf 5 _ rfl
    have h6 : DataW.trod enc Tryd.prog W 0 (fun _ => true) true n 34 (List.take (Tryd.prog.cellsOf 34) (List.drop 12 [a0, a1, a2, a3, a4, a5, a6, a7, a8, a9, b0, b1, b2, b3, b4, b5])) = some y6 := hf 6 _ rfl
    rw [cells3] at h0
    rw [cells34] at h1 h2 h6
    rw [cells4] at h3
    rw [cells31] at h4 h5
    obtain ⟨k, e0, r0, _⟩ := DataW.trod_int Tryd.underlying3 h0
    obtain ⟨lb, e1, r1⟩ := tok_open h1
    obtain ⟨ky, e2, _⟩ := tok_open h2
    obtain ⟨pr, e3, _⟩ := DataW.trod_bool Tryd.underlying4 h3
    obtain ⟨aw, ws, cw, e4, l4, t4, z4⟩ := toks_in h4
    obtain ⟨ap, ps, cp, e5, l5, t5, z5⟩ := toks_in h5
    obtain ⟨fn, e6, _⟩ := tok_open h6
    simp [tokCells] at e0 e1 e2 e3 e4 e5 e6
    obtain ⟨rfl, rfl, rfl, rfl⟩ := e1
    obtain ⟨rfl, rfl, rfl, rfl⟩ := e2
    obtain ⟨rfl, rfl, rfl, rfl⟩ := e6
    subst e0 e3 e4 e5
    refine ⟨⟨k, lb, ky, pr, ws, ps, fn⟩, aw, cw, ap, cp, rfl, l4, l5, t4, t5, ?_⟩
    have hxx : x.1 = .agg [y0.1, y1.1, y2.1, y3.1, y4.1, y5.1, y6.1] := by rw [hx]; rfl
    have hb1 : Rows.uptoBulk y1.1 = lb.text.size + 6 := by rw [r1]; exact tok_bulk lb
    rw [hxx]
    simp only [Rows.uptoBulk, Rows.uptoBulkAll]
    unfold stSz
    dsimp only
    omega
def allSz (l : List Stm) : Nat := (l.map stSz).sum
/-- Statements that came in. -/
theorem stms_in {H : Type} {enc : TypeId × Value → H} {W : World} {fuel : Nat} {a0 : Option Addr} {len cap : Nat} {x : DataW H × List MemPlace}
    (h : DataW.trod enc Tryd.prog W 0 (fun _ => true) true fuel 22 [.slice a0 len cap] = some x) :
    ∃ l : List Stm, l.length = len ∧ StmtsAt W a0 l ∧ allSz l + len ≤ Rows.uptoBulk x.1 := by
  rcases open_slice Tryd.underlying22 h with ⟨hcs, _⟩ | ⟨a, len', cap', m, n, D, Pl, hcs, _, hl, hm, hmm, hx, hel⟩
  · simp at hcs
    obtain ⟨rfl, rfl, rfl⟩ := hcs
    exact ⟨[], rfl, fun i s hi => by simp at hi, by simp [allSz]⟩
  · simp at hcs
    obtain ⟨rfl, rfl, rfl⟩ := hcs
    simp only [if_true] at hmm
    have key : ∀ i, i < len → ∃ q : Stm × Option Addr × Nat × Option Addr × Nat, (∀ j, j < 16 → W.cell? (a.add (i * 16 + j)) = (stmC q.1 (.slice q.2.1 q.1.words.length q.2.2.1) (.slice q.2.2.2.1 q.1.proof.length q.2.2.2.2))[j]?) ∧ q.1.words.length ≤ q.2.2.1 ∧ q.1.proof.length ≤ q.2.2.2.2 ∧ ToksAt W q.2.1 q.1.words ∧ ToksAt W q.2.2.2.1 q.1.proof ∧ stSz q.1 + 1 ≤ Rows.uptoBulk (D i) := by
      intro i hi
      obtain ⟨cs', hc, ht⟩ := hel i (by omega)
      rw [cells36] at hc
      obtain ⟨s, aw, cw, ap, cp, e1, l1, l2, t1, t2, z⟩ := stm_in ht
      obtain ⟨_, _, hcell⟩ := World.cells?_some hc
      refine ⟨⟨s, aw, cw, ap, cp⟩, fun j hj => ?_, l1, l2, t1, t2, z⟩
      have h0 := hcell j hj
      rw [add_add, e1] at h0
      rw [h0, Array.getElem?_toList]
    have inh : Inhabited (Stm × Option Addr × Nat × Option Addr × Nat) := ⟨⟨⟨0, ⟨⟨#[]⟩, 0, 0, 0⟩, ⟨⟨#[]⟩, 0, 0, 0⟩, false, [], [], ⟨⟨#[]⟩, 0, 0, 0⟩⟩, none, 0, none, 0⟩⟩
    obtain ⟨F, hF⟩ := choose_lt key
    refine ⟨(List.range len).map fun i => (F i).1, by simp, fun i s hi => ?_, ?_⟩
    · have hlt : i < len := by
        have := (List.getElem?_eq_some_iff.1 hi).1
        rwa [List.length_map, List.length_range] at this
      obtain ⟨h0, l1, l2, t1, t2, _⟩ := hF i hlt
      obtain ⟨b, off, spot⟩ := a
      have hspot : spot = none := by
        have := World.cell?_spot (((hF 0 (by omega)).1 0 (by omega)).trans (rfl : _ = some (Value.int .i64 (F 0).1.kind)))
        simpa [Addr.add] using this
      subst hspot
      rw [List.getElem?_map, List.getElem?_range hlt] at hi
      cases hi
      refine ⟨b, off, (F i).2.1, (F i).2.2.1, (F i).2.2.2.1, (F i).2.2.2.2, rfl, fun j u hu => ?_, t1, t2, l1, l2⟩
      have hj : j < 16 := (Array.getElem?_eq_some_iff.1 hu).1
      have := h0 j hj
      rw [hu, Addr.add_lit] at this
      rw [Nat.add_assoc]
      exact this
    · have h1 : ∀ L : List Nat, (∀ i ∈ L, i < len) → allSz (L.map fun i => (F i).1) + L.length ≤ Rows.uptoBulkAll (L.map D) := by
        intro L
        induction L with
        | nil => intro _; simp [allSz, Rows.uptoBulkAll]
        | cons i r ih =>
          intro h
          have h2 := ih fun j hj => h j (by simp [hj])
          have h3 := (hF i (h i (by simp))).2.2.2.2.2
          simp only [List.map_cons, Rows.uptoBulkAll, List.length_cons]
          unfold allSz at *
          simp only [List.map_cons, List.sum_cons]
          omega
      have h2 := h1 (List.range len) fun i hi => List.mem_range.1 hi
      rw [hx]
      simp only [Rows.uptoBulk, List.length_range] at *
      omega
theorem sz_mem {l : List Stm} {s : Stm} (h : s ∈ l) : stSz s ≤ allSz l := by
  induction l with
  | nil => cases h
  | cons x l ih =>
    unfold allSz at *
    rw [List.map_cons, List.sum_cons]
    rcases List.mem_cons.1 h with rfl | h
    · omega
    · have := ih h; omega
theorem sm_of {s : Stm} (h : stSz s ≤ 1048576) : StmSm s := by
  unfold stSz at h
  exact ⟨by omega, by omega, fun t ht => by have := textSz_mem ht; omega, fun t ht => by have := textSz_mem ht; omega, by omega⟩
theorem flat_len (ts : List Tok) : ((textsL ts).flatMap fun y => 32 :: y.data.toList).length = textSz ts + ts.length := by
  induction ts with
  | nil => rfl
  | cons t ts ih =>
    unfold textsL textSz at *
    simp only [List.map_cons, List.flatMap_cons, List.length_append, List.length_cons, List.sum_cons, ih, size_list]
    omega
theorem kw_two (k : Nat) : (kwB k).size ≤ 2 := by
  rcases Nat.lt_or_ge k 10 with h | h
  · exact (show ∀ k, k < 10 → (kwB k).size ≤ 2 by decide) k h
  · have : shapeRow[k]? = none := List.getElem?_eq_none (by simpa [shapeRow] using h)
    unfold kwB
    rw [List.getD_eq_getElem?_getD, this]
    decide
theorem jn_le (l : List ByteArray) : (jn l).length ≤ (l.flatMap fun y => 32 :: y.data.toList).length := by
  cases l with
  | nil => simp [jn]
  | cons x r =>
    simp only [jn, List.flatMap_cons, List.length_append, List.length_cons]
    omega
theorem line_sz (s : Stm) : (jn (lineWS s)).length ≤ stSz s + 12 ∧ (lineWS s).length ≤ stSz s + 4 := by
  obtain ⟨k, lb, ky, pr, ws, ps, fn⟩ := s
  unfold lineWS
  dsimp only
  obtain ⟨kk, hkk⟩ : ∃ kk, k.toNat = kk := ⟨_, rfl⟩
  rw [hkk]
  have h1 := jn_le (lineW kk lb ws ps)
  have hw := flat_len ws
  have hp := flat_len ps
  have hk := kw_two kk
  have hs1 : ∀ x : ByteArray, (32 :: x.data.toList).length = x.size + 1 := fun x => by rw [List.length_cons, size_list]
  have e1 : proofS.size = 2 := rfl
  have e2 : endS.size = 2 := rfl
  have h2 : ((lineW kk lb ws ps).flatMap fun y => 32 :: y.data.toList).length ≤ (lb.text.size + 1) + ((kwB kk).size + 1) + (textSz ws + ws.length) + (3 + (textSz ps + ps.length)) + 3 := by
    unfold lineW
    rw [List.flatMap_append, List.flatMap_append, List.flatMap_append, List.flatMap_append, List.length_append, List.length_append, List.length_append, List.length_append, hw]
    have q1 : ((if labB kk = true then [lb.text] else []).flatMap fun y => 32 :: y.data.toList).length ≤ lb.text.size + 1 := by split <;> simp
    have q2 : (([kwB kk]).flatMap fun y => 32 :: y.data.toList).length = (kwB kk).size + 1 := by simp
    have q3 : ((if kk = 7 then proofS :: textsL ps else []).flatMap fun y => 32 :: y.data.toList).length ≤ 3 + (textSz ps + ps.length) := by
      split
      · rw [List.flatMap_cons, List.length_append, hp, hs1, e1]
        omega
      · simp
    have q4 : ((if brkB kk = true then [] else [endS]).flatMap fun y => 32 :: y.data.toList).length ≤ 3 := by
      split
      · simp
      · rw [List.flatMap_cons, List.length_append, hs1, e2]; simp
    omega
  have h3 : (lineW kk lb ws ps).length ≤ ws.length + ps.length + 4 := by
    unfold lineW
    rw [List.length_append, List.length_append, List.length_append, List.length_append, textsL_len]
    have q1 : (if labB kk = true then [lb.text] else []).length ≤ 1 := by split <;> simp
    have q3 : (if kk = 7 then proofS :: textsL ps else []).length ≤ ps.length + 1 := by split <;> simp [textsL_len]
    have q4 : (if brkB kk = true then [] else [endS]).length ≤ 1 := by split <;> simp
    simp only [List.length_cons, List.length_nil]
    omega
  unfold stSz
  dsimp only
  omega
theorem lines_sz (l : List Stm) : (rbytes l).length ≤ allSz l + 13 * l.length ∧ rcount l ≤ allSz l + 4 * l.length := by
  induction l with
  | nil => simp [rbytes, rcount, allSz]
  | cons s l ih =>
    have h := line_sz s
    unfold rbytes rcount allSz at *
    simp only [List.flatMap_cons, List.map_cons, List.sum_cons, List.length_append, List.length_cons, List.length_nil]
    omega
end Go.Proofs.YtipfhfeaalbmcaaDoor
