/- What came in: a token, a slice of tokens; what the law's variable holds. -/
import Derived.Test.YtffchjigpppoaaaDoorSmall
import Derived.Lib.LaidU8
import Derived.Test.YtffchjigpppoaaaDoorRoom
import Derived.ChangeSame
import Derived.Deep.Slices
namespace Go.Proofs.YtffchjigpppoaaaDoor
open Go.ChangeShapes Go.WideShapes Go.ChangeAt Go.RowKit Go.Deep

theorem cells41 : Tryd.prog.cellsOf 41 = 4 := by kernel_rfl
theorem cells39 : Tryd.prog.cellsOf 39 = 3 := by kernel_rfl
theorem four {cs : List Value} (h : cs.length = 4) : ∃ a b c d, cs = [a, b, c, d] := by
  match cs, h with
  | [a, b, c, d], _ => exact ⟨a, b, c, d, rfl⟩
theorem tok_open {H : Type} {enc : TypeId × Value → H} {W : World} {fuel base : Nat} {sp : Nat → Bool} {held : Bool} {cs : List Value} {x : DataW H × List MemPlace}
    (h : DataW.trod enc Tryd.prog W base sp held fuel 41 cs = some x) : ∃ t : Tok, cs = tokCells t ∧ x.1 = .agg [.lit (.string t.text.data.toList), .agg [.lit (.int .i64 t.off), .lit (.int .i64 t.line), .lit (.int .i64 t.col)]] := by
  obtain ⟨xs, n, _, hx, hl, hlen, hf⟩ := DataW.trod_struct Tryd.underlying41 h
  rw [cells41] at hl
  obtain ⟨c0, c1, c2, c3, rfl⟩ := four hl
  match xs, hlen with
  | [y0, y1], _ =>
    have h0 : DataW.trod enc Tryd.prog W base sp held n 9 (List.take (Tryd.prog.cellsOf 9) (List.drop 0 [c0, c1, c2, c3])) = some y0 := hf 0 _ rfl
    have h1 : DataW.trod enc Tryd.prog W base sp held n 39 (List.take (Tryd.prog.cellsOf 39) (List.drop 1 [c0, c1, c2, c3])) = some y1 := hf 1 _ rfl
    rw [cells9] at h0
    rw [cells39] at h1
    obtain ⟨s, e0, r0, _⟩ := DataW.trod_string Tryd.underlying9 h0
    obtain ⟨zs, k, _, hz, _, hzl, hg⟩ := DataW.trod_struct Tryd.underlying39 h1
    match zs, hzl with
    | [z0, z1, z2], _ =>
      have g0 : DataW.trod enc Tryd.prog W base sp held k 3 (List.take (Tryd.prog.cellsOf 3) (List.drop 0 [c1, c2, c3])) = some z0 := hg 0 _ rfl
      have g1 : DataW.trod enc Tryd.prog W base sp held k 3 (List.take (Tryd.prog.cellsOf 3) (List.drop 1 [c1, c2, c3])) = some z1 := hg 1 _ rfl
      have g2 : DataW.trod enc Tryd.prog W base sp held k 3 (List.take (Tryd.prog.cellsOf 3) (List.drop 2 [c1, c2, c3])) = some z2 := hg 2 _ rfl
      rw [cells3] at g0 g1 g2
      obtain ⟨i0, e1, r1, _⟩ := DataW.trod_int Tryd.underlying3 g0
      obtain ⟨i1, e2, r2, _⟩ := DataW.trod_int Tryd.underlying3 g1
      obtain ⟨i2, e3, r3, _⟩ := DataW.trod_int Tryd.underlying3 g2
      simp at e0 e1 e2 e3
      subst e0 e1 e2 e3
      refine ⟨⟨s, i0, i1, i2⟩, rfl, ?_⟩
      rw [hx]
      simp only [List.map_cons, List.map_nil, r0, hz, r1, r2, r3]
/-- What the law's variable holds. -/
theorem room_of {W : World} (h : Lib.VarReads Tryd.prog W "lemma/lemmalaw10.room" Rows.laid_lemma_lemmalaw10_room) : RoomAt W := by
  obtain ⟨g, t, cs, fuel, p, hg, hty, hvar, hd⟩ := h
  obtain rfl : g = 0 := Option.some.inj (hg.symm.trans (by kernel_rfl))
  obtain rfl : t = 41 := Option.some.inj (hty.symm.trans (by kernel_rfl))
  obtain ⟨tk, e1, e2⟩ := tok_open hd
  have e3 : (DataW.agg [.lit (.string [114, 111, 111, 109]), .agg [.lit (.int .i64 0), .lit (.int .i64 0), .lit (.int .i64 0)]] : DataW Unit) = .agg [.lit (.string tk.text.data.toList), .agg [.lit (.int .i64 tk.off), .lit (.int .i64 tk.line), .lit (.int .i64 tk.col)]] := e2
  simp only [DataW.agg.injEq, List.cons.injEq, DataW.lit.injEq, Lit.string.injEq, Lit.int.injEq, and_true, true_and] at e3
  obtain ⟨t0, t1, t2, t3⟩ := e3
  have ht : tk.text = roomS := by
    obtain ⟨⟨d⟩, _, _, _⟩ := tk
    simp only at t0
    show (⟨d⟩ : ByteArray) = ⟨#[114, 111, 111, 109]⟩
    have h : d = #[114, 111, 111, 109] := Array.toList_inj.1 t0.symm
    rw [h]
  have hcell : ∀ i, W.cell? ⟨0, i, none⟩ = (tokCells tk)[i]? := fun i => by
    rw [World.var?_cell hg hvar i, ← Array.getElem?_toList, e1]
  refine ⟨?_, ?_, ?_, ?_⟩
  · rw [hcell 0, ← ht]; rfl
  · rw [hcell 1, t1]; rfl
  · rw [hcell 2, t2]; rfl
  · rw [hcell 3, t3]; rfl
set_option maxRecDepth 100000 in
/-- Tokens that came in, of bulk at most B. -/
theorem toks_small {H : Type} {enc : TypeId × Value → H} {W : World} {fuel : Nat} {a0 : Option Addr} {len cap : Nat} {x : DataW H × List MemPlace} {B : Nat}
    (h : DataW.trod enc Tryd.prog W 0 (fun _ => true) true fuel 35 [.slice a0 len cap] = some x) (hB : Rows.uptoBulk x.1 ≤ B) :
    len ≤ B ∧ len ≤ cap ∧ ∃ ts : List Tok, ts.length = len ∧ ToksAt W a0 ts ∧ (allBytes ts).length ≤ B := by
  rcases open_slice Tryd.underlying35 h with ⟨hcs, _⟩ | ⟨a, len', cap', m, n, D, Pl, hcs, _, hl, hm, hmm, hx, hel⟩
  · simp at hcs
    obtain ⟨rfl, rfl, rfl⟩ := hcs
    exact ⟨Nat.zero_le _, Nat.le_refl _, [], rfl, fun i s hi => by simp at hi, by simp [allBytes]⟩
  · simp at hcs
    obtain ⟨rfl, rfl, rfl⟩ := hcs
    simp only [if_true] at hmm
    rw [hx] at hB
    simp only [Rows.uptoBulk] at hB
    have hlen := bulkAll_len ((List.range len).map D)
    simp only [List.length_map, List.length_range] at hlen
    refine ⟨by omega, hl, ?_⟩
    have key : ∀ i, i < len → ∃ q : Tok, (∀ j, j < 4 → W.cell? (a.add (i * 4 + j)) = (tokCells q)[j]?) ∧ D i = .agg [.lit (.string q.text.data.toList), .agg [.lit (.int .i64 q.off), .lit (.int .i64 q.line), .lit (.int .i64 q.col)]] := by
      intro i hi
      obtain ⟨cs', hc, ht⟩ := hel i (by omega)
      rw [cells41] at hc
      obtain ⟨q, e1, e2⟩ := tok_open ht
      obtain ⟨_, _, hcell⟩ := World.cells?_some hc
      refine ⟨q, fun j hj => ?_, e2⟩
      have h0 := hcell j hj
      rw [add_add, e1] at h0
      exact h0
    have inh : Inhabited Tok := ⟨⟨⟨#[]⟩, 0, 0, 0⟩⟩
    obtain ⟨F, hF⟩ := choose_lt key
    refine ⟨(List.range len).map F, by simp, fun i s hi => ?_, ?_⟩
    · have hlt : i < len := by
        have := (List.getElem?_eq_some_iff.1 hi).1
        rwa [List.length_map, List.length_range] at this
      obtain ⟨h0, _⟩ := hF i hlt
      obtain ⟨b, off, spot⟩ := a
      have hspot : spot = none := by
        have := World.cell?_spot (((hF 0 (by omega)).1 0 (by omega)).trans (rfl : _ = some (Value.string (F 0).text)))
        simpa [Addr.add] using this
      subst hspot
      rw [List.getElem?_map, List.getElem?_range hlt] at hi
      cases hi
      refine ⟨b, off, rfl, ?_, ?_, ?_, ?_⟩
      · have := h0 0 (by omega); rw [add_plain] at this; exact this
      · have := h0 1 (by omega); rw [add_plain] at this; exact this
      · have := h0 2 (by omega); rw [add_plain] at this; exact this
      · have := h0 3 (by omega); rw [add_plain] at this; exact this
    · have h1 : ∀ L : List Nat, (∀ i ∈ L, i < len) → (allBytes (L.map F)).length ≤ Rows.uptoBulkAll (L.map D) := by
        intro L
        induction L with
        | nil => intro _; simp [allBytes]
        | cons i r ih =>
          intro h
          have h2 := ih fun j hj => h j (by simp [hj])
          have e : allBytes (((i :: r).map F)) = (F i).bytes ++ allBytes (r.map F) := rfl
          rw [e, List.length_append]
          simp only [List.map_cons, Rows.uptoBulkAll]
          rw [(hF i (h i (by simp))).2]
          simp only [Rows.uptoBulk, Rows.uptoBulkAll]
          have hb : (F i).bytes.length = (F i).text.data.toList.length := rfl
          omega
      have h2 := h1 (List.range len) fun i hi => List.mem_range.1 hi
      omega
end Go.Proofs.YtffchjigpppoaaaDoor
