/- What the document's reader holds: the statements that are whole, the label that waits, the one that is open. -/
import Derived.Test.YtipfhfeaalbmcabDoorRTold
import Derived.Test.YtipfhfeaalbmcabDoorRfS
namespace Go.Proofs.YtipfhfeaalbmcabDoor
open Go.RowKit

def refC (vL : Value) (lb : Tok) (wts opn : Bool) (p : Itm) : Array Value := #[vL, .string lb.text, .int .i64 lb.off, .int .i64 lb.line, .int .i64 lb.col, .bool wts, .bool opn, .int .i64 p.s.kind, .string p.s.label.text, .int .i64 p.s.label.off, .int .i64 p.s.label.line, .int .i64 p.s.label.col, .string p.s.key.text, .int .i64 p.s.key.off, .int .i64 p.s.key.line, .int .i64 p.s.key.col, .bool p.s.proving, p.vw, p.vp, .string p.s.fin.text, .int .i64 p.s.fin.off, .int .i64 p.s.fin.line, .int .i64 p.s.fin.col]
def zStm : Stm := ⟨0, zTok, zTok, false, [], [], zTok⟩
def zItm : Itm := ⟨zStm, 0, .slice none 0 0, .slice none 0 0⟩
/-- The rows of one that is whole. -/
structure ItR (W : World) (H : Nat → Prop) (x : Itm) : Prop where
  w : M.RowIn W H x.vw x.s.words.length (rowT x.s.words)
  p : M.RowIn W H x.vp x.s.proof.length (rowT x.s.proof)
theorem ItR.ch {W W' : World} {H H' X : Nat → Prop} {x : Itm} (h : ItR W H x) (hc : M.Ch X W W') (hx : ∀ g, H g → ¬ X g) (hp : ∀ g, H g → H' g) : ItR W' H' x := ⟨h.w.ch hc hx hp, h.p.ch hc hx hp⟩
structure RfSt (N Q : Nat) (H : Nat → Prop) (W : World) (vL : Value) (fin : List Itm) (lb : Tok) (wts opn : Bool) (p : Itm) : Prop where
  box : W.heap[Q]? = some (.cells (refC vL lb wts opn p) 40 (0, 0))
  oL : W.ownsRow N 38 16 vL fin.length (rowS fin)
  ow : W.ownsRow N 36 4 p.vw p.s.words.length (rowT p.s.words)
  op : W.ownsRow N 36 4 p.vp p.s.proof.length (rowT p.s.proof)
  ge : N ≤ Q
  qL : vL.ownBlock ≠ some Q
  qw : p.vw.ownBlock ≠ some Q
  qp : p.vp.ownBlock ≠ some Q
  Lw : ∀ b, vL.ownBlock = some b → p.vw.ownBlock ≠ some b
  Lp : ∀ b, vL.ownBlock = some b → p.vp.ownBlock ≠ some b
  wp : ∀ b, p.vw.ownBlock = some b → p.vp.ownBlock ≠ some b
  held : ∀ g, H g → N ≤ g ∧ g < W.heap.size ∧ g ≠ Q ∧ vL.ownBlock ≠ some g ∧ p.vw.ownBlock ≠ some g ∧ p.vp.ownBlock ≠ some g
  its : ∀ x ∈ fin, ItR W H x
section
variable {N Q : Nat} {H : Nat → Prop} {W W' : World} {vL : Value} {fin : List Itm} {lb : Tok} {wts opn : Bool} {p : Itm}
theorem RfSt.lt (h : RfSt N Q H W vL fin lb wts opn p) : Q < W.heap.size := (Array.getElem?_eq_some_iff.1 h.box).1
theorem RfSt.under (h : RfSt N Q H W vL fin lb wts opn p) (hb : Below W.heap.size W W') : RfSt N Q H W' vL fin lb wts opn p :=
  have hc : M.Ch (fun _ => False) W W' := M.Ch.of_below hb
  ⟨(hb.block Q h.lt).trans h.box, M.owns_ch h.oL hc fun _ _ e => e, M.owns_ch h.ow hc fun _ _ e => e, M.owns_ch h.op hc fun _ _ e => e, h.ge, h.qL, h.qw, h.qp, h.Lw, h.Lp, h.wp, fun g hg => ⟨(h.held g hg).1, Nat.lt_of_lt_of_le (h.held g hg).2.1 hb.size, (h.held g hg).2.2⟩, fun x hx => (h.its x hx).ch hc (fun _ _ e => e) fun _ e => e⟩
/-- The reader's own cells turn, the rows stay. -/
theorem RfSt.cells {lb' : Tok} {wts' opn' : Bool} {s' : Stm} {g' : Nat} (h : RfSt N Q H W vL fin lb wts opn p) (hc : M.Ch (fun b => b = Q) W W') (hb : W'.heap[Q]? = some (.cells (refC vL lb' wts' opn' ⟨s', g', p.vw, p.vp⟩) 40 (0, 0))) (hw : s'.words = p.s.words) (hp : s'.proof = p.s.proof) : RfSt N Q H W' vL fin lb' wts' opn' ⟨s', g', p.vw, p.vp⟩ :=
  have ne : ∀ {v : Value}, v.ownBlock ≠ some Q → ∀ b, v.ownBlock = some b → ¬ b = Q := fun hv b e e2 => hv (by rw [← e2]; exact e)
  ⟨hb, M.owns_ch h.oL hc (ne h.qL), by show W'.ownsRow N 36 4 p.vw s'.words.length (rowT s'.words); rw [hw]; exact M.owns_ch h.ow hc (ne h.qw), by show W'.ownsRow N 36 4 p.vp s'.proof.length (rowT s'.proof); rw [hp]; exact M.owns_ch h.op hc (ne h.qp), h.ge, h.qL, h.qw, h.qp, h.Lw, h.Lp, h.wp, fun g hg => ⟨(h.held g hg).1, Nat.lt_of_lt_of_le (h.held g hg).2.1 hc.size, (h.held g hg).2.2⟩, fun x hx => (h.its x hx).ch hc (fun g hg e => (h.held g hg).2.2.1 e) fun _ e => e⟩
/-- The open one takes a word. -/
theorem RfSt.word {tk : Tok} (h : RfSt N Q H W vL fin lb wts opn p) (ha : AppPost W W' N Q 17 (refC vL lb wts opn p) 40 p.vw p.s.words tk) : ∃ p', p'.s = { p.s with words := p.s.words ++ [tk] } ∧ RfSt N Q H W' vL fin lb wts opn p' ∧ M.Ch (fun b => b = Q ∨ p.vw.ownBlock = some b) W W' := by
  obtain ⟨v', h1, h2, h3, h4⟩ := ha
  have new : ∀ b, v'.ownBlock = some b → (∀ c, p.vw.ownBlock = some c → c ≠ b) → W.heap.size ≤ b := fun b e hn => (h2 b e).elim (fun e => absurd rfl (hn b e)) id
  have far : ∀ {v : Value} {e n sz : Nat} {xs : List Value}, W.ownsRow N e sz v n xs → v.ownBlock ≠ some Q → (∀ b, v.ownBlock = some b → p.vw.ownBlock ≠ some b) → W'.ownsRow N e sz v n xs ∧ ∀ b, v.ownBlock = some b → v'.ownBlock ≠ some b := fun ho hq ha => by
    refine ⟨M.owns_ch ho h3 fun b e e2 => e2.elim (fun e2 => hq (by rw [← e2]; exact e)) fun e2 => ha b e e2, fun b e e2 => ?_⟩
    rcases h2 b e2 with e2 | e2
    · exact ha b e e2
    · have := M.own_lt ho b e; omega
  obtain ⟨a1, a2⟩ := far h.oL h.qL h.Lw
  obtain ⟨b1, b2⟩ := far h.op h.qp fun b e e2 => h.wp b e2 e
  refine ⟨⟨{ p.s with words := p.s.words ++ [tk] }, p.g, v', p.vp⟩, rfl, ⟨h4, a1, by simpa using h1, b1, h.ge, h.qL, fun e => ?_, h.qp, a2, h.Lp, fun b e e2 => b2 b e2 e, fun g hg => ?_, fun x hx => (h.its x hx).ch h3 (fun g hg e => ?_) fun _ e => e⟩, h3⟩
  · rcases h2 _ e with e | e
    · exact h.qw e
    · exact absurd h.lt (Nat.not_lt.2 e)
  · obtain ⟨c1, c2, c3, c4, c5, c6⟩ := h.held g hg
    refine ⟨c1, Nat.lt_of_lt_of_le c2 h3.size, c3, c4, fun e => ?_, c6⟩
    rcases h2 _ e with e | e
    · exact c5 e
    · omega
  · exact e.elim (h.held g hg).2.2.1 (h.held g hg).2.2.2.2.1
theorem RfSt.more {tk : Tok} (h : RfSt N Q H W vL fin lb wts opn p) (ha : AppPost W W' N Q 18 (refC vL lb wts opn p) 40 p.vp p.s.proof tk) : ∃ p', p'.s = { p.s with proof := p.s.proof ++ [tk] } ∧ RfSt N Q H W' vL fin lb wts opn p' ∧ M.Ch (fun b => b = Q ∨ p.vp.ownBlock = some b) W W' := by
  obtain ⟨v', h1, h2, h3, h4⟩ := ha
  have far : ∀ {v : Value} {e n sz : Nat} {xs : List Value}, W.ownsRow N e sz v n xs → v.ownBlock ≠ some Q → (∀ b, v.ownBlock = some b → p.vp.ownBlock ≠ some b) → W'.ownsRow N e sz v n xs ∧ ∀ b, v.ownBlock = some b → v'.ownBlock ≠ some b := fun ho hq ha => by
    refine ⟨M.owns_ch ho h3 fun b e e2 => e2.elim (fun e2 => hq (by rw [← e2]; exact e)) fun e2 => ha b e e2, fun b e e2 => ?_⟩
    rcases h2 b e2 with e2 | e2
    · exact ha b e e2
    · have := M.own_lt ho b e; omega
  obtain ⟨a1, a2⟩ := far h.oL h.qL h.Lp
  obtain ⟨b1, b2⟩ := far h.ow h.qw h.wp
  refine ⟨⟨{ p.s with proof := p.s.proof ++ [tk] }, p.g, p.vw, v'⟩, rfl, ⟨h4, a1, b1, by simpa using h1, h.ge, h.qL, h.qw, fun e => ?_, h.Lw, a2, b2, fun g hg => ?_, fun x hx => (h.its x hx).ch h3 (fun g hg e => ?_) fun _ e => e⟩, h3⟩
  · rcases h2 _ e with e | e
    · exact h.qp e
    · exact absurd h.lt (Nat.not_lt.2 e)
  · obtain ⟨c1, c2, c3, c4, c5, c6⟩ := h.held g hg
    refine ⟨c1, Nat.lt_of_lt_of_le c2 h3.size, c3, c4, c5, fun e => ?_⟩
    rcases h2 _ e with e | e
    · exact c6 e
    · omega
  · exact e.elim (h.held g hg).2.2.1 (h.held g hg).2.2.2.2.2
/-- A statement more is whole: the row is lengthened; its rows are held from now on. (The reader's cells may have turned in between; here only the first one does.) -/
theorem RfSt.whole {vL' : Value} {x : Itm} {Hx : Nat → Prop} (h : RfSt N Q H W vL fin lb wts opn p) (hg : W.grownBy W' vL.ownBlock) (ho : W'.ownsRow N 38 16 vL' (fin.length + 1) (rowS fin ++ (itmS x).toList)) (hl : ∀ b, vL'.ownBlock = some b → vL.ownBlock = some b ∨ W.heap.size ≤ b)
    (hx : ItR W Hx x) (hHx : ∀ g, Hx g → N ≤ g ∧ g < W.heap.size ∧ g ≠ Q ∧ vL.ownBlock ≠ some g ∧ p.vw.ownBlock ≠ some g ∧ p.vp.ownBlock ≠ some g) : RfSt N Q (fun g => H g ∨ Hx g) (W'.setCell ⟨Q, 0, none⟩ vL') vL' (fin ++ [x]) lb wts opn p := by
  have hQ : W'.heap[Q]? = some (.cells (refC vL lb wts opn p) 40 (0, 0)) := (hg.block Q h.lt (fun e => h.qL e.symm)).trans h.box
  have cg := M.Ch.of_grown hg
  have cs := M.ch_set W' Q 0 vL'
  have nQ : vL'.ownBlock ≠ some Q := fun e => by
    rcases hl Q e with e | e
    · exact h.qL e
    · have := h.lt; omega
  have far : ∀ {v : Value} {e n sz : Nat} {xs : List Value}, W.ownsRow N e sz v n xs → v.ownBlock ≠ some Q → (∀ b, vL.ownBlock = some b → v.ownBlock ≠ some b) → (W'.setCell ⟨Q, 0, none⟩ vL').ownsRow N e sz v n xs ∧ ∀ b, vL'.ownBlock = some b → v.ownBlock ≠ some b := fun ho hq ha => by
    refine ⟨M.owns_ch (M.owns_ch ho cg fun b e e2 => ha b e2 e) cs fun b e e2 => hq (by rw [← e2]; exact e), fun b e e2 => ?_⟩
    rcases hl b e with e | e
    · exact ha b e e2
    · have := M.own_lt ho b e2; omega
  obtain ⟨a1, a2⟩ := far h.ow h.qw h.Lw
  obtain ⟨b1, b2⟩ := far h.op h.qp h.Lp
  have all : ∀ g, (H g ∨ Hx g) → N ≤ g ∧ g < W.heap.size ∧ g ≠ Q ∧ vL.ownBlock ≠ some g ∧ p.vw.ownBlock ≠ some g ∧ p.vp.ownBlock ≠ some g := fun g e => e.elim (h.held g) (hHx g)
  have itr : ∀ {H' : Nat → Prop} {y : Itm}, ItR W H' y → (∀ g, H' g → H g ∨ Hx g) → ItR (W'.setCell ⟨Q, 0, none⟩ vL') (fun g => H g ∨ Hx g) y := fun hy hm => (hy.ch cg (fun g hg' e => (all g (hm g hg')).2.2.2.1 e) (fun g hg' => hm g hg')).ch cs (fun g hg' e => (all g hg').2.2.1 e) fun _ e => e
  refine ⟨M.heap_set_same hQ, ?_, a1, b1, h.ge, nQ, h.qw, h.qp, a2, b2, h.wp, fun g e => ?_, fun y hy => ?_⟩
  · have e1 : rowS (fin ++ [x]) = rowS fin ++ (itmS x).toList := by unfold rowS; simp
    rw [List.length_append, e1]
    exact M.owns_ch ho cs fun b e e2 => nQ (by rw [← e2]; exact e)
  · obtain ⟨c1, c2, c3, c4, c5⟩ := all g e
    refine ⟨c1, Nat.lt_of_lt_of_le (Nat.lt_of_lt_of_le c2 hg.size) cs.size, c3, fun e2 => ?_, c5⟩
    rcases hl g e2 with e2 | e2
    · exact c4 e2
    · omega
  · rcases List.mem_append.1 hy with hy | hy
    · exact itr (h.its y hy) fun g e => .inl e
    · rw [List.mem_singleton.1 hy]; exact itr hx fun g e => .inr e
/-- The open one is whole: it is laid behind the others, its rows are held from now on. -/
theorem RfSt.close {W'' : World} {vL' : Value} {lb' : Tok} {wts' : Bool} (h : RfSt N Q H W vL fin lb wts opn p) (hg : W.grownBy W' vL.ownBlock) (ho : W'.ownsRow N 38 16 vL' (fin.length + 1) (rowS fin ++ (itmS p).toList)) (hl : ∀ b, vL'.ownBlock = some b → vL.ownBlock = some b ∨ W.heap.size ≤ b)
    (hc : M.Ch (fun b => b = Q) W' W'') (hb : W''.heap[Q]? = some (.cells (refC vL' lb' wts' false zItm) 40 (0, 0))) : RfSt N Q (fun g => H g ∨ p.vw.ownBlock = some g ∨ p.vp.ownBlock = some g) W'' vL' (fin ++ [p]) lb' wts' false zItm := by
  have cg := M.Ch.of_grown hg
  have nQ : vL'.ownBlock ≠ some Q := fun e => by
    rcases hl Q e with e | e
    · exact h.qL e
    · have := h.lt; omega
  have all : ∀ g, (H g ∨ p.vw.ownBlock = some g ∨ p.vp.ownBlock = some g) → N ≤ g ∧ g < W.heap.size ∧ g ≠ Q ∧ vL.ownBlock ≠ some g := fun g e => by
    rcases e with e | e | e
    · obtain ⟨c1, c2, c3, c4, _⟩ := h.held g e
      exact ⟨c1, c2, c3, c4⟩
    · exact ⟨M.own_ge' h.ow g e, M.own_lt h.ow g e, fun e2 => h.qw (by rw [← e2]; exact e), fun e2 => h.Lw g e2 e⟩
    · exact ⟨M.own_ge' h.op g e, M.own_lt h.op g e, fun e2 => h.qp (by rw [← e2]; exact e), fun e2 => h.Lp g e2 e⟩
  have itr : ∀ {H' : Nat → Prop} {y : Itm}, ItR W H' y → (∀ g, H' g → H g ∨ p.vw.ownBlock = some g ∨ p.vp.ownBlock = some g) → ItR W'' (fun g => H g ∨ p.vw.ownBlock = some g ∨ p.vp.ownBlock = some g) y := fun hy hm => (hy.ch cg (fun g hg' e => (all g (hm g hg')).2.2.2 e) (fun g hg' => hm g hg')).ch hc (fun g hg' e => (all g hg').2.2.1 e) fun _ e => e
  refine ⟨hb, ?_, World.ownsRow_nil _ _ _ _, World.ownsRow_nil _ _ _ _, h.ge, nQ, (fun e => by cases e), (fun e => by cases e), (fun b _ e => by cases e), (fun b _ e => by cases e), (fun b e => by cases e), fun g e => ?_, fun y hy => ?_⟩
  · have e1 : rowS (fin ++ [p]) = rowS fin ++ (itmS p).toList := by unfold rowS; simp
    rw [List.length_append, e1]
    exact M.owns_ch ho hc fun b e e2 => nQ (by rw [← e2]; exact e)
  · obtain ⟨c1, c2, c3, c4⟩ := all g e
    refine ⟨c1, Nat.lt_of_lt_of_le (Nat.lt_of_lt_of_le c2 hg.size) hc.size, c3, fun e2 => ?_, (fun e => by cases e), (fun e => by cases e)⟩
    rcases hl g e2 with e2 | e2
    · exact c4 e2
    · omega
  · rcases List.mem_append.1 hy with hy | hy
    · exact itr (h.its y hy) fun g e => .inl e
    · rw [List.mem_singleton.1 hy]
      exact itr (H' := fun g => p.vw.ownBlock = some g ∨ p.vp.ownBlock = some g) ⟨M.RowIn.own h.ow fun g e => .inl e, M.RowIn.own h.op fun g e => .inr e⟩ fun g e => .inr e
end
end Go.Proofs.YtipfhfeaalbmcabDoor
