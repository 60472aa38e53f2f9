/- What the reader holds: the statements that have begun, the open one, the label that waits. -/
import Derived.Test.YtipfhfeaalbmcaaDoorWithin
namespace Go.Proofs.YtipfhfeaalbmcaaDoor
open Go.RowKit

def rdC (vb vo : Value) (wt : Tok) : Array Value := #[vb, vo, .string wt.text, .int .i64 wt.off, .int .i64 wt.line, .int .i64 wt.col]
structure RSt (N R : Nat) (W : World) (vb vo : Value) (its : List Itm) (wt : Tok) : Prop where
  box : W.heap[R]? = some (.cells (rdC vb vo wt) 75 (0, 0))
  own : W.ownsRow N 73 1 vb its.length (its.map itmI)
  ge : N ≤ R
  vbR : vb.ownBlock ≠ some R
  all : ∀ x ∈ its, ItmAt W N x
  ap : ∀ x ∈ its, ∀ b, blk x b → b ≠ R ∧ vb.ownBlock ≠ some b
  pw : its.Pairwise fun x y => ∀ b, blk x b → ¬ blk y b
theorem RSt.lt {N R : Nat} {W : World} {vb vo : Value} {its : List Itm} {wt : Tok} (h : RSt N R W vb vo its wt) : R < W.heap.size := (Array.getElem?_eq_some_iff.1 h.box).1
theorem RSt.under {N R : Nat} {W W' : World} {vb vo : Value} {its : List Itm} {wt : Tok} (h : RSt N R W vb vo its wt) (hb : Below W.heap.size W W') : RSt N R W' vb vo its wt :=
  ⟨(hb.block R h.lt).trans h.box, M.owns_ch h.own (M.Ch.of_below (X := fun _ => False) hb) fun _ _ e => e, h.ge, h.vbR, fun x hx => (h.all x hx).under hb, h.ap, h.pw⟩
/-- The reader's own cells turn. -/
theorem RSt.cells {N R : Nat} {W W' : World} {vb vo vo' : Value} {its : List Itm} {wt wt' : Tok} (h : RSt N R W vb vo its wt) (hc : M.Ch (fun b => b = R) W W') (hb : W'.heap[R]? = some (.cells (rdC vb vo' wt') 75 (0, 0))) : RSt N R W' vb vo' its wt' :=
  ⟨hb, M.owns_ch h.own hc fun b e e2 => h.vbR (by rw [← e2]; exact e), h.ge, h.vbR, fun x hx => (h.all x hx).ch hc fun b e => (h.ap x hx b e).1, h.ap, h.pw⟩
/-- The last one turns. -/
theorem RSt.last {N R : Nat} {W W' : World} {vb vo vo' : Value} {pre : List Itm} {x x' : Itm} {wt : Tok} (h : RSt N R W vb vo (pre ++ [x]) wt) (hi : ItmAt W' N x') (hg : x'.g = x.g) (hy : itmY x' = itmY x) (hbl : ∀ b, blk x' b → blk x b ∨ W.heap.size ≤ b)
    (hc : M.Ch (fun b => blk x b ∨ b = R) W W') (hb : W'.heap[R]? = some (.cells (rdC vb vo' wt) 75 (0, 0))) : RSt N R W' vb vo' (pre ++ [x']) wt := by
  have hxm : x ∈ pre ++ [x] := by simp
  have hI : itmI x' = itmI x := by unfold itmI; rw [hy, hg]
  have hpw := List.pairwise_append.1 h.pw
  have hap' : ∀ b, blk x' b → b ≠ R ∧ vb.ownBlock ≠ some b := fun b e => by
    rcases hbl b e with e | e
    · exact h.ap x hxm b e
    · refine ⟨fun e2 => ?_, fun e2 => ?_⟩
      · have := h.lt; omega
      · have := M.own_lt h.own b e2; omega
  refine ⟨hb, ?_, h.ge, h.vbR, ?_, ?_, ?_⟩
  · have h1 := h.own
    rw [List.length_append, List.map_append] at h1 ⊢
    simp only [List.map_cons, List.map_nil, List.length_cons, List.length_nil, hI] at h1 ⊢
    exact M.owns_ch h1 hc fun b e e2 => by
      rcases e2 with e2 | e2
      · exact (h.ap x hxm b e2).2 e
      · exact h.vbR (by rw [← e2]; exact e)
  · intro y hy
    rcases List.mem_append.1 hy with hy | hy
    · refine (h.all y (by simp [hy])).ch hc fun b e e2 => ?_
      rcases e2 with e2 | e2
      · exact hpw.2.2 y hy x (by simp) b e e2
      · exact (h.ap y (by simp [hy]) b e).1 e2
    · rw [List.mem_singleton.1 hy]; exact hi
  · intro y hy
    rcases List.mem_append.1 hy with hy | hy
    · exact h.ap y (by simp [hy])
    · rw [List.mem_singleton.1 hy]; exact hap'
  · refine List.pairwise_append.2 ⟨hpw.1, List.pairwise_singleton _ _, fun y hy z hz b e e2 => ?_⟩
    rw [List.mem_singleton.1 hz] at e2
    rcases hbl b e2 with e2 | e2
    · exact hpw.2.2 y hy x (by simp) b e e2
    · have := (h.all y (by simp [hy])).lt b e; omega
/-- One more has begun: the row of those that have begun is lengthened, and stands in the reader's first cell. -/
theorem RSt.more {N R : Nat} {W W' : World} {vb vb' vo : Value} {its : List Itm} {x : Itm} {wt : Tok} (h : RSt N R W vb vo its wt) (hi : ItmAt W N x) (hx : ∀ b, blk x b → b ≠ R ∧ vb.ownBlock ≠ some b) (hp : ∀ y ∈ its, ∀ b, blk y b → ¬ blk x b)
    (hg : W.grownBy W' vb.ownBlock) (ho : W'.ownsRow N 73 1 vb' (its.length + 1) (its.map itmI ++ [itmI x])) (hl : ∀ b, vb'.ownBlock = some b → vb.ownBlock = some b ∨ W.heap.size ≤ b) : RSt N R (W'.setCell ⟨R, 0, none⟩ vb') vb' vo (its ++ [x]) wt := by
  have hR : W'.heap[R]? = some (.cells (rdC vb vo wt) 75 (0, 0)) := (hg.block R h.lt (fun e => h.vbR e.symm)).trans h.box
  have cg := M.Ch.of_grown hg
  have cs := M.ch_set W' R 0 vb'
  have nR : vb'.ownBlock ≠ some R := fun e => by
    rcases hl R e with e | e
    · exact h.vbR e
    · have := h.lt; omega
  have far : ∀ y, ItmAt W N y → (∀ b, blk y b → b ≠ R ∧ vb.ownBlock ≠ some b) → ItmAt (W'.setCell ⟨R, 0, none⟩ vb') N y ∧ ∀ b, blk y b → b ≠ R ∧ vb'.ownBlock ≠ some b := fun y hy hap => by
    refine ⟨(hy.ch cg fun b e e2 => (hap b e).2 e2).ch cs fun b e e2 => (hap b e).1 e2, fun b e => ⟨(hap b e).1, fun e2 => ?_⟩⟩
    rcases hl b e2 with e2 | e2
    · exact (hap b e).2 e2
    · have := hy.lt b e; omega
  refine ⟨M.heap_set_same hR, ?_, h.ge, nR, ?_, ?_, ?_⟩
  · rw [List.length_append, List.map_append]
    exact M.owns_ch ho cs fun b e e2 => nR (by rw [← e2]; exact e)
  · intro y hy
    rcases List.mem_append.1 hy with hy | hy
    · exact (far y (h.all y hy) (h.ap y hy)).1
    · rw [List.mem_singleton.1 hy]; exact (far x hi hx).1
  · intro y hy
    rcases List.mem_append.1 hy with hy | hy
    · exact (far y (h.all y hy) (h.ap y hy)).2
    · rw [List.mem_singleton.1 hy]; exact (far x hi hx).2
  · refine List.pairwise_append.2 ⟨h.pw, List.pairwise_singleton _ _, fun y hy z hz b e e2 => ?_⟩
    rw [List.mem_singleton.1 hz] at e2
    exact hp y hy b e e2

def newS (k : Int) (lb ky : Tok) : Stm := if brk k = true then ⟨k, zTok, ky, false, [], [], ky⟩ else ⟨k, lb, ky, false, [], [], zTok⟩
theorem holds_itm {w w' : World} {N : Nat} {st : Value} {k : Int} {lb ky : Tok} (hk1 : 1 ≤ k) (hk9 : k ≤ 9) (hN : N ≤ w.heap.size) (hh : Holds w' w.heap.size st k lb ky (.slice none 0 0) (.slice none 0 0)) : ∃ x, st = itmI x ∧ x.s = newS k lb ky ∧ ItmAt w' N x ∧ ∀ b, blk x b → w.heap.size ≤ b := by
  obtain ⟨g, hg, hlt, hh⟩ := hh
  have nil : w'.ownsRow N 34 4 (.slice none 0 0) 0 (rowT []) := World.ownsRow_nil _ _ _ _
  have bl : ∀ (s : Stm) (b : Nat), blk ⟨s, g, .slice none 0 0, .slice none 0 0⟩ b → w.heap.size ≤ b := fun s b e => by
    rcases e with rfl | e | e
    · exact hg
    · cases e
    · cases e
  rcases hh with ⟨hk, rfl, hb⟩ | ⟨hk, rfl, hb⟩ | ⟨h7, h8, h9, rfl, hb⟩
  · have hbk : brk k = true := by rcases hk with rfl | rfl <;> rfl
    refine ⟨⟨⟨k, zTok, ky, false, [], [], ky⟩, g, .slice none 0 0, .slice none 0 0⟩, ?_, ?_, ⟨hk1, hk9, ?_, Nat.le_trans hN hg, nil, nil, (fun e => by cases e), (fun e => by cases e), (fun b e => by cases e), fun _ => ⟨rfl, rfl, rfl⟩, fun _ => ⟨rfl, rfl, rfl, rfl⟩⟩, bl _⟩
    · unfold itmI itmY; rw [if_pos hbk]
    · unfold newS; rw [if_pos hbk]
    · rw [itmC_br hbk]; unfold itmT; rw [if_pos hbk]; exact hb
  · subst hk
    refine ⟨⟨⟨7, lb, ky, false, [], [], zTok⟩, g, .slice none 0 0, .slice none 0 0⟩, rfl, rfl, ⟨hk1, hk9, hb, Nat.le_trans hN hg, nil, nil, (fun e => by cases e), (fun e => by cases e), (fun b e => by cases e), fun e => absurd rfl e, fun e => by cases e⟩, bl _⟩
  · have hbk : brk k = false := by unfold brk; simp [h8, h9]
    have hbn : ¬ brk k = true := by rw [hbk]; exact Bool.false_ne_true
    refine ⟨⟨⟨k, lb, ky, false, [], [], zTok⟩, g, .slice none 0 0, .slice none 0 0⟩, ?_, ?_, ⟨hk1, hk9, ?_, Nat.le_trans hN hg, nil, nil, (fun e => by cases e), (fun e => by cases e), (fun b e => by cases e), fun _ => ⟨rfl, rfl, rfl⟩, fun e => absurd e hbn⟩, bl _⟩
    · unfold itmI itmY; rw [if_neg hbn, if_neg h7]
    · unfold newS; rw [if_neg hbn]
    · rw [itmC_cl hbk h7]; unfold itmT; rw [if_neg hbn, if_neg h7]; exact hb
end Go.Proofs.YtipfhfeaalbmcaaDoor
