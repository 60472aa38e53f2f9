/- A statement made of a plan. -/
import Derived.Test.YtipfhfeaalbmcaaDoorBkWord
import Derived.Test.YtipfhfeaalbmcaaDoorAdd
import Derived.Test.YtipfhfeaalbmcaaDoorTold
import Derived.Deep.MidRow
namespace Go.Proofs.YtipfhfeaalbmcaaDoor
open Go.RowKit

theorem there_at {W : World} {b o n : Nat} {t : TypeId} {cs : Array Value} (h : W.heap[b]? = some (.cells cs t (0, 0))) (hn : o + n ≤ cs.size) : W.there b o n := fun j hj => by
  refine ⟨?_, ?_⟩
  · rw [M.cell_whole h, Array.getElem?_eq_getElem (show o + j < cs.size by omega)]; rfl
  · simp [World.frozen?, h]
theorem ch_setCells (b : Nat) : ∀ (new : List Value) (o : Nat) (W : World), M.Ch (fun g => g = b) W (W.setCells b o new)
  | [], _, _ => M.Ch.refl _ _
  | v :: new, o, W => by rw [setCells_cons]; exact (M.ch_set W b o v).trans (ch_setCells b new (o + 1) _)
/-- A plan: kind, label, words, proof. -/
structure Pln where
  kd : Int
  lb : Int
  ws : List Int
  ps : List Int
def w64 (n : Int) : Int := IntKind.i64.wrap n
def plK (p : Pln) : Nat := (1 + p.kd % 9).toNat
def plLab (p : Pln) : Tok := if labB (plK p) = true then wdT p.lb else zTok
def plW (p : Pln) : List Tok := if brkB (plK p) = true then [] else [wdT (w64 (p.lb + 1)), wdT (w64 (p.lb + 2))] ++ (if plK p = 3 then [] else (p.ws.take 30).map wdT)
def plP (p : Pln) : List Tok := if plK p = 7 then p.ps.map wdT else []
/-- What a plan is made into. -/
def plS (p : Pln) : Stm := ⟨plK p, plLab p, zTok, false, plW p, plP p, zTok⟩
theorem plK_range (p : Pln) : 0 < plK p ∧ plK p < 10 := by
  unfold plK
  have h1 := Int.emod_nonneg p.kd (show (9 : Int) ≠ 0 by omega)
  have h2 := Int.emod_lt_of_pos p.kd (show (0 : Int) < 9 by omega)
  omega
theorem nine {k : Nat} (h0 : 0 < k) (h : k < 10) : k = 1 ∨ k = 2 ∨ k = 3 ∨ k = 4 ∨ k = 5 ∨ k = 6 ∨ k = 7 ∨ k = 8 ∨ k = 9 := by omega
/-- Numbers in memory. -/
def NumsAt (w : World) (a : Option Addr) (l : List Int) : Prop := ∀ (i : Nat) (x : Int), l[i]? = some x → ∃ b off, a = some ⟨b, off, none⟩ ∧ w.cell? ⟨b, off + i, none⟩ = some (.int .i64 x)
theorem NumsAt.under {w w' : World} {a : Option Addr} {l : List Int} (h : NumsAt w a l) (hb : Below w.heap.size w w') : NumsAt w' a l := fun i x hi => by
  obtain ⟨b, off, e, h0⟩ := h i x hi
  exact ⟨b, off, e, (hb.cell (p := ⟨b, _, none⟩) (World.block_lt_of_cell? _ _ h0)).trans h0⟩
/-- Where a plan is being made into a statement: the boxes, the rows. -/
structure PM (w : World) (B : Nat) (pc : Array Value) (k : Nat) (l : Tok) (W : World) (vw vp : Value) (ws ps : List Tok) : Prop where
  pb : W.heap[B]? = some (.cells pc 96 (0, 0))
  rb : W.heap[B + 1]? = some (.cells #[.int .i64 0, .string ⟨#[]⟩, .int .i64 0, .int .i64 0, .int .i64 0, .string ⟨#[]⟩, .int .i64 0, .int .i64 0, .int .i64 0, .bool false, .slice none 0 0, .slice none 0 0, .string ⟨#[]⟩, .int .i64 0, .int .i64 0, .int .i64 0] 36 (0, 0))
  sb : W.heap[B + 2]? = some (.cells (stmA k l zTok zTok false vw vp) 36 (0, 0))
  ow : W.ownsRow (B + 3) 34 4 vw ws.length (rowT ws)
  op : W.ownsRow (B + 3) 34 4 vp ps.length (rowT ps)
  wp : ∀ b, vw.ownBlock = some b → vp.ownBlock ≠ some b
  sz : B + 3 ≤ W.heap.size
  bel : Below B w W
section
variable {w W W' : World} {B : Nat} {pc : Array Value} {k : Nat} {l : Tok} {vw vp : Value} {ws ps : List Tok}
theorem PM.under (h : PM w B pc k l W vw vp ws ps) (hb : Below W.heap.size W W') : PM w B pc k l W' vw vp ws ps :=
  have hs := h.sz
  have hc : M.Ch (fun _ => False) W W' := M.Ch.of_below hb
  ⟨(hb.block _ (by omega)).trans h.pb, (hb.block _ (by omega)).trans h.rb, (hb.block _ (by omega)).trans h.sb, M.owns_ch h.ow hc fun _ _ e => e, M.owns_ch h.op hc fun _ _ e => e, h.wp, Nat.le_trans hs hb.size, h.bel.trans (hb.mono (by omega))⟩
theorem PM.label {l' : Tok} (h : PM w B pc k l W vw vp ws ps) (hc : M.Ch (fun b => b = B + 2) W W') (hb : W'.heap[B + 2]? = some (.cells (stmA k l' zTok zTok false vw vp) 36 (0, 0))) : PM w B pc k l' W' vw vp ws ps :=
  have hs := h.sz
  ⟨(hc.block _ (by omega) (by omega)).trans h.pb, (hc.block _ (by omega) (by omega)).trans h.rb, hb, M.owns_ch h.ow hc fun b e e2 => (by have := M.own_ge' h.ow b e; omega), M.owns_ch h.op hc fun b e e2 => (by have := M.own_ge' h.op b e; omega), h.wp, Nat.le_trans hs hc.size, h.bel.trans (hc.below (by omega) fun b e => (by omega))⟩
theorem PM.belw (h : PM w B pc k l W vw vp ws ps) (hB : w.heap.size = B) : Below w.heap.size w W := by rw [hB]; exact h.bel
/-- The first two words. -/
theorem PM.words2 {t u : Tok} {W1 W2 : World} {v' : Value} (h : PM w B pc k l W (.slice none 0 0) (.slice none 0 0) [] []) (hb : Below W.heap.size W W1) (hg : W1.grownBy W2 none) (ho : W2.ownsRow (B + 3) 34 4 v' 2 ([] ++ (tokCells t ++ tokCells u))) (_ : ∀ b, v'.ownBlock = some b → (Value.slice none 0 0).ownBlock = some b ∨ W1.heap.size ≤ b) : PM w B pc k l (W2.setCell ⟨B + 2, 10, none⟩ v') v' (.slice none 0 0) [t, u] [] := by
  have h1 := h.under hb
  have cg := M.Ch.of_grown hg
  have cs := M.ch_set W2 (B + 2) 10 v'
  have hs := h1.sz
  have nx : ∀ b, ¬ (none : Option Nat) = some b := fun b e => by cases e
  have hv : ∀ b, v'.ownBlock = some b → B + 3 ≤ b := M.own_ge' ho
  refine ⟨(cs.block _ (by have := cg.size; omega) (by omega)).trans ((cg.block _ (by omega) (nx _)).trans h1.pb), (cs.block _ (by have := cg.size; omega) (by omega)).trans ((cg.block _ (by omega) (nx _)).trans h1.rb), M.heap_set_same ((cg.block _ (by omega) (nx _)).trans h1.sb), M.owns_ch ho cs fun b e e2 => (by have := hv b e; omega), World.ownsRow_nil _ _ _ _, (fun b _ e => by cases e), Nat.le_trans hs (Nat.le_trans cg.size cs.size), h1.bel.trans ((cg.below (by omega) fun b e => by cases e).trans (cs.below (by have := cg.size; omega) fun b e => by omega))⟩
/-- The words grow. -/
theorem PM.words {t : Tok} (h : PM w B pc k l W vw vp ws ps) (ha : AppPost W W' (B + 3) (B + 2) 10 (stmA k l zTok zTok false vw vp) 36 vw ws t) : ∃ vw', PM w B pc k l W' vw' vp (ws ++ [t]) ps := by
  obtain ⟨v', h1, h2, h3, h4⟩ := ha
  have hs := h.sz
  have nv : ∀ g, vw.ownBlock = some g → B + 3 ≤ g := M.own_ge' h.ow
  have nx : ∀ b, b ≤ B + 1 → ¬ (b = B + 2 ∨ vw.ownBlock = some b) := fun b hb e => e.elim (fun e => by omega) fun e => by have := nv b e; omega
  refine ⟨v', (h3.block B (by omega) (nx B (by omega))).trans h.pb, (h3.block (B + 1) (by omega) (nx _ (by omega))).trans h.rb, h4, by simpa using h1, M.owns_ch h.op h3 fun b e e2 => ?_, fun b e e2 => ?_, Nat.le_trans hs h3.size, h.bel.trans (h3.below (by omega) fun b e => e.elim (fun e => by omega) fun e => by have := nv b e; omega)⟩
  · rcases e2 with e2 | e2
    · have := M.own_ge' h.op b e; omega
    · exact h.wp b e2 e
  · rcases h2 b e with e3 | e3
    · exact h.wp b e3 e2
    · have := M.own_lt h.op b e2; omega
/-- The proof grows. -/
theorem PM.proof {t : Tok} (h : PM w B pc k l W vw vp ws ps) (ha : AppPost W W' (B + 3) (B + 2) 11 (stmA k l zTok zTok false vw vp) 36 vp ps t) : ∃ vp', PM w B pc k l W' vw vp' ws (ps ++ [t]) := by
  obtain ⟨v', h1, h2, h3, h4⟩ := ha
  have hs := h.sz
  have nv : ∀ g, vp.ownBlock = some g → B + 3 ≤ g := M.own_ge' h.op
  have nx : ∀ b, b ≤ B + 1 → ¬ (b = B + 2 ∨ vp.ownBlock = some b) := fun b hb e => e.elim (fun e => by omega) fun e => by have := nv b e; omega
  refine ⟨v', (h3.block B (by omega) (nx B (by omega))).trans h.pb, (h3.block (B + 1) (by omega) (nx _ (by omega))).trans h.rb, h4, M.owns_ch h.ow h3 fun b e e2 => ?_, by simpa using h1, fun b e e2 => ?_, Nat.le_trans hs h3.size, h.bel.trans (h3.below (by omega) fun b e => e.elim (fun e => by omega) fun e => by have := nv b e; omega)⟩
  · rcases e2 with e2 | e2
    · have := M.own_ge' h.ow b e; omega
    · exact h.wp b e e2
  · rcases h2 b e2 with e3 | e3
    · exact h.wp b e e3
    · have := M.own_lt h.ow b e; omega
end
/-- A statement that was made: its rows. -/
structure PlIs (w w' : World) (p : Pln) (vw vp : Value) : Prop where
  ow : w'.ownsRow w.heap.size 34 4 vw (plW p).length (rowT (plW p))
  op : w'.ownsRow w.heap.size 34 4 vp (plP p).length (rowT (plP p))
  bel : Below w.heap.size w w'
def PlPost (w : World) (p : Pln) (e : Ending) (w' : World) : Prop := ∃ vw vp, e = .returned (.agg (stmA (plK p : Nat) (plLab p) zTok zTok false vw vp)) ∧ PlIs w w' p vw vp

end Go.Proofs.YtipfhfeaalbmcaaDoor
