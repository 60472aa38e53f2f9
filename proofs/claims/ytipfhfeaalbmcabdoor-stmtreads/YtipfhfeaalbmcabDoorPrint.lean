/- Statements in memory. -/
import Derived.Test.YtipfhfeaalbmcabDoorRMay
namespace Go.Proofs.YtipfhfeaalbmcabDoor
open Go.RowKit

def stmC (s : Stm) (vw vp : Value) : Array Value := stmA s.kind s.label s.key s.fin s.proving vw vp
/-- Statements in memory. -/
def StmtsAt (w : World) (a : Option Addr) (l : List Stm) : Prop := ∀ (i : Nat) (s : Stm), l[i]? = some s → ∃ b off aw cw ap cp, a = some ⟨b, off, none⟩ ∧
  (∀ (j : Nat) (u : Value), (stmC s (.slice aw s.words.length cw) (.slice ap s.proof.length cp))[j]? = some u → w.cell? ⟨b, off + i * 16 + j, none⟩ = some u) ∧ ToksAt w aw s.words ∧ ToksAt w ap s.proof ∧ s.words.length ≤ cw ∧ s.proof.length ≤ cp
theorem StmtsAt.under {w w' : World} {a : Option Addr} {l : List Stm} (h : StmtsAt w a l) (hb : Below w.heap.size w w') : StmtsAt w' a l := fun i s hi => by
  obtain ⟨b, off, aw, cw, ap, cp, e, hc, hT, hP, h1, h2⟩ := h i s hi
  refine ⟨b, off, aw, cw, ap, cp, e, fun j u hu => ?_, hT.under hb, hP.under hb, h1, h2⟩
  have h0 := hc j u hu
  exact (hb.cell (p := ⟨b, _, none⟩) (World.block_lt_of_cell? _ _ h0)).trans h0
structure StmSm (s : Stm) : Prop where
  nw : s.words.length ≤ 1048576
  np : s.proof.length ≤ 1048576
  sw : ∀ t ∈ s.words, t.text.size ≤ 1048576
  sp : ∀ t ∈ s.proof, t.text.size ≤ 1048576
  sl : s.label.text.size ≤ 1048576
theorem cells16 {w : World} {b o : Nat} {k : Int} {lb ky fn : Tok} {pr : Bool} {vw vp : Value} (h : ∀ (j : Nat) (u : Value), (stmA k lb ky fn pr vw vp)[j]? = some u → w.cell? ⟨b, o + j, none⟩ = some u) :
    w.cell? ⟨b, o, none⟩ = some (.int .i64 k) ∧ w.cell? ⟨b, o + 1, none⟩ = some (.string lb.text) ∧ w.cell? ⟨b, o + 2, none⟩ = some (.int .i64 lb.off) ∧ w.cell? ⟨b, o + 3, none⟩ = some (.int .i64 lb.line) ∧ w.cell? ⟨b, o + 4, none⟩ = some (.int .i64 lb.col) ∧ w.cell? ⟨b, o + 5, none⟩ = some (.string ky.text) ∧ w.cell? ⟨b, o + 6, none⟩ = some (.int .i64 ky.off) ∧ w.cell? ⟨b, o + 7, none⟩ = some (.int .i64 ky.line) ∧ w.cell? ⟨b, o + 8, none⟩ = some (.int .i64 ky.col) ∧ w.cell? ⟨b, o + 9, none⟩ = some (.bool pr) ∧ w.cell? ⟨b, o + 10, none⟩ = some vw ∧ w.cell? ⟨b, o + 11, none⟩ = some vp ∧ w.cell? ⟨b, o + 12, none⟩ = some (.string fn.text) ∧ w.cell? ⟨b, o + 13, none⟩ = some (.int .i64 fn.off) ∧ w.cell? ⟨b, o + 14, none⟩ = some (.int .i64 fn.line) ∧ w.cell? ⟨b, o + 15, none⟩ = some (.int .i64 fn.col) :=
  ⟨h 0 _ rfl, h 1 _ rfl, h 2 _ rfl, h 3 _ rfl, h 4 _ rfl, h 5 _ rfl, h 6 _ rfl, h 7 _ rfl, h 8 _ rfl, h 9 _ rfl, h 10 _ rfl, h 11 _ rfl, h 12 _ rfl, h 13 _ rfl, h 14 _ rfl, h 15 _ rfl⟩

end Go.Proofs.YtipfhfeaalbmcabDoor
