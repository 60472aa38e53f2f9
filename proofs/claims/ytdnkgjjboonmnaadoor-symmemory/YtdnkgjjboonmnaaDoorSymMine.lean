/- A law's own rows that grow. -/
import Derived.Test.YtdnkgjjboonmnaaDoorSymText
namespace Go.Proofs.YtdnkgjjboonmnaaDoor
open Go.RowKit

/-- A row of the law's own, in new memory, apart from the table. -/
structure Mine (w wr : World) (bs : List Nat) (e size : Nat) (v : Value) (n : Nat) (xs : List Value) : Prop where
  own : wr.ownsRow w.heap.size e size v n xs
  far : ∀ g, v.ownBlock = some g → g ∉ bs
section
variable {w wr w' w2 w3 : World} {bs bs' : List Nat} {e size : Nat} {v : Value} {n : Nat} {xs : List Value} {B k : Nat} {T : Tab}
theorem Mine.goes (h : Mine w wr bs e size v n xs) (hg : Goes bs wr bs' w') : Mine w w' bs' e size v n xs := by
  refine ⟨owns_same h.own fun g e => hg.turned.block g (own_low h.own g e) (h.far g e), fun g e hm => ?_⟩
  rcases hg.blocks g hm with h1 | h1
  · exact h.far g e h1
  · have := own_low h.own g e; omega
theorem Mine.under (h : Mine w wr bs e size v n xs) (hb : Below wr.heap.size wr w') : Mine w w' bs e size v n xs :=
  ⟨owns_same h.own fun g e => hb.block g (own_low h.own g e), h.far⟩
/-- The table where a row of the law's own has grown. -/
theorem Stand.grown (ST : Stand w w2 B k T bs) (h : Mine w w2 bs e size v n xs) (hg : w2.grownBy w3 v.ownBlock) : Stand w w3 B k T bs := by
  have hb : Below w.heap.size w2 w3 := grown_below hg ST.below.size (fun g e => owns_new h.own g e)
  exact ⟨ST.tab.kept fun b hb' => hg.block b (ST.tab.low b hb') (fun e => h.far b e.symm hb'), ST.ok, ST.good, ST.low, ST.below.trans hb, ST.kb⟩
/-- Another row of the law's own where one has grown. -/
theorem Mine.beside {e2 size2 m : Nat} {u : Value} {ys : List Value} (h : Mine w w2 bs e2 size2 u m ys) (hg : w2.grownBy w3 v.ownBlock) (hd : ∀ g, u.ownBlock = some g → v.ownBlock ≠ some g) : Mine w w3 bs e2 size2 u m ys :=
  ⟨owns_same h.own fun g e => hg.block g (own_low h.own g e) (fun e' => hd g e e'.symm), h.far⟩
/-- The row that has grown. -/
theorem Mine.grown {m cap g2 H : Nat} {ys : List Value} (ST : Stand w w2 B k T bs) (h : Mine w w2 bs e size v n xs) (ho : w3.ownsRow w.heap.size e size (.slice (some ⟨g2, 0, none⟩) m cap) m ys) (hat : v.ownBlock = some g2 ∨ g2 = H) (hH : w2.heap.size ≤ H) : Mine w w3 bs e size (.slice (some ⟨g2, 0, none⟩) m cap) m ys := by
  refine ⟨ho, fun g e hm => ?_⟩
  cases e
  rcases hat with h1 | h1
  · exact h.far _ h1 hm
  · have := ST.tab.low _ hm; simp at this; omega
end
theorem mine_new {w w' : World} {bs : List Nat} {B k : Nat} {T : Tab} (ST : Stand w w' B k T bs) (cs : Array Value) (e : Nat) (hs : cs.size ≤ maxLen) : Mine w (w'.alloc (.cells cs e)) bs e 1 (.slice (some ⟨w'.heap.size, 0, none⟩) cs.size cs.size) cs.size cs.toList := by
  refine ⟨⟨by simp, .inr ⟨w'.heap.size, cs.size, cs, rfl, ST.below.size, heap_alloc_new w' _, Nat.le_refl _, hs, by omega, by rw [Nat.mul_one]; exact List.take_of_length_le (by simp)⟩⟩, fun g e hm => ?_⟩
  cases e
  have := ST.tab.low _ hm
  simp at this
theorem below_new {w : World} (o : Obj) : Below w.heap.size w (w.alloc o) := (Below.refl _ _).alloc (Nat.le_refl _) _
theorem below_draw (w : World) (n : Nat) : Below w.heap.size w (w.drewN n) := ⟨rfl, rfl, rfl, Nat.le_refl _, fun _ _ => rfl⟩
end Go.Proofs.YtdnkgjjboonmnaaDoor
