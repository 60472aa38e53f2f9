/- The reader's tell, and what stays. -/
import Derived.Test.YtffchjigpppoaaaDoorEnc
import Derived.Lib.OthersKept
import Derived.Deep.RegionLaw
import Derived.Deep.RegionWith
import Derived.ChangeAlike
namespace Go.Proofs.YtffchjigpppoaaaDoor
open Go.RowKit

structure Tok where
  text : ByteArray
  off : Int
  line : Int
  col : Int
def tokV (t : Tok) : Value := .agg #[.string t.text, .int .i64 t.off, .int .i64 t.line, .int .i64 t.col]
def tokCells (t : Tok) : List Value := [.string t.text, .int .i64 t.off, .int .i64 t.line, .int .i64 t.col]
def codeCells (c : Int × Tok) : List Value := .int .i64 c.1 :: tokCells c.2
def rowC (l : List (Int × Tok)) : List Value := l.flatMap codeCells
theorem rowC_append (l m : List (Int × Tok)) : rowC (l ++ m) = rowC l ++ rowC m := by simp [rowC]
theorem rowC_len (l : List (Int × Tok)) : (rowC l).length = l.length * 5 := by
  induction l with
  | nil => rfl
  | cons c l ih =>
    have : rowC (c :: l) = codeCells c ++ rowC l := rfl
    rw [this, List.length_append, ih, List.length_cons]
    simp [codeCells, tokCells]; omega
/-- The reader lies in block R. -/
def ReadAt (W : World) (R : Nat) (v : Value) (a : Nat) : Prop := W.heap[R]? = some (.cells #[v, .int .i64 a] 92 (0, 0))
def RdIs (W : World) (R : Nat) (cs : List (Int × Tok)) (a : Nat) : Prop := ∃ v, ReadAt W R v a ∧ W.ownsRow (R + 1) 51 5 v cs.length (rowC cs)
/-- Nothing has turned but the reader and rows of codes above it. -/
structure Kp (R : Nat) (W W' : World) : Prop where
  below : Below R W W'
  others : Lib.OthersKept 51 (some R) W W'
theorem Kp.refl (R : Nat) (W : World) : Kp R W W := ⟨Below.refl _ _, Lib.OthersKept.refl _ _ _⟩
theorem Kp.trans {R : Nat} {A B C : World} (h : Kp R A B) (k : Kp R B C) : Kp R A C := ⟨h.below.trans k.below, h.others.trans k.others⟩
theorem Kp.alloc {R : Nat} {A B : World} (h : Kp R A B) (hR : R ≤ B.heap.size) (o : Obj) : Kp R A (B.alloc o) := ⟨h.below.alloc hR o, h.others.alloc o⟩
theorem Kp.drew {R : Nat} {A B : World} (h : Kp R A B) : Kp R A B.drew := ⟨h.below.drew, h.others.drew⟩
theorem Kp.setCell {R : Nat} {A B : World} (h : Kp R A B) (i : Nat) (v : Value) : Kp R A (B.setCell ⟨R, i, none⟩ v) := ⟨h.below.setCell (Nat.le_refl _) v, h.others.setCell _ rfl v⟩
theorem Kp.of_below {R : Nat} {A B : World} (h : Below A.heap.size A B) (hR : R ≤ A.heap.size) : Kp R A B :=
  ⟨h.mono hR, fun k _ hk _ _ => (h.block k (Array.getElem?_eq_some_iff.1 hk).1).trans hk⟩
theorem ReadAt.lt {W : World} {R : Nat} {v : Value} {a : Nat} (h : ReadAt W R v a) : R < W.heap.size := (Array.getElem?_eq_some_iff.1 h).1
theorem ReadAt.c0 {W : World} {R : Nat} {v : Value} {a : Nat} (h : ReadAt W R v a) : W.cell? ⟨R, 0, none⟩ = some v := by simp [World.cell?, show W.heap[R]? = _ from h]
theorem ReadAt.c1 {W : World} {R : Nat} {v : Value} {a : Nat} (h : ReadAt W R v a) : W.cell? ⟨R, 1, none⟩ = some (.int .i64 a) := by simp [World.cell?, show W.heap[R]? = _ from h]
theorem ReadAt.free {W : World} {R : Nat} {v : Value} {a : Nat} (h : ReadAt W R v a) (i : Nat) : W.frozen? ⟨R, i, none⟩ = false := by simp [World.frozen?, show W.heap[R]? = _ from h]
theorem heap_set_same {W : World} {b o : Nat} {v : Value} {cs : Array Value} {t : TypeId} {fr : Nat × Nat} (h : W.heap[b]? = some (.cells cs t fr)) : (W.setCell ⟨b, o, none⟩ v).heap[b]? = some (.cells (cs.setIfInBounds o v) t fr) := by
  obtain ⟨hlt, hk⟩ := Array.getElem?_eq_some_iff.1 h
  show (W.heap.modify b _)[b]? = _
  rw [Array.getElem?_eq_getElem (by rw [Array.size_modify]; exact hlt), Array.getElem_modify_self, hk]
  rfl
theorem ReadAt.set0 {W : World} {R : Nat} {v : Value} {a : Nat} (h : ReadAt W R v a) (u : Value) : ReadAt (W.setCell ⟨R, 0, none⟩ u) R u a := heap_set_same h
theorem ReadAt.set1 {W : World} {R : Nat} {v : Value} {a : Nat} (h : ReadAt W R v a) (u : Nat) : ReadAt (W.setCell ⟨R, 1, none⟩ (.int .i64 u)) R v u := heap_set_same h
theorem ReadAt.alloc {W : World} {R : Nat} {v : Value} {a : Nat} (h : ReadAt W R v a) (O : Obj) : ReadAt (W.alloc O) R v a := (Below.heap_alloc W O R h.lt).trans h
theorem owns_set {W : World} {base R e size i : Nat} {v u : Value} {n : Nat} {xs : List Value} (h : W.ownsRow base e size v n xs) (hR : R < base) : (W.setCell ⟨R, i, none⟩ u).ownsRow base e size v n xs := by
  refine ⟨h.1, ?_⟩
  rcases h.2 with h0 | ⟨g, cap, cur, hv, hb, hh, hr⟩
  · exact .inl h0
  · exact .inr ⟨g, cap, cur, hv, hb, (Below.heap_setCell _ _ _ g (by simp; omega)).trans hh, hr⟩
theorem owns_alloc {W : World} {base e size : Nat} {v : Value} {n : Nat} {xs : List Value} (h : W.ownsRow base e size v n xs) (O : Obj) : (W.alloc O).ownsRow base e size v n xs := by
  refine ⟨h.1, ?_⟩
  rcases h.2 with h0 | ⟨g, cap, cur, hv, hb, hh, hr⟩
  · exact .inl h0
  · exact .inr ⟨g, cap, cur, hv, hb, (Below.heap_alloc W O g (Array.getElem?_eq_some_iff.1 hh).1).trans hh, hr⟩
theorem owns_under {W W' : World} {base e size : Nat} {v : Value} {n : Nat} {xs : List Value} (h : W.ownsRow base e size v n xs) (hb : Below W.heap.size W W') : W'.ownsRow base e size v n xs := by
  refine ⟨h.1, ?_⟩
  rcases h.2 with h0 | ⟨g, cap, cur, hv, hbb, hh, hr⟩
  · exact .inl h0
  · exact .inr ⟨g, cap, cur, hv, hbb, (hb.block g (Array.getElem?_eq_some_iff.1 hh).1).trans hh, hr⟩
theorem owns_down {W : World} {base base' e size : Nat} {v : Value} {n : Nat} {xs : List Value} (h : W.ownsRow base e size v n xs) (hb : base' ≤ base) : W.ownsRow base' e size v n xs := by
  refine ⟨h.1, ?_⟩
  rcases h.2 with h0 | ⟨g, cap, cur, hv, hbb, hr⟩
  · exact .inl h0
  · exact .inr ⟨g, cap, cur, hv, by omega, hr⟩
theorem RdIs.alloc {W : World} {R : Nat} {cs : List (Int × Tok)} {a : Nat} (h : RdIs W R cs a) (O : Obj) : RdIs (W.alloc O) R cs a := by
  obtain ⟨v, h1, h2⟩ := h
  exact ⟨v, h1.alloc O, owns_alloc h2 O⟩
theorem RdIs.set1 {W : World} {R : Nat} {cs : List (Int × Tok)} {a : Nat} (h : RdIs W R cs a) (u : Nat) : RdIs (W.setCell ⟨R, 1, none⟩ (.int .i64 u)) R cs u := by
  obtain ⟨v, h1, h2⟩ := h
  exact ⟨v, h1.set1 u, owns_set h2 (by omega)⟩
theorem RdIs.under {W W' : World} {R : Nat} {cs : List (Int × Tok)} {a : Nat} (h : RdIs W R cs a) (hb : Below W.heap.size W W') : RdIs W' R cs a := by
  obtain ⟨v, h1, h2⟩ := h
  exact ⟨v, (hb.block R h1.lt).trans h1, owns_under h2 hb⟩
theorem slice_form {W : World} {base e size : Nat} {v : Value} {n : Nat} {xs : List Value} (h : W.ownsRow base e size v n xs) : ∃ a cap, v = .slice a n cap ∧ n ≤ cap ∧ ∀ g, v.ownBlock = some g → base ≤ g ∧ ∃ c, W.heap[g]? = some (.cells c e (0, 0)) := by
  rcases h.2 with ⟨rfl, rfl⟩ | ⟨g, cap, cur, rfl, hg, hh, hc, _⟩
  · exact ⟨_, _, rfl, Nat.le_refl _, fun g e => by simp [Value.ownBlock] at e⟩
  · exact ⟨_, _, rfl, hc, fun g' e => by simp [Value.ownBlock] at e; subst e; exact ⟨hg, _, hh⟩⟩
theorem infoC : (Tryd.prog.info? 51).map (fun i => (i.zero, i.size, i.bytes)) = some (some (.agg #[.int .i64 0, .string ⟨#[]⟩, .int .i64 0, .int .i64 0, .int .i64 0]), 5, 48) := by kernel_rfl

set_option maxRecDepth 100000 in
set_option maxHeartbeats 4000000 in
theorem tell_any (w : World) (R : Nat) (cs : List (Int × Tok)) (a : Nat) (t : Tok) (n : Int) (h : RdIs w R cs a) (hn : cs.length + 1 ≤ 2932031007402) :
    Calls Tryd.prog 71 #[.pointer (some ⟨R, 0, none⟩), tokV t, .int .i64 n] w fun e w' => e = .returned (.tuple #[]) ∧ RdIs w' R (cs ++ [(n, t)]) a ∧ Kp R w w' := by
  obtain ⟨v, hRd, hown⟩ := h
  obtain ⟨av, cap, hv, hcap, hg⟩ := slice_form hown
  obtain ⟨i0, hi0, hz0, hz1, hz3⟩ := info_parts infoC
  obtain ⟨L, hL⟩ : ∃ L, L = cs.length := ⟨_, rfl⟩
  have HL : Hid (cs.length = L) := hL.symm
  rw [← hL] at hown hv hn
  subst hv
  clear hL
  obtain ⟨t, o1, o2, o3⟩ := t
  unfold tokV
  dsimp only
  obtain ⟨W1, hW1⟩ : ∃ W1, W1 = w.alloc (.cells #[.string t, .int .i64 o1, .int .i64 o2, .int .i64 o3] 41) := ⟨_, rfl⟩
  have b0 : W1.cell? ⟨w.heap.size, 0, none⟩ = some (.string t) := by rw [hW1]; simp [go_sem]
  have b1 : W1.cell? ⟨w.heap.size, 1, none⟩ = some (.int .i64 o1) := by rw [hW1]; simp [go_sem]
  have b2 : W1.cell? ⟨w.heap.size, 2, none⟩ = some (.int .i64 o2) := by rw [hW1]; simp [go_sem]
  have b3 : W1.cell? ⟨w.heap.size, 3, none⟩ = some (.int .i64 o3) := by rw [hW1]; simp [go_sem]
  have hRd1 : ReadAt W1 R (.slice av L cap) a := by rw [hW1]; exact hRd.alloc _
  have r0 := hRd1.c0
  have hown1 : W1.ownsRow (R + 1) 51 5 (.slice av L cap) L (rowC cs) := by rw [hW1]; exact owns_alloc hown _
  have hlt := hRd.lt
  have hlt1 := hRd1.lt
  have hK1 : Kp R w W1 := by rw [hW1]; exact (Kp.refl R w).alloc (by omega) _
  have hgR : some R ≠ (Value.slice av L cap).ownBlock := fun e' => by have := (hg R e'.symm).1; omega
  have hrow1 : ∀ g, (Value.slice av L cap).ownBlock = some g → ∃ c fz, W1.heap[g]? = some (.cells c 51 fz) := fun g e => by
    obtain ⟨_, c, hc⟩ := hg g e
    exact ⟨c, (0, 0), by rw [hW1]; exact (Below.heap_alloc w _ g (Array.getElem?_eq_some_iff.1 hc).1).trans hc⟩
  have HW1 : Hid (W1 = w.alloc (.cells #[.string t, .int .i64 o1, .int .i64 o2, .int .i64 o3] 41)) := hW1
  clear hW1
  go_enter Tryd.func71, Tryd.ntmps71
  go_wp2_with fail
  rw [← HW1.out]
  clear hRd hown
  have hne1 : R ≠ w.heap.size := by omega
  have hne2 : w.heap.size ≠ R := by omega
  go_region_law (refine step_append_lies _ (by rfl) _ _ _ (by rfl) (R + 1) 51 i0 _ 5 48 Tryd.underlying37 hi0 hz0 hz1 hz3 rfl (by omega) _ L (rowC cs) (by rfl) (by exact (hown1.drew.alloc _)) ⟨W1.heap.size, 0, none⟩ 1 1 (codeCells (n, ⟨t, o1, o2, o3⟩)) (by rfl) (by rfl) (World.news_of_block (cs := #[.int .i64 n, .string t, .int .i64 o1, .int .i64 o2, .int .i64 o3]) (t := 51) (fr := (0, 0)) (heap_alloc_new W1.drew _)) (by simp [codeCells, tokCells, Value.oneCell']) (by omega) (by unfold maxLen; omega) (by omega) (by simp; omega) (W1.heap.size + 1) (by simp) ?_; intro gg cap' w3 hown3 hgrow hat hlt3; have hRd3 : ReadAt w3 R (.slice av L cap) a := ((hgrow.block R (by simp; omega) hgR).trans (Below.heap_alloc W1.drew _ R (by simp; omega))).trans hRd1; have hf3 := hRd3.free; have hc3 := hRd3.c0)
  all_goals go_wp2
  all_goals go_end0
  all_goals
    refine ⟨rfl, ⟨_, hRd3.set0 _, ?_⟩, ?_⟩
    · have e1 : (cs ++ [(n, (⟨t, o1, o2, o3⟩ : Tok))]).length = L + 1 := by rw [← HL.out]; simp
      rw [e1, rowC_append]
      exact owns_set hown3 (by omega)
    · have k2 : Kp R w (W1.drew.alloc (.cells #[.int .i64 n, .string t, .int .i64 o1, .int .i64 o2, .int .i64 o3] 51)) := hK1.drew.alloc (by simp; omega) _
      refine Kp.setCell ⟨k2.below.grown hgrow (by simp; omega) (fun k e => by have := (hg k e).1; omega), k2.others.grown hgrow fun g e => ?_⟩ _ _
      obtain ⟨c, fz, hc⟩ := hrow1 g e
      exact ⟨c, fz, (Below.heap_alloc W1.drew _ g (Array.getElem?_eq_some_iff.1 hc).1).trans hc⟩
end Go.Proofs.YtffchjigpppoaaaDoor
