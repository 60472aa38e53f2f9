/- An operation taken first, in few words. -/
import Derived.OrdersHeld
import Derived.RowKit
import Derived.Below
import Derived.WalkKit
import Derived.Deep.RegionHeld
namespace Go.Proofs.YtbancemhfjjmlaaGreatDoor
theorem hid {p : Prop} (h : p) : Go.RowKit.Hid p := h
theorem bTr {w a b : World} (h : Go.RowKit.Hid (Go.RowKit.Below w.heap.size w a)) (g : Go.RowKit.Below a.heap.size a b) : Go.RowKit.Hid (Go.RowKit.Below w.heap.size w b) := h.out.trans (g.mono h.out.size)
theorem aIx {α : Type} {xs : Array α} {i : Nat} {b : α} (h : xs[i]? = some b) : i < xs.size := (Array.getElem?_eq_some_iff.1 h).1
theorem cMo {P : Program} {f : FuncId} {args : Array Value} {w : World} {R R' : Ending → World → Prop} (h : Calls P f args w R) (g : ∀ e w', R e w' → R' e w') : Calls P f args w R' := h.mono g
theorem eXa {α : Type} (a : α) : ∃ x, x = a := ⟨_, rfl⟩
theorem eXb {α : Type} (a : α) : ∃ x, a = x := ⟨_, rfl⟩
theorem bRf {B : Nat} {w : World} : Go.RowKit.Below B w w := Go.RowKit.Below.refl B w
theorem nLt {a b c : Nat} (h : a ≤ b) (g : b ≤ c) : a ≤ c := Nat.le_trans h g
theorem gEq {α : Type} {l : List α} {i : Nat} (h : i < l.length) : l[i]? = some l[i] := List.getElem?_eq_getElem h
theorem mGe {α : Type} {l : List α} {i : Nat} {a : α} (h : l[i]? = some a) : a ∈ l := List.mem_of_getElem? h
theorem lAp {α : Type} {a b : List α} : (a ++ b).length = a.length + b.length := List.length_append
theorem lMa {α β : Type} {l : List α} (f : α → β) : (l.map f).length = l.length := List.length_map f
theorem mAp {α : Type} {a : α} {s t : List α} : a ∈ s ++ t ↔ a ∈ s ∨ a ∈ t := List.mem_append
theorem mSg {α : Type} {a b : α} : a ∈ [b] ↔ a = b := List.mem_singleton
theorem bLt {w : World} {a : Addr} {u : Value} (h : w.cell? a = some u) : a.block < w.heap.size := World.block_lt_of_cell? w a h
section
variable {P : Program} {ops : Array Oper} {Q : Exit → Act → World → Prop} {md : Region.Mode} {S : World → Prop} {fuel : Nat} {listed : Array Bool} {a : Act} {w : World}
theorem tk (i : Nat) (oi : Oper) (v : Value) (hS : S w) (hy : ∀ w, S w → (execOp a.eval oi).run P w = .ok (.value v) w)
    (h : wpAnyH P md ops Q S fuel (listed.setIfInBounds i true) (a.put oi.dst v) w) (hi : ops[i]? = some oi := by rfl) (hs : Region.noSelect ops = true := by kernel_rfl)
    (hf : Region.free md ops listed i = true := by kernel_rfl) (hr : (Region.ready md ops listed).contains i = true := by kernel_rfl) (hQ : ∀ c a w, Q (.panic c) (a.put oi.dst v) w → Q (.panic c) a w := by exact fun _ _ _ h => h)
    (hg : Region.wanted oi (yielded ops a.tmps) = true := by rfl) : wpAnyH P md ops Q S (fuel + 1) listed a w :=
  wpAnyH_take hi hs hf hr hQ (Or.inl ⟨hg, hy⟩) hS h
theorem sk (i : Nat) (oi : Oper) (hS : S w)
    (h : wpAnyH P md ops Q S fuel (listed.setIfInBounds i true) (a.put oi.dst undef) w) (hi : ops[i]? = some oi := by rfl) (hs : Region.noSelect ops = true := by kernel_rfl)
    (hf : Region.free md ops listed i = true := by kernel_rfl) (hr : (Region.ready md ops listed).contains i = true := by kernel_rfl) (hQ : ∀ c a w, Q (.panic c) (a.put oi.dst undef) w → Q (.panic c) a w := by exact fun _ _ _ h => h)
    (hg : Region.wanted oi (yielded ops a.tmps) = false := by rfl) : wpAnyH P md ops Q S (fuel + 1) listed a w :=
  wpAnyH_take hi hs hf hr hQ (Or.inr ⟨hg, rfl⟩) hS h
/-- As tk: the operation, what it yields and what is behind it are found by the walk itself. -/
theorem tkq (i : Nat) {oi : Oper} {v : Value} {l' : Array Bool} {a' : Act} (hS : S w) (h : wpAnyH P md ops Q S fuel l' a' w) (hi : ops[i]? = some oi := by ((simp only [List.getElem?_toArray, List.getElem?_cons_zero, List.getElem?_cons_succ]); with_reducible rfl))
    (hy : ∀ w, S w → (execOp a.eval oi).run P w = .ok (.value v) w := by (intro w hSw; (try dsimp only at hSw); go_simp; try with_reducible rfl))
    (ha : a.put oi.dst v = a' := by ((try simp only [Act.put, List.setIfInBounds_toArray, List.set_cons_zero, List.set_cons_succ]); with_reducible rfl))
    (hl : listed.setIfInBounds i true = l' := by ((try simp only [List.setIfInBounds_toArray, List.set_cons_zero, List.set_cons_succ]); with_reducible rfl)) (hs : Region.noSelect ops = true := by kernel_rfl)
    (hf : Region.free md ops listed i = true := by kernel_rfl) (hr : (Region.ready md ops listed).contains i = true := by kernel_rfl) (hQ : ∀ c a w, Q (.panic c) (a.put oi.dst v) w → Q (.panic c) a w := by exact fun _ _ _ h => h)
    (hg : Region.wanted oi (yielded ops a.tmps) = true := by rfl) : wpAnyH P md ops Q S (fuel + 1) listed a w :=
  wpAnyH_take hi hs hf hr hQ (Or.inl ⟨hg, hy⟩) hS (by rw [ha, hl]; exact h)
theorem skq (i : Nat) {oi : Oper} {l' : Array Bool} {a' : Act} (hS : S w) (h : wpAnyH P md ops Q S fuel l' a' w) (hi : ops[i]? = some oi := by ((simp only [List.getElem?_toArray, List.getElem?_cons_zero, List.getElem?_cons_succ]); with_reducible rfl))
    (ha : a.put oi.dst undef = a' := by ((try simp only [Act.put, List.setIfInBounds_toArray, List.set_cons_zero, List.set_cons_succ]); with_reducible rfl))
    (hl : listed.setIfInBounds i true = l' := by ((try simp only [List.setIfInBounds_toArray, List.set_cons_zero, List.set_cons_succ]); with_reducible rfl)) (hs : Region.noSelect ops = true := by kernel_rfl)
    (hf : Region.free md ops listed i = true := by kernel_rfl) (hr : (Region.ready md ops listed).contains i = true := by kernel_rfl) (hQ : ∀ c a w, Q (.panic c) (a.put oi.dst undef) w → Q (.panic c) a w := by exact fun _ _ _ h => h)
    (hg : Region.wanted oi (yielded ops a.tmps) = false := by rfl) : wpAnyH P md ops Q S (fuel + 1) listed a w :=
  wpAnyH_take hi hs hf hr hQ (Or.inr ⟨hg, rfl⟩) hS (by rw [ha, hl]; exact h)
/-- The one operation that may come up. -/
theorem rkq (i : Nat) {o : Oper}
    (h : ∀ K : Act → World → Prop, Shut (∀ a w, S w → (S w → wpAnyH P md ops Q S fuel (listed.setIfInBounds i true) a w) → K a w) → if Region.wanted o (yielded ops a.tmps) = true then Oper.wp P o a w K Q else K (a.put o.dst undef) w)
    (ho : ops[i]? = some o := by ((simp only [List.getElem?_toArray, List.getElem?_cons_zero, List.getElem?_cons_succ]); with_reducible rfl)) (hr : Region.ready md ops listed = [i] := by kernel_rfl) : wpAnyH P md ops Q S (fuel + 1) listed a w :=
  wpAnyH_ready hr (by simp) (AllReadyH.cons ho h AllReadyH.nil)
/-- The way back into the region, laid out anew. -/
theorem aQq {X K : Act → World → Prop} {a' : Act} (hK : Shut (∀ a w, S w → (S w → X a w) → K a w)) (hS : S w) (h : S w → X a' w)
    (ha : a = a' := by ((try simp only [Act.put, List.setIfInBounds_toArray, List.set_cons_zero, List.set_cons_succ]); with_reducible rfl)) : K a w := hK.out _ _ hS (by rw [ha]; exact h)
end
section
variable {P : Program} {ol : List Oper} {Q : Exit → Act → World → Prop} {md : Region.Mode} {S : World → Prop} {fuel : Nat} {listed : Array Bool} {w : World} {l l' : List Value} {df : List Deferred}
theorem put_at (l : List Value) (df : List Deferred) (d : Nat) (v : Value) : Act.put ⟨l.toArray, df⟩ (some d) v = ⟨(l.set d v).toArray, df⟩ := by simp [Act.put]
theorem tkr (i : Nat) {oi : Oper} {d : Nat} {v : Value} (hS : S w) (h : wpAnyH P md ol.toArray Q S fuel (listed.setIfInBounds i true) ⟨l'.toArray, df⟩ w)
    (hi : ol[i]? = some oi := by (dsimp only [List.getElem?_cons_zero, List.getElem?_cons_succ] <;> with_reducible rfl)) (hd : oi.dst = some d := by with_reducible rfl)
    (hy : ∀ w, S w → (execOp (Act.eval ⟨l.toArray, df⟩) oi).run P w = .ok (.value v) w := by (intro w hSw; (try dsimp only at hSw); go_simp; try with_reducible rfl))
    (hl : l.set d v = l' := by ((try dsimp only [List.set_cons_zero, List.set_cons_succ]) <;> with_reducible rfl)) (hs : Region.noSelect ol.toArray = true := by kernel_rfl)
    (hf : Region.free md ol.toArray listed i = true := by kernel_rfl) (hr : (Region.ready md ol.toArray listed).contains i = true := by kernel_rfl)
    (hQ : ∀ c (a : Act) w, Q (.panic c) (a.put oi.dst v) w → Q (.panic c) a w := by exact fun _ _ _ h => h)
    (hg : Region.wanted oi (yielded ol.toArray l.toArray) = true := by kernel_rfl) : wpAnyH P md ol.toArray Q S (fuel + 1) listed ⟨l.toArray, df⟩ w :=
  wpAnyH_take (i := i) (oi := oi) (v := v) (by simpa using hi) hs hf hr hQ (Or.inl ⟨hg, hy⟩) hS (by rw [hd, put_at, hl]; exact h)
theorem skr (i : Nat) {oi : Oper} {d : Nat} (hS : S w) (h : wpAnyH P md ol.toArray Q S fuel (listed.setIfInBounds i true) ⟨l'.toArray, df⟩ w)
    (hi : ol[i]? = some oi := by (dsimp only [List.getElem?_cons_zero, List.getElem?_cons_succ] <;> with_reducible rfl)) (hd : oi.dst = some d := by with_reducible rfl)
    (hl : l.set d undef = l' := by ((try dsimp only [List.set_cons_zero, List.set_cons_succ]) <;> with_reducible rfl)) (hs : Region.noSelect ol.toArray = true := by kernel_rfl)
    (hf : Region.free md ol.toArray listed i = true := by kernel_rfl) (hr : (Region.ready md ol.toArray listed).contains i = true := by kernel_rfl)
    (hQ : ∀ c (a : Act) w, Q (.panic c) (a.put oi.dst undef) w → Q (.panic c) a w := by exact fun _ _ _ h => h)
    (hg : Region.wanted oi (yielded ol.toArray l.toArray) = false := by kernel_rfl) : wpAnyH P md ol.toArray Q S (fuel + 1) listed ⟨l.toArray, df⟩ w :=
  wpAnyH_take (i := i) (oi := oi) (v := undef) (by simpa using hi) hs hf hr hQ (Or.inr ⟨hg, rfl⟩) hS (by rw [hd, put_at, hl]; exact h)
end
end Go.Proofs.YtbancemhfjjmlaaGreatDoor
