/- A table of symbols and labels: what it is, and how it lies in memory. -/
import Derived.Test.YtdnkgjjboonmnabDoorSymMap
import Derived.Test.YtdnkgjjboonmnabDoorShelf
namespace Go.Proofs.YtdnkgjjboonmnabDoor
open Go.RowKit

/-- A table: the symbols (name, variable), the numbers of those that are active, the open scopes (the innermost last) with the numbers that became active in them, the labels. -/
structure Tab where
  syms : List (ByteArray × Bool)
  act : List Nat
  scopes : List (List Nat)
  labels : List ByteArray
def tab0 : Tab := ⟨[], [], [], []⟩
def symCells (l : List (ByteArray × Bool)) : List Value := l.flatMap (fun p => [.string p.1, .bool p.2])
/-- The number of a name. -/
def numOf (l : List (ByteArray × Bool)) (s : ByteArray) : Option Nat := l.findIdx? (fun p => p.1 = s)
def actOf (T : Tab) (s : ByteArray) : Option Nat := (numOf T.syms s).filter (fun n => n ∈ T.act)
def labOf (l : List ByteArray) (s : ByteArray) : Option Nat := l.findIdx? (fun t => t = s)
/-- The table T lies at the block B, behind at most k stores into each map. -/
structure TabIs (W : World) (B k : Nat) (T : Tab) (vs vc vl : Value) (mk ma mt : Nat) (vars : List Value) : Prop where
  block : W.heap[B]? = some (.cells #[vs, .map (some mk), .map (some ma), vc, vl, .map (some mt)] 41 (0, 0))
  syms : W.ownsRow 0 55 2 vs T.syms.length (symCells T.syms)
  known : ∃ n, n ≤ k ∧ MapIs W mk n (numOf T.syms)
  active : ∃ n, n ≤ k ∧ MapIs W ma n (actOf T)
  scopes : W.ownsRow 0 61 1 vc T.scopes.length vars
  inner : ∀ (i : Nat) (v : Value), vars[i]? = some v → ∃ l : List Nat, T.scopes[i]? = some l ∧ W.ownsRow 0 3 1 v l.length (l.map (fun n : Nat => Value.int .i64 n))
  labels : W.ownsRow 0 9 1 vl T.labels.length (T.labels.map Value.string)
  taken : ∃ n, n ≤ k ∧ MapIs W mt n (labOf T.labels)
  apart : ([B, mk, ma, mt] ++ ([vs, vc, vl] ++ vars).filterMap Value.ownBlock).Nodup
/-- The blocks of a table. -/
def blocksOf (B mk ma mt : Nat) (vs vc vl : Value) (vars : List Value) : List Nat := [B, mk, ma, mt] ++ ([vs, vc, vl] ++ vars).filterMap Value.ownBlock
/-- The table T lies at the block B, in the blocks bs. -/
def TabAt (W : World) (bs : List Nat) (B k : Nat) (T : Tab) : Prop := ∃ vs vc vl mk ma mt vars, TabIs W B k T vs vc vl mk ma mt vars ∧ bs = blocksOf B mk ma mt vs vc vl vars
/-- Only the blocks bs have turned, and new ones have come. -/
structure Turned (bs : List Nat) (W W' : World) : Prop where
  os : W'.os = W.os
  tape : W'.tape = W.tape
  output : W'.output = W.output
  size : W.heap.size ≤ W'.heap.size
  block : ∀ i, i < W.heap.size → i ∉ bs → W'.heap[i]? = W.heap[i]?
theorem Turned.below {bs : List Nat} {W W' : World} (h : Turned bs W W') {N : Nat} (hN : N ≤ W.heap.size) (hb : ∀ b ∈ bs, N ≤ b) : Below N W W' :=
  ⟨h.os, h.tape, h.output, h.size, fun i hi => h.block i (by omega) (fun hm => by have := hb i hm; omega)⟩
theorem TabIs.mem {W : World} {B k : Nat} {T : Tab} {vs vc vl : Value} {mk ma mt : Nat} {vars : List Value} (h : TabIs W B k T vs vc vl mk ma mt vars) : ∀ b ∈ blocksOf B mk ma mt vs vc vl vars, b < W.heap.size := by
  have own : ∀ (v : Value) (base e size n : Nat) (xs : List Value) (g : Nat), W.ownsRow base e size v n xs → v.ownBlock = some g → g < W.heap.size := by
    intro v base e size n xs g ho hg
    rcases ho.2 with ⟨rfl, _⟩ | ⟨g', cap, cur, rfl, _, hh, _⟩
    · simp [Value.ownBlock] at hg
    · have e' : g' = g := by simpa [Value.ownBlock] using hg
      subst e'
      exact (Array.getElem?_eq_some_iff.1 hh).1
  have mp : ∀ (b n : Nat) (f : ByteArray → Option Nat), MapIs W b n f → b < W.heap.size := by
    rintro b n f ⟨D, ⟨es, clock, hh, _⟩, _⟩
    exact (Array.getElem?_eq_some_iff.1 hh).1
  intro b hb
  rcases List.mem_append.1 hb with hb | hb
  · simp only [List.mem_cons, List.not_mem_nil, or_false] at hb
    rcases hb with rfl | rfl | rfl | rfl
    · exact (Array.getElem?_eq_some_iff.1 h.block).1
    · obtain ⟨n, _, hm⟩ := h.known; exact mp _ _ _ hm
    · obtain ⟨n, _, hm⟩ := h.active; exact mp _ _ _ hm
    · obtain ⟨n, _, hm⟩ := h.taken; exact mp _ _ _ hm
  · obtain ⟨v, hv, hg⟩ := List.mem_filterMap.1 hb
    rcases List.mem_append.1 hv with hv | hv
    · simp only [List.mem_cons, List.not_mem_nil, or_false] at hv
      rcases hv with rfl | rfl | rfl
      · exact own _ _ _ _ _ _ _ h.syms hg
      · exact own _ _ _ _ _ _ _ h.scopes hg
      · exact own _ _ _ _ _ _ _ h.labels hg
    · obtain ⟨i, hi⟩ := List.getElem?_of_mem hv
      obtain ⟨l, _, ho⟩ := h.inner i v hi
      exact own _ _ _ _ _ _ _ ho hg

set_option maxRecDepth 100000 in
set_option maxHeartbeats 1000000 in
theorem new_any (w : World) : Calls Tryd.prog 4 #[] w fun e w' => e = .returned (.pointer (some ⟨w.heap.size + 3, 0, none⟩)) ∧ (∃ bs, TabAt w' bs (w.heap.size + 3) 0 tab0 ∧ ∀ b ∈ bs, w.heap.size ≤ b) ∧ Below w.heap.size w w' := by
  have hmm := @run_makeMap Tryd.prog
  go_enter Tryd.func4, Tryd.ntmps4
  go_wp2
  go_ret
  refine ⟨rfl, ?_, ((((Below.refl _ _).alloc (Nat.le_refl _) _).alloc (by simp) _).alloc (by simp; omega) _).alloc (by simp; omega) _⟩
  refine ⟨_, ⟨.slice none 0 0, .slice none 0 0, .slice none 0 0, w.heap.size, w.heap.size + 1, w.heap.size + 1 + 1, [], ?_, rfl⟩, fun b hb => by simp [blocksOf, Value.ownBlock] at hb; omega⟩
  have m1 : ∀ (A B C : Obj), MapIs ((((w.alloc (.map #[] 0)).alloc A).alloc B).alloc C) w.heap.size 0 (fun _ => none) := fun A B C =>
    (MapIs.made w).kept (by rw [Below.heap_alloc _ _ _ (by simp <;> omega), Below.heap_alloc _ _ _ (by simp <;> omega), Below.heap_alloc _ _ _ (by simp)])
  have m2 : ∀ (A B C : Obj), MapIs ((((w.alloc A).alloc (.map #[] 0)).alloc B).alloc C) (w.heap.size + 1) 0 (fun _ => none) := fun A B C => by
    have h := MapIs.made (w.alloc A)
    rw [show (w.alloc A).heap.size = w.heap.size + 1 by simp] at h
    exact h.kept (by rw [Below.heap_alloc _ _ _ (by simp <;> omega), Below.heap_alloc _ _ _ (by simp)])
  have m3 : ∀ (A B C : Obj), MapIs ((((w.alloc A).alloc B).alloc (.map #[] 0)).alloc C) (w.heap.size + 1 + 1) 0 (fun _ => none) := fun A B C => by
    have h := MapIs.made ((w.alloc A).alloc B)
    rw [show ((w.alloc A).alloc B).heap.size = w.heap.size + 1 + 1 by simp] at h
    exact h.kept (by rw [Below.heap_alloc _ _ _ (by simp)])
  have e0 : (fun _ => none : ByteArray → Option Nat) = numOf tab0.syms := by funext s; rfl
  have e1 : (fun _ => none : ByteArray → Option Nat) = actOf tab0 := by funext s; rfl
  have e2 : (fun _ => none : ByteArray → Option Nat) = labOf tab0.labels := by funext s; rfl
  refine ⟨?_, World.ownsRow_nil _ _ _ _, ⟨0, Nat.le_refl _, e0 ▸ m1 _ _ _⟩, ⟨0, Nat.le_refl _, e1 ▸ m2 _ _ _⟩, World.ownsRow_nil _ _ _ _, fun i v h => by simp at h, World.ownsRow_nil _ _ _ _, ⟨0, Nat.le_refl _, e2 ▸ m3 _ _ _⟩, ?_⟩
  · have h := heap_alloc_new (((w.alloc (.map #[] 0)).alloc (.map #[] 0)).alloc (.map #[] 0)) (Obj.cells #[.slice none 0 0, .map (some w.heap.size), .map (some (w.heap.size + 1)), .slice none 0 0, .slice none 0 0, .map (some (w.heap.size + 1 + 1))] 41)
    rw [show (((w.alloc (.map #[] 0)).alloc (.map #[] 0)).alloc (.map #[] 0)).heap.size = w.heap.size + 3 by simp] at h
    exact h
  · simp [Value.ownBlock]
    exact ⟨by omega, (List.nodup_nil : ([] : List Nat).Nodup)⟩
end Go.Proofs.YtdnkgjjboonmnabDoor
