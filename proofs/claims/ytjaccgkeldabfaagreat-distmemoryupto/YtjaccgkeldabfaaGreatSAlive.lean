/- The chapter's example: alive answers true. -/
import Derived.Test.YtjaccgkeldabfaaGreatSAll
import Derived.Test.YtjaccgkeldabfaaGreatSSize
namespace Go.Proofs.YtjaccgkeldabfaaGreat.S
open Go.RowKit

theorem row_new (w : World) (vs : List Value) (t : TypeId) (B : Nat) (hB : w.heap.size = B) : RowAt (w.alloc (.cells vs.toArray t)) (some ⟨B, 0, none⟩) vs := fun i u hi => ⟨B, 0, rfl, by
  subst hB
  rw [Nat.zero_add, show (w.alloc (.cells vs.toArray t)).cell? ⟨w.heap.size, i, none⟩ = _ from World.cell?_alloc_new w _ _ i]
  simpa using hi⟩
theorem ints_new (w : World) (l : List Int) (B : Nat) (hB : w.heap.size = B) : IntsAt (w.alloc (.cells (l.map intV).toArray 3)) (some ⟨B, 0, none⟩) l := (row_new w (l.map intV) 3 B hB).ints
theorem ints_nil (w : World) (a : Option Addr) : IntsAt w a [] := fun i x h => by simp at h
theorem look_mem {bl : List (Int × List Int)} (hr : Rises bl) {p : Int × List Int} (hp : p ∈ bl) : look bl p.1 = some p.2 := by
  obtain ⟨i, hi⟩ := List.getElem?_of_mem hp
  exact look_at hr hi
theorem look_out {bl : List (Int × List Int)} {y : Int} (h : ∀ p ∈ bl, p.1 ≠ y) : look bl y = none := look_none fun _ p hi => h p (List.mem_of_getElem? hi)
theorem Owns.binds {base n c : Nat} {w : World} {a : Option Addr} {vs : List (Int × Value)} {bl : List (Int × List Int)} (h : Owns base w vs bl) (ho : w.ownsRow base 46 2 (.slice a n c) n (rowB vs)) (hr : Rises bl) (hl : bl.length = n) : BindsAt w a n bl := by
  obtain ⟨a', c', e, _, hrow, _⟩ := own_row ho
  cases e
  exact ⟨⟨vs, hrow, h.matches⟩, hl, hr⟩
theorem ex_subs {bl : List (Int × List Int)} (hp : bl.Perm [(7, [1, 8]), (8, [])]) (hr : Rises bl) : subs bl [2, 7, 8, 7, 9] = [2, 1, 8, 1, 8, 9] ∧ subs bl [7, 7] = [1, 8, 1, 8] := by
  have h7 : look bl 7 = some [1, 8] := look_mem (p := (7, [1, 8])) hr (hp.mem_iff.2 (by simp))
  have h8 : look bl 8 = some [] := look_mem (p := (8, [])) hr (hp.mem_iff.2 (by simp))
  have hno : ∀ y : Int, y ≠ 7 → y ≠ 8 → look bl y = none := fun y h1 h2 => look_out fun p hq e => by
    have := hp.mem_iff.1 hq
    simp at this
    rcases this with rfl | rfl
    · exact h1 e.symm
    · exact h2 e.symm
  have h2 := hno 2 (by decide) (by decide)
  have h9 := hno 9 (by decide) (by decide)
  constructor <;> simp [subs, sub, h7, h8, h2, h9]

end Go.Proofs.YtjaccgkeldabfaaGreat.S
