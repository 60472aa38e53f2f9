/- Rows of numbers and of words in memory. -/
import Derived.Test.YtdnkgjjboonmnabDoorEOnto
import Derived.Test.YtdnkgjjboonmnabDoorSymGood
import Derived.Deep.AppendLies
import Derived.Deep.Upon
import Derived.Deep.Light
import Derived.Outline
import Derived.BigQuiet
import Derived.Deep.QuietTactic
namespace Go.Proofs.YtdnkgjjboonmnabDoor.E
open Go.RowKit

/-- A slice of numbers in memory. -/
def IntsAt (w : World) (a : Option Addr) (l : List Int) : Prop := ∀ i x, l[i]? = some x → ∃ b off, a = some ⟨b, off, none⟩ ∧ w.cell? ⟨b, off + i, none⟩ = some (.int .i64 x)
def intV (x : Int) : Value := .int .i64 x
theorem infoI : (Tryd.prog.info? 3).map (fun i => (i.zero, i.size, i.bytes)) = some (some (.int .i64 0), 1, 8) := by kernel_rfl
theorem IntsAt.under {w w' : World} {a : Option Addr} {l : List Int} (h : IntsAt w a l) (hb : Below w.heap.size w w') : IntsAt w' a l := fun i x hx => by
  obtain ⟨b, off, e, hc⟩ := h i x hx
  exact ⟨b, off, e, (hb.cell (p := ⟨b, off + i, none⟩) (World.block_lt_of_cell? _ _ hc)).trans hc⟩
/-- A row of values in memory, a cell each. -/
def RowAt (w : World) (a : Option Addr) (vs : List Value) : Prop := ∀ (i : Nat) (u : Value), vs[i]? = some u → ∃ b off, a = some ⟨b, off, none⟩ ∧ w.cell? ⟨b, off + i, none⟩ = some u
theorem own_row {W : World} {base : Nat} {e : TypeId} {v : Value} {n : Nat} {xs : List Value} (h : W.ownsRow base e 1 v n xs) : ∃ a c, v = .slice a n c ∧ RowAt W a xs := by
  rcases h.2 with ⟨rfl, rfl⟩ | ⟨g, cap, cur, rfl, hg, hh, hn, hc, hsz, ht⟩
  · exact ⟨_, _, rfl, fun i u hi => by
      have := h.1
      rw [Nat.zero_mul] at this
      rw [List.eq_nil_of_length_eq_zero this] at hi
      simp at hi⟩
  · refine ⟨_, _, rfl, fun i u hi => ⟨g, 0, rfl, ?_⟩⟩
    have hlt : i < n * 1 := by have := h.1; have := (List.getElem?_eq_some_iff.1 hi).1; omega
    have : cur[i]? = some u := by
      rw [← ht, List.getElem?_take, if_pos hlt] at hi
      simpa using hi
    rw [Nat.zero_add]
    simp [World.cell?, hh, this]
theorem RowAt.ints {w : World} {a : Option Addr} {l : List Int} (h : RowAt w a (l.map intV)) : IntsAt w a l := fun i x hi => h i (intV x) (by rw [List.getElem?_map, hi]; rfl)
theorem IntsAt.row {w : World} {a : Option Addr} {l : List Int} (h : IntsAt w a l) : RowAt w a (l.map intV) := fun i u hi => by
  rw [List.getElem?_map] at hi
  obtain ⟨x, hx, rfl⟩ := Option.map_eq_some_iff.1 hi
  exact h i x hx
theorem RowAt.under {B : Nat} {w w' : World} {a : Option Addr} {vs : List Value} (h : RowAt w a vs) (hb : Below B w w') (hB : w.heap.size ≤ B) : RowAt w' a vs := fun i u hi => by
  obtain ⟨b, off, e, hc⟩ := h i u hi
  exact ⟨b, off, e, (hb.cell (p := ⟨b, off + i, none⟩) (Nat.lt_of_lt_of_le (World.block_lt_of_cell? _ _ hc) hB)).trans hc⟩
theorem RowAt.news {w : World} {a : Option Addr} {vs : List Value} (h : RowAt w a vs) : ∀ (j : Nat) (u : Value), vs[j]? = some u → ∃ ad, a = some ad ∧ w.cell? (ad.add j) = some u := fun j u hu => by
  obtain ⟨b, off, rfl, hc⟩ := h j u hu
  exact ⟨_, rfl, by rw [← hc]; unfold Addr.add; split <;> simp_all⟩
theorem owns_under {W W' : World} {base e size : Nat} {v : Value} {n : Nat} {xs : List Value} (h : W.ownsRow base e size v n xs) (hb : Below W.heap.size W W') : W'.ownsRow base e size v n xs := owns_same h fun g e => hb.block g (own_low h g e)
theorem same_bytes (a b : ByteArray) : (a.toList == b.toList) = decide (a = b) := by
  rw [Lib.toList_data, Lib.toList_data]
  by_cases h : a = b
  · subst h; simp
  · rw [decide_eq_false h]
    rw [beq_eq_false_iff_ne]
    intro e
    apply h
    obtain ⟨⟨a⟩⟩ := a
    obtain ⟨⟨b⟩⟩ := b
    have : a = b := e
    rw [this]
theorem drewN2 (w : World) (a b : Nat) : (w.drewN a).drewN b = w.drewN (a + b) := by simp [World.drewN, Nat.add_assoc]
theorem row_new (w : World) (vs : List Value) (t : TypeId) (B : Nat) (hB : w.heap.size = B) : RowAt (w.alloc (.cells vs.toArray t)) (some ⟨B, 0, none⟩) vs := fun i u hi => ⟨B, 0, rfl, by
  subst hB
  rw [Nat.zero_add]
  exact (World.cell?_alloc_new w _ _ i).trans (by simpa using hi)⟩
/-- A slice of words in memory. -/
def WordsAt (w : World) (a : Option Addr) (ws : List ByteArray) : Prop := ∀ (i : Nat) (s : ByteArray), ws[i]? = some s → ∃ b off, a = some ⟨b, off, none⟩ ∧ w.cell? ⟨b, off + i, none⟩ = some (.string s)
theorem WordsAt.under {w w' : World} {a : Option Addr} {ws : List ByteArray} (h : WordsAt w a ws) (hb : Below w.heap.size w w') : WordsAt w' a ws := fun i s hi => by
  obtain ⟨b, off, e, hc⟩ := h i s hi
  exact ⟨b, off, e, (hb.cell (p := ⟨b, off + i, none⟩) (World.block_lt_of_cell? _ _ hc)).trans hc⟩
end Go.Proofs.YtdnkgjjboonmnabDoor.E
