/- Slices of numbers in memory; own. -/
import Derived.Test.YtjaccgkeldabfaaGreatProg
import Derived.Test.YtjaccgkeldabfaaGreatSOnto
import Derived.WalkKit
import Derived.BigQuiet
import Derived.Deep.QuietTactic
namespace Go.Proofs.YtjaccgkeldabfaaGreat.S
open Go.RowKit

def intV (x : Int) : Value := .int .i64 x
/-- A slice of numbers in memory. -/
def IntsAt (w : World) (a : Option Addr) (l : List Int) : Prop := ∀ (i : Nat) (x : Int), l[i]? = some x → ∃ b off, a = some ⟨b, off, none⟩ ∧ w.cell? ⟨b, off + i, none⟩ = some (.int .i64 x)
/-- A row of values in memory, a cell each. -/
def RowAt (w : World) (a : Option Addr) (vs : List Value) : Prop := ∀ (i : Nat) (u : Value), vs[i]? = some u → ∃ b off, a = some ⟨b, off, none⟩ ∧ w.cell? ⟨b, off + i, none⟩ = some u
theorem own_row {W : World} {base : Nat} {e : TypeId} {size : Nat} {v : Value} {n : Nat} {xs : List Value} (h : W.ownsRow base e size v n xs) : ∃ a c, v = .slice a n c ∧ n ≤ c ∧ RowAt W a xs ∧ ∀ g, v.ownBlock = some g → base ≤ g := by
  rcases h.2 with ⟨rfl, rfl⟩ | ⟨g, cap, cur, rfl, hg, hh, hn, hc, hsz, ht⟩
  · exact ⟨_, _, rfl, Nat.le_refl _, fun i u hi => by
      have := h.1
      rw [Nat.zero_mul] at this
      rw [List.eq_nil_of_length_eq_zero this] at hi
      simp at hi, fun g e => by cases e⟩
  · refine ⟨_, _, rfl, hn, fun i u hi => ⟨g, 0, rfl, ?_⟩, fun g e => by cases e; exact hg⟩
    have hlt : i < n * size := by have := h.1; have := (List.getElem?_eq_some_iff.1 hi).1; omega
    have : cur[i]? = some u := by
      rw [← ht, List.getElem?_take, if_pos hlt] at hi
      simpa using hi
    rw [Nat.zero_add]
    simp [World.cell?, hh, this]
theorem RowAt.ints {w : World} {a : Option Addr} {l : List Int} (h : RowAt w a (l.map intV)) : IntsAt w a l := fun i x hi => h i (intV x) (by rw [List.getElem?_map, hi]; rfl)
theorem IntsAt.row {w : World} {a : Option Addr} {l : List Int} (h : IntsAt w a l) : RowAt w a (l.map intV) := fun i u hi => by
  rw [List.getElem?_map] at hi
  obtain ⟨x, hx, rfl⟩ := Option.map_eq_some_iff.1 hi
  exact h i x hx
theorem RowAt.under {w w' : World} {a : Option Addr} {vs : List Value} (h : RowAt w a vs) (hb : Below w.heap.size w w') : RowAt w' a vs := fun i u hi => by
  obtain ⟨b, off, e, hc⟩ := h i u hi
  exact ⟨b, off, e, (hb.cell (p := ⟨b, off + i, none⟩) (World.block_lt_of_cell? _ _ hc)).trans hc⟩
theorem IntsAt.under {w w' : World} {a : Option Addr} {l : List Int} (h : IntsAt w a l) (hb : Below w.heap.size w w') : IntsAt w' a l := fun i x hi => by
  obtain ⟨b, off, e, hc⟩ := h i x hi
  exact ⟨b, off, e, (hb.cell (p := ⟨b, off + i, none⟩) (World.block_lt_of_cell? _ _ hc)).trans hc⟩
theorem RowAt.news {w : World} {a : Option Addr} {vs : List Value} (h : RowAt w a vs) : ∀ (j : Nat) (u : Value), vs[j]? = some u → ∃ ad, a = some ad ∧ w.cell? (ad.add j) = some u := fun j u hu => by
  obtain ⟨b, off, rfl, hc⟩ := h j u hu
  exact ⟨_, rfl, by rw [← hc]; unfold Addr.add; split <;> simp_all⟩
theorem infoI : (Tryz.prog.info? 3).map (fun i => (i.zero, i.size, i.bytes)) = some (some (.int .i64 0), 1, 8) := by kernel_rfl
theorem infoB : (Tryz.prog.info? 46).map (fun i => (i.zero, i.size, i.bytes)) = some (some (.agg #[.int .i64 0, .slice none 0 0]), 2, 32) := by kernel_rfl

set_option maxRecDepth 100000 in
set_option maxHeartbeats 2000000 in
/-- own: a list of its own. -/
theorem own_any (w : World) (a : Option Addr) (c : Nat) (l : List Int) (n : Nat) (hl : l.length = n) (hn : n ≤ 17592186043904) (h : IntsAt w a l) :
    Calls Tryz.prog 54 #[.slice a n c] w fun e w' => ∃ v, e = .returned v ∧ w'.ownsRow w.heap.size 3 1 v n (l.map intV) ∧ Below w.heap.size w w' := by
  obtain ⟨i0, hi0, hz0, hz1, hz3⟩ := info_parts infoI
  have H : Hid (IntsAt w a l) := h
  have HL : Hid (l.length = n) := hl
  clear h hl
  go_enter Tryz.func54, Tryz.ntmps54
  go_wp2_with (at_builtin; refine wpList_append_more (w := w) rfl _ _ _ rfl w.heap.size 3 i0 _ 1 8 Tryz.underlying44 hi0 hz0 hz1 hz3 rfl (by omega) _ 0 [] (by rfl) (by exact World.ownsRow_nil _ _ _ _) a n c (l.map intV) (by rfl) (by rw [List.length_map, HL.out, Nat.mul_one]) (by exact H.out.row.news) (by simp [intV, Value.oneCell']) (by unfold maxLen; omega) (by omega) (Nat.le_refl _) ?_; intro a2 c2 w2 ho hb; rw [Nat.zero_add, List.nil_append] at ho; have HO : Hid (w2.ownsRow w.heap.size 3 1 (.slice a2 n c2) n (l.map intV)) := ho; have HB : Hid (Below w.heap.size w w2) := hb; clear ho hb)
  go_wp2
  go_ret
  refine ⟨_, rfl, ?_, HB.out⟩
  have := HO.out
  simpa using this
end Go.Proofs.YtjaccgkeldabfaaGreat.S
