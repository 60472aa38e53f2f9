/- Slices of numbers in memory; sorted, each once. -/
import Derived.Test.YtkejjiilcoacfaaGreatProg
import Derived.Test.YtkejjiilcoacfaaGreatShelf
import Derived.Test.YtkejjiilcoacfaaGreatOnto
import Derived.WalkKit
import Derived.BigQuiet
import Derived.Deep.QuietTactic
namespace Go.Proofs.YtkejjiilcoacfaaGreat
open Go.RowKit

def intV (x : Int) : Value := .int .i64 x
/-- A slice of numbers in memory. -/
def IntsAt (w : World) (a : Option Addr) (l : List Int) : Prop := ∀ (i : Nat) (x : Int), l[i]? = some x → ∃ b off, a = some ⟨b, off, none⟩ ∧ w.cell? ⟨b, off + i, none⟩ = some (.int .i64 x)
/-- A row of values in memory, a cell each. -/
def RowAt (w : World) (a : Option Addr) (vs : List Value) : Prop := ∀ (i : Nat) (u : Value), vs[i]? = some u → ∃ b off, a = some ⟨b, off, none⟩ ∧ w.cell? ⟨b, off + i, none⟩ = some u
theorem own_row {W : World} {base : Nat} {e : TypeId} {size : Nat} {v : Value} {n : Nat} {xs : List Value} (h : W.ownsRow base e size v n xs) : ∃ a c, v = .slice a n c ∧ n ≤ c ∧ RowAt W a xs ∧ ∀ g, v.ownBlock = some g → base ≤ g := by
  rcases h.2 with ⟨rfl, rfl⟩ | ⟨g, cap, cur, rfl, hg, hh, hn, hc, hsz, ht⟩
  · exact ⟨_, _, rfl, Nat.le_refl _, fun i u hi => by
      have := h.1
      rw [Nat.zero_mul] at this
      rw [List.eq_nil_of_length_eq_zero this] at hi
      simp at hi, fun g e => by cases e⟩
  · refine ⟨_, _, rfl, hn, fun i u hi => ⟨g, 0, rfl, ?_⟩, fun g e => by cases e; exact hg⟩
    have hlt : i < n * size := by have := h.1; have := (List.getElem?_eq_some_iff.1 hi).1; omega
    have : cur[i]? = some u := by
      rw [← ht, List.getElem?_take, if_pos hlt] at hi
      simpa using hi
    rw [Nat.zero_add]
    simp [World.cell?, hh, this]
theorem RowAt.ints {w : World} {a : Option Addr} {l : List Int} (h : RowAt w a (l.map intV)) : IntsAt w a l := fun i x hi => h i (intV x) (by rw [List.getElem?_map, hi]; rfl)
theorem IntsAt.row {w : World} {a : Option Addr} {l : List Int} (h : IntsAt w a l) : RowAt w a (l.map intV) := fun i u hi => by
  rw [List.getElem?_map] at hi
  obtain ⟨x, hx, rfl⟩ := Option.map_eq_some_iff.1 hi
  exact h i x hx
theorem RowAt.under {w w' : World} {a : Option Addr} {vs : List Value} (h : RowAt w a vs) (hb : Below w.heap.size w w') : RowAt w' a vs := fun i u hi => by
  obtain ⟨b, off, e, hc⟩ := h i u hi
  exact ⟨b, off, e, (hb.cell (p := ⟨b, off + i, none⟩) (World.block_lt_of_cell? _ _ hc)).trans hc⟩
theorem IntsAt.under {w w' : World} {a : Option Addr} {l : List Int} (h : IntsAt w a l) (hb : Below w.heap.size w w') : IntsAt w' a l := fun i x hi => by
  obtain ⟨b, off, e, hc⟩ := h i x hi
  exact ⟨b, off, e, (hb.cell (p := ⟨b, off + i, none⟩) (World.block_lt_of_cell? _ _ hc)).trans hc⟩
theorem RowAt.news {w : World} {a : Option Addr} {vs : List Value} (h : RowAt w a vs) : ∀ (j : Nat) (u : Value), vs[j]? = some u → ∃ ad, a = some ad ∧ w.cell? (ad.add j) = some u := fun j u hu => by
  obtain ⟨b, off, rfl, hc⟩ := h j u hu
  exact ⟨_, rfl, by rw [← hc]; unfold Addr.add; split <;> simp_all⟩
theorem infoI : (Tryz.prog.info? 3).map (fun i => (i.zero, i.size, i.bytes)) = some (some (.int .i64 0), 1, 8) := by kernel_rfl

theorem rising_ext : ∀ {a b : List Int}, a.Pairwise (· < ·) → b.Pairwise (· < ·) → (∀ x, x ∈ a ↔ x ∈ b) → a = b
  | [], [], _, _, _ => rfl
  | [], y :: b, _, _, h => by have := (h y).2 (by simp); simp at this
  | x :: a, [], _, _, h => by have := (h x).1 (by simp); simp at this
  | x :: a, y :: b, ha, hb, h => by
    obtain ⟨a1, a2⟩ := List.pairwise_cons.1 ha
    obtain ⟨b1, b2⟩ := List.pairwise_cons.1 hb
    have hxy : x = y := by
      have h1 := (h x).1 (by simp)
      have h2 := (h y).2 (by simp)
      rcases List.mem_cons.1 h1 with e | h1
      · exact e
      · rcases List.mem_cons.1 h2 with e | h2
        · exact e.symm
        · have := b1 x h1
          have := a1 y h2
          omega
    subst hxy
    rw [rising_ext a2 b2 fun z => ?_]
    constructor
    · intro hz
      have := (h z).1 (List.mem_cons_of_mem _ hz)
      rcases List.mem_cons.1 this with e | h3
      · subst e
        have := a1 z hz
        omega
      · exact h3
    · intro hz
      have := (h z).2 (List.mem_cons_of_mem _ hz)
      rcases List.mem_cons.1 this with e | h3
      · subst e
        have := b1 z hz
        omega
      · exact h3
theorem compact_up {l : List Int} (hs : l.Pairwise (· ≤ ·)) : ∀ m, m ≤ l.length → (Lib.compactUpTo l.toArray m).Pairwise (· < ·) ∧ ∀ x, x ∈ Lib.compactUpTo l.toArray m ↔ x ∈ l.take m
  | 0, _ => ⟨by simp [Lib.compactUpTo], fun x => by simp [Lib.compactUpTo]⟩
  | m + 1, hm => by
    obtain ⟨h1, h2⟩ := compact_up hs m (by omega)
    have hlt : m < l.length := by omega
    have hget : l.toArray[m]! = l[m] := by rw [getElem!_pos l.toArray m (by simpa using hlt)]; simp
    have htk : l.take (m + 1) = l.take m ++ [l[m]] := by rw [List.take_add_one, List.getElem?_eq_getElem hlt]; rfl
    rw [Lib.compactUpTo_succ]
    by_cases hk : Lib.keeps l.toArray m
    · rw [if_pos hk, hget, htk]
      refine ⟨List.pairwise_append.2 ⟨h1, List.pairwise_singleton _ _, fun x hx y hy => ?_⟩, fun x => by rw [List.mem_append, List.mem_append, h2]⟩
      rw [List.mem_singleton.1 hy]
      have hx' := (h2 x).1 hx
      obtain ⟨i, hi⟩ := List.getElem?_of_mem hx'
      obtain ⟨hil, hie⟩ := List.getElem?_eq_some_iff.1 hi
      rw [List.length_take] at hil
      have him : i < m := by omega
      rw [List.getElem_take] at hie
      have hp := List.pairwise_iff_getElem.1 hs
      simp only [Lib.keeps, decide_eq_true_eq] at hk
      rcases hk with h0 | h0
      · omega
      · have hm1 : l.toArray[m - 1]! = l[m - 1] := by rw [getElem!_pos l.toArray (m - 1) (by simp; omega)]; simp
        rw [hget, hm1] at h0
        have q1 : l[m - 1] ≤ l[m] := hp (m - 1) m (by omega) hlt (by omega)
        have q2 : l[i] ≤ l[m - 1] := by
          rcases Nat.lt_or_ge i (m - 1) with h3 | h3
          · exact hp i (m - 1) (by omega) (by omega) h3
          · have : i = m - 1 := by omega
            subst this
            omega
        rw [hie] at q2
        omega
    · rw [if_neg hk, List.append_nil, htk]
      refine ⟨h1, fun x => ?_⟩
      rw [h2, List.mem_append, List.mem_singleton]
      simp only [Lib.keeps, decide_eq_true_eq, not_or, Classical.not_not] at hk
      have hm1 : l.toArray[m - 1]! = l[m - 1] := by rw [getElem!_pos l.toArray (m - 1) (by simp; omega)]; simp
      rw [hget, hm1] at hk
      constructor
      · exact .inl
      · rintro (h | h)
        · exact h
        · rw [h, hk.2]
          exact List.mem_take_iff_getElem.2 ⟨m - 1, by omega, rfl⟩
theorem compact_rises {l : List Int} (hs : l.Pairwise (· ≤ ·)) : (Lib.compact l).Pairwise (· < ·) ∧ ∀ x, x ∈ Lib.compact l ↔ x ∈ l := by
  have := compact_up hs l.length (Nat.le_refl _)
  rw [List.take_of_length_le (Nat.le_refl _)] at this
  exact this
theorem compact_le (zs : List Int) : (Lib.compact zs).length ≤ zs.length := by
  unfold Lib.compact Lib.compactUpTo
  rw [List.length_map]
  have := List.length_filter_le (Lib.keeps zs.toArray) (List.range zs.length)
  simpa using this
theorem sorted_of (l : List Int) : (l.mergeSort fun x y => decide (x ≤ y)).Pairwise (· ≤ ·) := (List.pairwise_mergeSort (le := fun (x y : Int) => decide (x ≤ y)) (fun a b c h1 h2 => by
    have := of_decide_eq_true h1
    have := of_decide_eq_true h2
    exact decide_eq_true (by omega)) (fun a b => by
      by_cases h : a ≤ b
      · simp [h]
      · have : b ≤ a := by omega
        simp [this]) l).imp fun h => of_decide_eq_true h
theorem grow_below {w : World} {g m B : Nat} {d : Array Int} {os : Array Obj} (hB : B ≤ g) (hg : g < w.heap.size) : Below B w (Sort.grow (Sort.putRow (Value.int .i64) (Sort.ahead w m) g 0 d) os) := by
  refine ⟨rfl, rfl, rfl, ?_, fun k hk => ?_⟩
  · unfold Sort.putRow Sort.mapBlock Sort.grow Sort.ahead
    simp
  · have hkg : k ≠ g := by omega
    have hkl : k < w.heap.size := by omega
    unfold Sort.putRow Sort.mapBlock Sort.grow Sort.ahead
    simp only [Array.getElem?_append, Array.size_modify, hkl, if_true]
    rw [Array.getElem?_modify, if_neg (fun e => hkg e.symm)]
theorem put_below {w : World} {g m B : Nat} {d : Array Int} (hB : B ≤ g) : Below B w (Sort.putRow (Value.int .i64) (Sort.ahead w m) g 0 d) := by
  refine ⟨rfl, rfl, rfl, ?_, fun k hk => ?_⟩
  · unfold Sort.putRow Sort.mapBlock Sort.ahead
    simp
  · have hkg : k ≠ g := by omega
    unfold Sort.putRow Sort.mapBlock Sort.ahead
    rw [Array.getElem?_modify, if_neg (fun e => hkg e.symm)]
theorem own_low {W : World} {base e size : Nat} {v : Value} {n : Nat} {xs : List Value} (h : W.ownsRow base e size v n xs) : ∀ g, v.ownBlock = some g → g < W.heap.size := by
  intro g hg
  rcases h.2 with ⟨rfl, _⟩ | ⟨g', cap, cur, rfl, _, hh, _⟩
  · simp [Value.ownBlock] at hg
  · have e' : g' = g := by simpa [Value.ownBlock] using hg
    subst e'
    exact (Array.getElem?_eq_some_iff.1 hh).1
/-- slices.Sort of a row of one's own. -/
theorem sortrow_any (w : World) (base n g cap : Nat) (l : List Int) (hl : l.length = n) (hn : n ≤ 17592186043904) (h : w.ownsRow base 3 1 (.slice (some ⟨g, 0, none⟩) n cap) n (l.map intV)) :
    Calls Tryz.prog 93 #[.slice (some ⟨g, 0, none⟩) n cap] w fun e w' => e = .returned (.tuple #[]) ∧ Below base w w' ∧ g < w'.heap.size ∧ Sort.Holds (Value.int .i64) w' g 0 (l.mergeSort fun x y => decide (x ≤ y)).toArray := by
  have hperm : (l.mergeSort fun x y => decide (x ≤ y)).Perm l := List.mergeSort_perm _ _
  have hblk : g < w.heap.size := own_low h g rfl
  have hbg : base ≤ g := own_ge h g rfl
  rcases h.2 with ⟨e0, h0⟩ | ⟨g', cap', cur, ev, hg, hh, hnc, hcm, hsz, htk⟩
  · cases e0
  cases ev
  obtain ⟨a0, c0, hv0, _, hrow, _⟩ := own_row h
  cases hv0
  have hfz : ∀ j, w.frozen? ⟨g, j, none⟩ = false := fun j => by simp [World.frozen?, hh]
  have hH : Sort.Holds (Value.int .i64) w g 0 l.toArray := fun j hj => by
    have hj' : j < l.length := by simpa using hj
    obtain ⟨b, off, e, hc⟩ := hrow.ints j l[j] (List.getElem?_eq_getElem hj')
    cases e
    exact ⟨by rw [hc]; congr 2; rw [getElem!_pos l.toArray j hj]; simp, by rw [Nat.zero_add]; exact hfz j⟩
  have hcon := Tryz.slices_Sort_int g 0 cap l w hH hblk (by omega)
  rw [hl] at hcon
  refine hcon.mono fun e w' ⟨he, m, os, hw⟩ => ?_
  subst hw
  have hs2 : (l.mergeSort fun x y => decide (x ≤ y)).toArray.size = l.toArray.size := by simp [hperm.length_eq]
  have h1 := Sort.holds_putRow (Value.int .i64) (Sort.ahead w m) g 0 l.toArray _ (by exact hH) hs2
  have h2 := Sort.holds_grow (Value.int .i64) _ os g 0 _ (by simpa [Sort.putRow, Sort.mapBlock, Sort.ahead] using hblk) h1
  have hb : Below base w _ := grow_below (m := m) (d := (l.mergeSort fun x y => decide (x ≤ y)).toArray) (os := os) hbg hblk
  exact ⟨he, hb, Nat.lt_of_lt_of_le hblk hb.size, h2⟩
/-- slices.Compact of such a row. -/
theorem compactrow_any (w : World) (base n g cap : Nat) (zs : List Int) (hl : zs.length = n) (hn : n ≤ 17592186043904) (hcap : n ≤ cap) (hbg : base ≤ g) (hH : Sort.Holds (Value.int .i64) w g 0 zs.toArray) :
    Calls Tryz.prog 94 #[.slice (some ⟨g, 0, none⟩) n cap] w fun e w' => e = .returned (.slice (some ⟨g, 0, none⟩) (Lib.compact zs).length cap) ∧ Below base w w' ∧ IntsAt w' (some ⟨g, 0, none⟩) (Lib.compact zs) := by
  have hcon := Tryz.slices_Compact_int g 0 cap zs w hH (by omega) (by omega)
  rw [hl] at hcon
  refine hcon.mono fun e w' ⟨he, q, hw⟩ => ?_
  subst hw
  refine ⟨he, put_below hbg, fun i x hi => ⟨g, 0, rfl, ?_⟩⟩
  have hle : (Lib.compact zs).length ≤ zs.length := compact_le zs
  have hilt : i < (Lib.compact zs).length := (List.getElem?_eq_some_iff.1 hi).1
  have h1 := Sort.holds_putRow (Value.int .i64) (Sort.ahead w q) g 0 zs.toArray (Lib.compact zs ++ List.replicate (n - (Lib.compact zs).length) 0).toArray (by exact hH) (by simp; omega)
  have h2 := (h1 i (by simp; omega)).1
  rw [h2, getElem!_pos _ i (by simp; omega)]
  congr 2
  have h3 := (List.getElem?_eq_some_iff.1 hi).2
  simp [List.getElem_append_left hilt, h3]
end Go.Proofs.YtkejjiilcoacfaaGreat
