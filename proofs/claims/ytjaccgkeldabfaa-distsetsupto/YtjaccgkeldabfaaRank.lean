/- Ranks (pure); a row of numbers that is written over. -/
import Derived.Test.YtjaccgkeldabfaaAll
import Derived.Test.YtjaccgkeldabfaaCand
import Derived.Laws.MakeOwn
namespace Go.Proofs.Ytjaccgkeldabfaa
open Go.RowKit

/-- How many are below. -/
def rank (l : List Int) (x : Int) : Nat := l.countP fun y => decide (y < x)
theorem rank_take {l : List Int} {j : Nat} {x y : Int} (h : l[j]? = some y) : rank (l.take (j + 1)) x = rank (l.take j) x + (if y < x then 1 else 0) := by
  unfold rank
  rw [List.take_add_one, h, Option.toList_some, List.countP_append]
  by_cases hx : y < x <;> simp [hx]
theorem rank_le (l : List Int) (x : Int) : rank l x ≤ l.length := List.countP_le_length
theorem rank_at : ∀ {m : List Int} {k : Nat} {x : Int}, m.Pairwise (· < ·) → m[k]? = some x → rank m x = k
  | [], k, x, _, h => by simp at h
  | a :: m, 0, x, hp, h => by
    simp at h
    subst h
    obtain ⟨h1, _⟩ := List.pairwise_cons.1 hp
    unfold rank
    rw [List.countP_eq_zero]
    intro y hy
    rcases List.mem_cons.1 hy with rfl | hy
    · simp
    · have := h1 y hy
      simp
      omega
  | a :: m, k + 1, x, hp, h => by
    obtain ⟨h1, h2⟩ := List.pairwise_cons.1 hp
    have h' : m[k]? = some x := by simpa using h
    have hax := h1 x (List.mem_of_getElem? h')
    have := rank_at h2 h'
    unfold rank at *
    rw [List.countP_cons, this]
    simp [hax]
theorem sort_once {l : List Int} (h : l.Nodup) : ∃ m, IsOnce l m ∧ m.Perm l := by
  have hp : (l.mergeSort fun x y => decide (x ≤ y)).Perm l := List.mergeSort_perm _ _
  refine ⟨_, ⟨?_, fun x => hp.mem_iff, by rw [hp.length_eq]; exact Nat.le_refl _⟩, hp⟩
  have hn : (l.mergeSort fun x y => decide (x ≤ y)).Nodup := hp.nodup_iff.2 h
  exact ((sorted_of l).and hn).imp fun {a b} ⟨h1, h2⟩ => by omega
theorem rank_perm {l m : List Int} (h : m.Perm l) (x : Int) : rank m x = rank l x := h.countP_eq _
/-- A row of numbers in a block of its own. -/
def NumsAt (W : World) (B : Nat) (rs : List Int) : Prop := W.heap[B]? = some (.cells (rs.map intV).toArray 3 (0, 0))
theorem NumsAt.cell {W : World} {B : Nat} {rs : List Int} (h : NumsAt W B rs) {i : Nat} {x : Int} (hi : rs[i]? = some x) : W.cell? ⟨B, i, none⟩ = some (.int .i64 x) := by
  unfold NumsAt at h
  simp [World.cell?, h, hi, intV]
theorem NumsAt.frozen {W : World} {B : Nat} {rs : List Int} (h : NumsAt W B rs) (i : Nat) : W.frozen? ⟨B, i, none⟩ = false := by
  unfold NumsAt at h
  simp [World.frozen?, h]
theorem NumsAt.low {W : World} {B : Nat} {rs : List Int} (h : NumsAt W B rs) : B < W.heap.size := (Array.getElem?_eq_some_iff.1 h).1
theorem NumsAt.set {W : World} {B : Nat} {rs : List Int} (h : NumsAt W B rs) (i : Nat) (x : Int) : NumsAt (W.setCell ⟨B, i, none⟩ (.int .i64 x)) B (rs.set i x) ∧ Turn B W (W.setCell ⟨B, i, none⟩ (.int .i64 x)) := by
  unfold NumsAt at *
  rw [Sort.setCell_eq]
  unfold Sort.mapBlock
  refine ⟨?_, rfl, rfl, rfl, by simp, fun k hk hne => ?_⟩
  · simp only [Array.getElem?_modify, if_true, h]
    simp [Sort.onCells, intV, List.map_set]
  · simp only [Array.getElem?_modify]
    rw [if_neg (fun e => hne e.symm)]
theorem NumsAt.under {W W' : World} {B : Nat} {rs : List Int} (h : NumsAt W B rs) (hb : W'.heap[B]? = W.heap[B]?) : NumsAt W' B rs := by
  unfold NumsAt at *
  rw [hb, h]
theorem NumsAt.ints {W : World} {B : Nat} {rs : List Int} (h : NumsAt W B rs) : IntsAt W (some ⟨B, 0, none⟩) rs := fun i x hi => ⟨B, 0, rfl, by rw [Nat.zero_add]; exact h.cell hi⟩
def zerosA (n : Nat) : Array Value := ((List.replicate n (0 : Int)).map intV).toArray
theorem makes (n : Nat) (hn : n ≤ 512) (wx : World) : (Instr.makeSlice 25 (.int .i64 (n : Int)) (.int .i64 (n : Int))).run Try.prog wx = .ok (.slice (some ⟨wx.heap.size, 0, none⟩) n n) (wx.alloc (.cells (zerosA n) 3)) := by
  unfold zerosA
  obtain ⟨i0, hi0, hz0, hz1, hz3⟩ := info_parts infoI
  have h := run_make (P := Try.prog) wx 25 3 i0 (.int .i64 0) Try.underlying25 hi0 hz0 .i64 .i64 (n : Int) (n : Int) (by omega) (by omega) (by rw [hz3]; omega) (by omega)
  rw [Int.toNat_natCast] at h
  rw [h]
  congr 2
  rw [hz1, Nat.mul_one]
  refine congrArg (fun c => Obj.cells c 3 (0, 0)) ?_
  apply Array.ext
  · rw [size_madeCells]; simp
  · intro i h1 h2
    unfold madeCells
    simp [intV, Value.cells]
    rw [Nat.mod_one]
    rfl
theorem nums_made (wx : World) (n : Nat) : NumsAt (wx.alloc (.cells (zerosA n) 3)) wx.heap.size (List.replicate n 0) := World.alloc_heap_new wx _
theorem dup_at {l : List Int} {i j : Nat} {x : Int} (hi : l[i]? = some x) (hj : l[j]? = some x) (hne : i ≠ j) : ¬ l.Nodup := fun h => by
  obtain ⟨hi1, hi2⟩ := List.getElem?_eq_some_iff.1 hi
  obtain ⟨hj1, hj2⟩ := List.getElem?_eq_some_iff.1 hj
  rcases Nat.lt_or_gt_of_ne hne with hlt | hlt
  · exact (List.pairwise_iff_getElem.1 h) i j hi1 hj1 hlt (hi2.trans hj2.symm)
  · exact (List.pairwise_iff_getElem.1 h) j i hj1 hi1 hlt (hj2.trans hi2.symm)
theorem nodup_of {l : List Int} (h : ∀ (k k' : Nat) (x : Int), k < l.length → k ≠ k' → l[k]? = some x → l[k']? ≠ some x) : l.Nodup := by
  unfold List.Nodup
  rw [List.pairwise_iff_getElem]
  intro i j hi hj hij e
  exact h i j l[i] hi (by omega) (List.getElem?_eq_getElem hi) (by rw [List.getElem?_eq_getElem hj, e])
theorem eq_of_at {l m : List Int} (hl : l.length = m.length) (h : ∀ (k : Nat) (y : Int), m[k]? = some y → l[k]? = some y) : l = m := by
  refine List.ext_getElem? fun k => ?_
  by_cases hk : k < m.length
  · rw [h k _ (List.getElem?_eq_getElem hk), List.getElem?_eq_getElem hk]
  · rw [List.getElem?_eq_none (by omega), List.getElem?_eq_none (by omega)]
end Go.Proofs.Ytjaccgkeldabfaa
