/- What came in, of a bulk: numbers, words. -/
import Derived.Test.YtffchjigpppoaaaDoorLaid
import Derived.Test.YtffchjigpppoaaaDoorWords
import Derived.OpenShut
import Derived.Deep.DeepHandedRow
import Derived.Deep.Slices
import Derived.Deep.Strs
import Derived.ChangeArms
import Derived.ChangeSlices
import Derived.SliceStrings
import Derived.Carry
namespace Go.Proofs.YtffchjigpppoaaaDoor
open Go.ChangeShapes Go.WideShapes Go.ChangeAt Go.RowKit Go.Deep

theorem cells9 : Tryd.prog.cellsOf 9 = 1 := by kernel_rfl
theorem cells3 : Tryd.prog.cellsOf 3 = 1 := by kernel_rfl
theorem bulk_pos {H : Type} (x : DataW H) : 1 ≤ Rows.uptoBulk x := by
  cases x with
  | lit l => cases l <;> simp [Rows.uptoBulk]
  | nil => simp [Rows.uptoBulk]
  | ptr d => simp [Rows.uptoBulk]
  | slice elems spare => simp [Rows.uptoBulk]
  | agg parts => simp [Rows.uptoBulk]
  | iface t d => simp [Rows.uptoBulk]
  | map entries => simp [Rows.uptoBulk]
  | held h => simp [Rows.uptoBulk]
theorem bulkAll_len {H : Type} (l : List (DataW H)) : l.length ≤ Rows.uptoBulkAll l := by
  induction l with
  | nil => simp [Rows.uptoBulkAll]
  | cons x r ih =>
    have := bulk_pos x
    simp only [Rows.uptoBulkAll, List.length_cons]; omega
/-- A slice of numbers that came in, of bulk at most B. -/
theorem ints_small {H : Type} {enc : TypeId × Value → H} {W : World} {fuel : Nat} {a0 : Option Addr} {len cap : Nat} {x : DataW H × List MemPlace} {B : Nat}
    (h : DataW.trod enc Tryd.prog W 0 (fun _ => true) true fuel 22 [.slice a0 len cap] = some x) (hB : Rows.uptoBulk x.1 ≤ B) :
    len ≤ B ∧ len ≤ cap ∧ ∃ l : List Int, l.length = len ∧ IntsAt W a0 l := by
  rcases open_ints Tryd.underlying22 Tryd.underlying3 cells3 h with ⟨hcs, hx⟩ | ⟨a, len', cap', zs, hcs, _, hl, hm, hz, hx, hcell, hws⟩
  · simp at hcs
    obtain ⟨rfl, rfl, rfl⟩ := hcs
    exact ⟨Nat.zero_le _, Nat.le_refl _, [], rfl, fun i x hi => by simp at hi⟩
  · simp at hcs
    obtain ⟨rfl, rfl, rfl⟩ := hcs
    simp only [if_true] at hz
    have hlen : (zs.take len).length = len := by rw [List.length_take]; omega
    have hb : len ≤ B := by
      rw [hx] at hB
      simp only [Rows.uptoBulk] at hB
      have h2 := bulkAll_len (lits (H := H) .i64 (zs.take len))
      simp only [lits, List.length_map, List.length_take] at h2
      simp only [lits] at hB
      omega
    refine ⟨hb, hl, zs.take len, hlen, fun i x hi => ?_⟩
    obtain ⟨b, off, spot⟩ := a
    have hlt : i < len := by
      have := (List.getElem?_eq_some_iff.1 hi).1
      rw [List.length_take] at this; omega
    have hspot : spot = none := by simpa [Addr.add] using World.cell?_spot (hcell 0 (by omega))
    subst hspot
    have hc := hcell i (by omega)
    rw [add_plain] at hc
    refine ⟨b, off, rfl, ?_⟩
    rw [hc]
    rw [List.getElem?_take, if_pos hlt] at hi
    rw [List.getD, hi]; rfl
theorem bulk_words {H : Type} (F : Nat → ByteArray) (D : Nat → DataW H) : ∀ l : List Nat, (∀ i ∈ l, D i = .lit (.string (F i).data.toList)) → ((l.map F).flatMap fun s => s.data.toList).length ≤ Rows.uptoBulkAll (l.map D) := by
  intro l
  induction l with
  | nil => intro _; simp
  | cons i r ih =>
    intro h
    have h1 := ih (fun j hj => h j (by simp [hj]))
    simp only [List.map_cons, List.flatMap_cons, List.length_append, Rows.uptoBulkAll]
    rw [h i (by simp)]
    simp only [Rows.uptoBulk]
    omega
set_option maxRecDepth 100000 in
/-- Words that came in, of bulk at most B. -/
theorem strs_small {H : Type} {enc : TypeId × Value → H} {W : World} {fuel : Nat} {a0 : Option Addr} {len cap : Nat} {x : DataW H × List MemPlace} {B : Nat}
    (h : DataW.trod enc Tryd.prog W 0 (fun _ => true) true fuel 23 [.slice a0 len cap] = some x) (hB : Rows.uptoBulk x.1 ≤ B) :
    len ≤ B ∧ len ≤ cap ∧ ∃ ws : List ByteArray, ws.length = len ∧ StrsAt W a0 ws ∧ (ws.flatMap fun s => s.data.toList).length ≤ B := by
  rcases open_slice Tryd.underlying23 h with ⟨hcs, _⟩ | ⟨a, len', cap', m, n, D, Pl, hcs, _, hl, hm, hmm, hx, hel⟩
  · simp at hcs
    obtain ⟨rfl, rfl, rfl⟩ := hcs
    exact ⟨Nat.zero_le _, Nat.le_refl _, [], rfl, fun i s hi => by simp at hi, by simp⟩
  · simp at hcs
    obtain ⟨rfl, rfl, rfl⟩ := hcs
    simp only [if_true] at hmm
    rw [hx] at hB
    simp only [Rows.uptoBulk] at hB
    have hlen := bulkAll_len ((List.range len).map D)
    simp only [List.length_map, List.length_range] at hlen
    refine ⟨by omega, hl, ?_⟩
    have key : ∀ i, i < len → ∃ q : ByteArray, W.cell? (a.add i) = some (.string q) ∧ D i = .lit (.string q.data.toList) := by
      intro i hi
      obtain ⟨cs', hc, ht⟩ := hel i (by omega)
      rw [cells9] at hc
      obtain ⟨s, e1, e2, hs⟩ := DataW.trod_string Tryd.underlying9 ht
      subst e1
      obtain ⟨_, _, hcell⟩ := World.cells?_some hc
      have h0 := hcell 0 (by omega)
      rw [add_add, Nat.mul_one, Nat.add_zero] at h0
      exact ⟨s, h0, congrArg Prod.fst e2⟩
    obtain ⟨F, hF⟩ := choose_lt key
    refine ⟨(List.range len).map F, by simp, fun i s hi => ?_, ?_⟩
    · have hlt : i < len := by
        have := (List.getElem?_eq_some_iff.1 hi).1
        rwa [List.length_map, List.length_range] at this
      obtain ⟨h0, _⟩ := hF i hlt
      obtain ⟨b, off, spot⟩ := a
      have hspot : spot = none := by
        have := World.cell?_spot (hF 0 (by omega)).1
        simpa [Addr.add] using this
      subst hspot
      rw [add_plain] at h0
      rw [List.getElem?_map, List.getElem?_range hlt] at hi
      cases hi
      exact ⟨b, off, rfl, h0⟩
    · have h1 := bulk_words F D (List.range len) (fun i hi => (hF i (List.mem_range.1 hi)).2)
      omega
end Go.Proofs.YtffchjigpppoaaaDoor
