/- What came in: pairs and binds, well formed, with what they weigh. -/
import Derived.Test.YtjaccgkeldabfaaGreatSSmall
import Derived.Test.YtjaccgkeldabfaaGreatThenGiven
import Derived.Deep.SlicePairs
namespace Go.Proofs.YtjaccgkeldabfaaGreat
open Go.ChangeShapes Go.WideShapes Go.ChangeAt Go.RowKit Go.Deep

theorem bulk_sum {H : Type} (f : Nat → DataW H) (g : Nat → Nat) : ∀ L : List Nat, (∀ i ∈ L, g i ≤ Rows.uptoBulk (f i)) → (L.map g).sum ≤ Rows.uptoBulkAll (L.map f)
  | [], _ => Nat.zero_le _
  | i :: L, h => by
    have := bulk_sum f g L fun j hj => h j (by simp [hj])
    have := h i (by simp)
    simp only [List.map_cons, List.sum_cons, Rows.uptoBulkAll]
    omega
theorem sum_two : ∀ L : List Nat, (L.map fun _ => 2).sum = L.length * 2
  | [] => rfl
  | _ :: L => by
    have := sum_two L
    simp only [List.map_cons, List.sum_cons, List.length_cons]
    omega
/-- A slice of numbers that came in. -/
theorem ints_full {H : Type} {enc : TypeId × Value → H} {W : World} {fuel : Nat} {cs : List Value} {x : DataW H × List MemPlace}
    (h : DataW.trod enc Tryz.prog W 0 (fun _ => true) true fuel 44 cs = some x) :
    ∃ (a0 : Option Addr) (l : List Int) (cap : Nat), cs = [.slice a0 l.length cap] ∧ l.length + 1 ≤ Rows.uptoBulk x.1 ∧ (∀ x ∈ l, wfI x) ∧ IntsAt W a0 l := by
  rcases open_ints Tryz.underlying44 Tryz.underlying3 cells3 h with ⟨hcs, hx⟩ | ⟨a, len', cap', zs, hcs, _, hl, hm, hz, hx, hcell, hws⟩
  · exact ⟨none, [], 0, hcs, by rw [hx]; simp [Rows.uptoBulk], by simp, fun i x hi => by simp at hi⟩
  · simp only [if_true] at hz
    have hlen : (zs.take len').length = len' := by rw [List.length_take]; omega
    refine ⟨some a, zs.take len', cap', by rw [hlen]; exact hcs, ?_, fun x hx => hws x (List.mem_of_mem_take hx), fun i x hi => ?_⟩
    · rw [hx, hlen]
      have h2 := S.bulkAll_len (lits (H := H) .i64 (zs.take len'))
      simp only [lits, List.length_map, hlen] at h2
      simp only [Rows.uptoBulk, lits]
      omega
    · obtain ⟨b, off, spot⟩ := a
      have hlt : i < len' := by
        have := (List.getElem?_eq_some_iff.1 hi).1
        rw [List.length_take] at this; omega
      have hspot : spot = none := by simpa [Addr.add] using World.cell?_spot (hcell 0 (by omega))
      subst hspot
      have hc := hcell i (by omega)
      rw [add_plain] at hc
      refine ⟨b, off, rfl, ?_⟩
      rw [hc]
      rw [List.getElem?_take, if_pos hlt] at hi
      rw [List.getD, hi]; rfl
/-- A slice of pairs that came in. -/
theorem pairs_full {H : Type} {enc : TypeId × Value → H} {W : World} {fuel : Nat} {c : Value} {x : DataW H × List MemPlace}
    (h : DataW.trod enc Tryz.prog W 0 (fun _ => true) true fuel 22 [c] = some x) :
    ∃ (a0 : Option Addr) (l : List Pr) (cap : Nat), c = .slice a0 l.length cap ∧ l.length * 2 ≤ Rows.uptoBulk x.1 ∧ (∀ p ∈ l, wfP p) ∧ PairsAt W a0 l := by
  rcases open_slice_pairs Tryz.underlying22 Tryz.underlying33 cells24 rfl rfl cells3 cells3 h with ⟨hcs, hx⟩ | ⟨a, len, cap, m, n, V0, V1, D0, D1, P0, P1, hcs, _, hl, hm, hmm, hx, hel⟩
  · simp at hcs
    subst hcs
    exact ⟨none, [], 0, rfl, by simp, by simp, fun i p hi => by simp at hi⟩
  · simp at hcs
    subst hcs
    simp only [if_true] at hmm
    have key : ∀ i, i < len → ∃ q : Pr, W.cell? (a.add (i * 2)) = some (.int .i64 q.1) ∧ W.cell? (a.add (i * 2 + 1)) = some (.int .i64 q.2) ∧ wfP q := by
      intro i hi
      obtain ⟨h0, h1, t0, t1⟩ := hel i (by omega)
      obtain ⟨k0, e0, w0, _⟩ := DataW.trod_int Tryz.underlying3 t0
      obtain ⟨k1, e1, w1, _⟩ := DataW.trod_int Tryz.underlying3 t1
      simp at e0 e1
      rw [e0] at h0
      rw [e1] at h1
      exact ⟨(k0, k1), h0, h1, by assumption, by assumption⟩
    obtain ⟨F, hF⟩ := choose_lt key
    refine ⟨some a, (List.range len).map F, cap, by simp, ?_, fun p hp => ?_, fun i p hi => ?_⟩
    · rw [hx]
      simp only [Rows.uptoBulk, List.length_map, List.length_range]
      have h2 := bulk_sum (H := H) (fun i => .agg [D0 i, D1 i]) (fun _ => 2) (List.range len) fun i _ => by
        have := S.bulk_pos (D0 i)
        have := S.bulk_pos (D1 i)
        simp only [Rows.uptoBulk, Rows.uptoBulkAll]
        omega
      have h3 := sum_two (List.range len)
      rw [List.length_range] at h3
      omega
    · obtain ⟨i, hi, rfl⟩ := List.mem_map.1 hp
      exact (hF i (List.mem_range.1 hi)).2.2
    · rw [List.getElem?_map] at hi
      obtain ⟨j, hj, rfl⟩ := Option.map_eq_some_iff.1 hi
      have hlt := (List.getElem?_eq_some_iff.1 hj).1
      rw [List.length_range] at hlt
      rw [List.getElem?_range hlt] at hj
      cases hj
      obtain ⟨h0, h1, _⟩ := hF i hlt
      obtain ⟨b, off, spot⟩ := a
      have hspot : spot = none := by
        have := World.cell?_spot (hF 0 (by omega)).1
        simpa [Addr.add] using this
      subst hspot
      rw [add_plain] at h0 h1
      exact ⟨b, off, rfl, h0, h1⟩
set_option maxRecDepth 100000 in
/-- A slice of binds that came in. -/
theorem binds_full {H : Type} {enc : TypeId × Value → H} {W : World} {fuel : Nat} {a0 : Option Addr} {len cap : Nat} {x : DataW H × List MemPlace}
    (h : DataW.trod enc Tryz.prog W 0 (fun _ => true) true fuel 23 [.slice a0 len cap] = some x) :
    ∃ (vs : List (Int × Value)) (bl : List (Int × List Int)), bl.length = len ∧ S.RowAt W a0 (S.rowB vs) ∧ S.Matches W vs bl ∧ (∀ q ∈ bl, wfI q.1 ∧ ∀ x ∈ q.2, wfI x) ∧ (bl.flatMap (·.2)).length + len ≤ Rows.uptoBulk x.1 := by
  rcases open_slice Tryz.underlying23 h with ⟨hcs, hx⟩ | ⟨a, len', cap', m, n, D, Pl, hcs, _, hl, hm, hmm, hx, hel⟩
  · simp at hcs
    obtain ⟨rfl, rfl, rfl⟩ := hcs
    exact ⟨[], [], rfl, fun i u hi => by simp [S.rowB] at hi, ⟨rfl, fun i p hi => by simp at hi⟩, by simp, by simp⟩
  · simp at hcs
    obtain ⟨rfl, rfl, rfl⟩ := hcs
    simp only [if_true] at hmm
    have key : ∀ i, i < len → ∃ q : (Int × List Int) × (Option Addr × Nat), W.cell? (a.add (i * 2)) = some (.int .i64 q.1.1) ∧ W.cell? (a.add (i * 2 + 1)) = some (.slice q.2.1 q.1.2.length q.2.2) ∧ IntsAt W q.2.1 q.1.2 ∧ q.1.2.length + 1 ≤ Rows.uptoBulk (D i) ∧ wfI q.1.1 ∧ ∀ x ∈ q.1.2, wfI x := by
      intro i hi
      obtain ⟨cs', hc, ht⟩ := hel i (by omega)
      rw [S.cells31] at hc
      obtain ⟨y0, y1, n2, hd, hlen, t0, t1⟩ := trod_struct2 Tryz.underlying46 ht
      obtain ⟨k, e0, wk, _⟩ := DataW.trod_int Tryz.underlying3 t0
      obtain ⟨al, l, cl, e1, hln, hw, hI⟩ := ints_full t1
      dsimp only at e0 e1
      rw [cells3] at e0
      rw [S.cells29] at e1
      rw [S.cells31] at hlen
      match cs', hlen with
      | [u0, u1], _ =>
        simp at e0 e1
        subst e0 e1
        obtain ⟨_, _, hcell⟩ := World.cells?_some hc
        have h0 := hcell 0 (by omega)
        have h1 := hcell 1 (by omega)
        rw [add_add] at h0 h1
        have hd' : D i = .agg [y0.1, y1.1] := congrArg Prod.fst hd
        refine ⟨((k, l), (al, cl)), h0, h1, hI, ?_, by assumption, hw⟩
        rw [hd']
        simp only [Rows.uptoBulk, Rows.uptoBulkAll]
        omega
    obtain ⟨F, hF⟩ := choose_lt key
    refine ⟨(List.range len).map fun i => ((F i).1.1, Value.slice (F i).2.1 (F i).1.2.length (F i).2.2), (List.range len).map fun i => (F i).1, by simp, ?_, ⟨by simp, ?_⟩, fun q hq => ?_, ?_⟩
    · intro t u ht
      have hlt : t < len * 2 := by
        have := (List.getElem?_eq_some_iff.1 ht).1
        rwa [S.rowB_len, List.length_map, List.length_range] at this
      have hi : t / 2 < len := by omega
      obtain ⟨h0, h1, _⟩ := hF (t / 2) hi
      have hat := S.rowB_at ((List.range len).map fun i => ((F i).1.1, Value.slice (F i).2.1 (F i).1.2.length (F i).2.2)) (t / 2) _ (by rw [List.getElem?_map, List.getElem?_range hi]; rfl)
      obtain ⟨b, off, spot⟩ := a
      have hspot : spot = none := by
        have := World.cell?_spot (hF 0 (by omega)).1
        simpa [Addr.add] using this
      subst hspot
      rw [add_plain] at h0 h1
      refine ⟨b, off, rfl, ?_⟩
      rcases Nat.mod_two_eq_zero_or_one t with hm | hm
      · have e : t = t / 2 * 2 := by omega
        rw [e, hat.1] at ht
        cases ht
        have e2 : off + t = off + t / 2 * 2 := by omega
        rw [e2]
        exact h0
      · have e : t = t / 2 * 2 + 1 := by omega
        rw [e, hat.2] at ht
        cases ht
        have e2 : off + t = off + (t / 2 * 2 + 1) := by omega
        rw [e2]
        exact h1
    · intro i p hi
      rw [List.getElem?_map] at hi
      obtain ⟨j, hj, rfl⟩ := Option.map_eq_some_iff.1 hi
      have hlt := (List.getElem?_eq_some_iff.1 hj).1
      rw [List.length_range] at hlt
      rw [List.getElem?_range hlt] at hj
      cases hj
      exact ⟨(F i).2.1, (F i).2.2, by rw [List.getElem?_map, List.getElem?_range hlt]; rfl, (hF i hlt).2.2.1⟩
    · obtain ⟨i, hi, rfl⟩ := List.mem_map.1 hq
      exact (hF i (List.mem_range.1 hi)).2.2.2.2
    · rw [hx, List.length_flatMap]
      simp only [Rows.uptoBulk, List.map_map]
      have h2 := bulk_sum (H := H) D (fun i => (F i).1.2.length + 1) (List.range len) fun i hi => (hF i (List.mem_range.1 hi)).2.2.2.1
      have h3 : ∀ L : List Nat, (L.map fun i => (F i).1.2.length + 1).sum = (L.map ((fun a : Int × List Int => a.2.length) ∘ fun i => (F i).1)).sum + L.length := by
        intro L
        induction L with
        | nil => rfl
        | cons i L ih => simp only [List.map_cons, List.sum_cons, List.length_cons, Function.comp_apply] at *; omega
      rw [h3, List.length_range] at h2
      omega
end Go.Proofs.YtjaccgkeldabfaaGreat
