/- Binds and expressions that came in, opened. -/
import Derived.Test.YtjaccgkeldabfaaGreatSAll
import Derived.Deep.Slices
import Derived.SizedLaws
import Derived.ChangeSame
import Derived.ChangeArms
import Derived.ChangeSlices
import Derived.Deep.DeepHandedRow
namespace Go.Proofs.YtjaccgkeldabfaaGreat.S
open Go.ChangeShapes Go.WideShapes Go.ChangeAt Go.RowKit Go.Deep

theorem cells3 : Tryz.prog.cellsOf 3 = 1 := by kernel_rfl
theorem cells29 : Tryz.prog.cellsOf 44 = 1 := by kernel_rfl
theorem cells31 : Tryz.prog.cellsOf 46 = 2 := by kernel_rfl
theorem bytes3 : Tryz.prog.bytesOf 3 = 8 := by kernel_rfl
theorem bytes31 : Tryz.prog.bytesOf 46 = 32 := by kernel_rfl
/-- How long what was read is. -/
def lenD {H : Type} : DataW H → Nat
  | .slice elems _ => elems.length
  | _ => 0
theorem ints_open {H : Type} {enc : TypeId × Value → H} {W : World} {fuel : Nat} {cs : List Value} {x : DataW H × List MemPlace}
    (h : DataW.trod enc Tryz.prog W 0 (fun _ => true) true fuel 44 cs = some x) :
    ∃ (a0 : Option Addr) (l : List Int) (cap : Nat), cs = [.slice a0 l.length cap] ∧ l.length ≤ cap ∧ lenD x.1 = l.length ∧ IntsAt W a0 l := by
  rcases open_ints Tryz.underlying44 Tryz.underlying3 cells3 h with ⟨hcs, hx⟩ | ⟨a, len', cap', zs, hcs, _, hl, hm, hz, hx, hcell, hws⟩
  · exact ⟨none, [], 0, hcs, by simp, by rw [hx]; rfl, fun i x hi => by simp at hi⟩
  · simp only [if_true] at hz
    have hlen : (zs.take len').length = len' := by rw [List.length_take]; omega
    refine ⟨some a, zs.take len', cap', by rw [hlen]; exact hcs, by rw [hlen]; exact hl, by rw [hx]; simp [lenD, lits], fun i x hi => ?_⟩
    obtain ⟨b, off, spot⟩ := a
    have hlt : i < len' := by
      have := (List.getElem?_eq_some_iff.1 hi).1
      rw [List.length_take] at this; omega
    have hspot : spot = none := by simpa [Addr.add] using World.cell?_spot (hcell 0 (by omega))
    subst hspot
    have hc := hcell i (by omega)
    rw [add_plain] at hc
    refine ⟨b, off, rfl, ?_⟩
    rw [hc]
    rw [List.getElem?_take, if_pos hlt] at hi
    rw [List.getD, hi]; rfl
set_option maxRecDepth 100000 in
theorem binds_open {H : Type} {enc : TypeId × Value → H} {W : World} {fuel : Nat} {a0 : Option Addr} {len cap : Nat} {x : DataW H × List MemPlace}
    (h : DataW.trod enc Tryz.prog W 0 (fun _ => true) true fuel 23 [.slice a0 len cap] = some x) :
    len ≤ cap ∧ ∃ (vs : List (Int × Value)) (bl : List (Int × List Int)), bl.length = len ∧ RowAt W a0 (rowB vs) ∧ Matches W vs bl ∧ lenD x.1 = len ∧
      ∀ p ∈ bl, ∃ (elems spare : List (DataW H)) (d0 d1 : DataW H), x.1 = .slice elems spare ∧ .agg [d0, d1] ∈ elems ∧ lenD d1 = p.2.length := by
  rcases open_slice Tryz.underlying23 h with ⟨hcs, hx⟩ | ⟨a, len', cap', m, n, D, Pl, hcs, _, hl, hm, hmm, hx, hel⟩
  · simp at hcs
    obtain ⟨rfl, rfl, rfl⟩ := hcs
    exact ⟨Nat.le_refl _, [], [], rfl, fun i u hi => by simp [rowB] at hi, ⟨rfl, fun i p hi => by simp at hi⟩, by rw [hx]; rfl, by simp⟩
  · simp at hcs
    obtain ⟨rfl, rfl, rfl⟩ := hcs
    simp only [if_true] at hmm
    refine ⟨hl, ?_⟩
    have key : ∀ i, i < len → ∃ q : (Int × List Int) × (Option Addr × Nat), W.cell? (a.add (i * 2)) = some (.int .i64 q.1.1) ∧ W.cell? (a.add (i * 2 + 1)) = some (.slice q.2.1 q.1.2.length q.2.2) ∧ IntsAt W q.2.1 q.1.2 ∧ ∃ d0 d1, D i = .agg [d0, d1] ∧ lenD d1 = q.1.2.length := by
      intro i hi
      obtain ⟨cs', hc, ht⟩ := hel i (by omega)
      rw [cells31] at hc
      obtain ⟨y0, y1, n2, hd, hlen, t0, t1⟩ := trod_struct2 Tryz.underlying46 ht
      obtain ⟨k, e0, _, _⟩ := DataW.trod_int Tryz.underlying3 t0
      obtain ⟨al, l, cl, e1, _, hln, hI⟩ := ints_open t1
      dsimp only at e0 e1
      rw [cells3] at e0
      rw [cells29] at e1
      rw [cells31] at hlen
      match cs', hlen with
      | [u0, u1], _ =>
        simp at e0 e1
        subst e0 e1
        obtain ⟨_, _, hcell⟩ := World.cells?_some hc
        have h0 := hcell 0 (by omega)
        have h1 := hcell 1 (by omega)
        rw [add_add] at h0 h1
        exact ⟨((k, l), (al, cl)), h0, h1, hI, y0.1, y1.1, congrArg Prod.fst hd, hln⟩
    obtain ⟨F, hF⟩ := choose_lt key
    refine ⟨(List.range len).map fun i => ((F i).1.1, Value.slice (F i).2.1 (F i).1.2.length (F i).2.2), (List.range len).map fun i => (F i).1, by simp, ?_, ⟨by simp, ?_⟩, by rw [hx]; simp [lenD], ?_⟩
    · intro t u ht
      have hlt : t < len * 2 := by
        have := (List.getElem?_eq_some_iff.1 ht).1
        rwa [rowB_len, List.length_map, List.length_range] at this
      have hi : t / 2 < len := by omega
      obtain ⟨h0, h1, _⟩ := hF (t / 2) hi
      have hat := rowB_at ((List.range len).map fun i => ((F i).1.1, Value.slice (F i).2.1 (F i).1.2.length (F i).2.2)) (t / 2) _ (by rw [List.getElem?_map, List.getElem?_range hi]; rfl)
      obtain ⟨b, off, spot⟩ := a
      have hspot : spot = none := by
        have := World.cell?_spot (hF 0 (by omega)).1
        simpa [Addr.add] using this
      subst hspot
      rw [add_plain] at h0 h1
      refine ⟨b, off, rfl, ?_⟩
      rcases Nat.mod_two_eq_zero_or_one t with hm | hm
      · have e : t = t / 2 * 2 := by omega
        rw [e, hat.1] at ht
        cases ht
        have e2 : off + t = off + t / 2 * 2 := by omega
        rw [e2]
        exact h0
      · have e : t = t / 2 * 2 + 1 := by omega
        rw [e, hat.2] at ht
        cases ht
        have e2 : off + t = off + (t / 2 * 2 + 1) := by omega
        rw [e2]
        exact h1
    · intro i p hi
      rw [List.getElem?_map] at hi
      obtain ⟨j, hj, rfl⟩ := Option.map_eq_some_iff.1 hi
      have hlt := (List.getElem?_eq_some_iff.1 hj).1
      rw [List.length_range] at hlt
      rw [List.getElem?_range hlt] at hj
      cases hj
      exact ⟨(F i).2.1, (F i).2.2, by rw [List.getElem?_map, List.getElem?_range hlt]; rfl, (hF i hlt).2.2.1⟩
    · intro p hp
      obtain ⟨i, hi, rfl⟩ := List.mem_map.1 hp
      obtain ⟨_, _, _, d0, d1, hd, hln⟩ := hF i (List.mem_range.1 hi)
      exact ⟨_, _, d0, d1, by rw [hx], List.mem_map.2 ⟨i, hi, hd⟩, hln⟩
theorem weightsAll_mem {H : Type} {P : Program} {e : TypeId} : ∀ {l : List (DataW H)} {d : DataW H}, d ∈ l → ∀ n ∈ d.weights P e, n ∈ DataW.weightsAll P e l
  | d0 :: r, d, hd, n, hn => by
    simp only [DataW.weightsAll, List.mem_append]
    rcases List.mem_cons.1 hd with rfl | h
    · exact .inl hn
    · exact .inr (weightsAll_mem h n hn)
  | [], _, hd, _, _ => by simp at hd
theorem weights_ints {H : Type} {d : DataW H} (h : ∀ n ∈ d.weights Tryz.prog 44, n ≤ reachBytes) : lenD d ≤ 17592186043904 := by
  cases d with
  | slice elems spare =>
    have := h ((elems.length + spare.length) * 8) (by simp [DataW.weights, Tryz.underlying44, bytes3])
    simp only [reachBytes] at this
    simp only [lenD]; omega
  | _ => simp [lenD]
theorem weights_binds {H : Type} {d : DataW H} (h : ∀ n ∈ d.weights Tryz.prog 23, n ≤ reachBytes) : lenD d ≤ 4398046510976 ∧ ∀ (elems spare : List (DataW H)) (d0 d1 : DataW H), d = .slice elems spare → .agg [d0, d1] ∈ elems → lenD d1 ≤ 17592186043904 := by
  cases d with
  | slice elems spare =>
    have h1 := h ((elems.length + spare.length) * 32) (by simp [DataW.weights, Tryz.underlying23, bytes31])
    simp only [reachBytes] at h1
    refine ⟨by simp only [lenD]; omega, fun elems' spare' d0 d1 e hm => ?_⟩
    cases e
    refine weights_ints fun n hn => h n ?_
    simp only [DataW.weights, Tryz.underlying23, List.mem_cons, List.mem_append]
    refine .inr (.inl (weightsAll_mem hm n ?_))
    simp only [DataW.weights, Tryz.underlying46, List.map_cons, DataW.weightsEach, List.mem_append]
    exact .inr (.inl hn)
  | _ => exact ⟨by simp [lenD], fun elems' spare' d0 d1 e => by cases e⟩
end Go.Proofs.YtjaccgkeldabfaaGreat.S
