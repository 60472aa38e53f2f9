/- Binds put in order. -/
import Derived.Test.YtjaccgkeldabfaaGreatSShelf
import Derived.Test.YtjaccgkeldabfaaGreatSFind
namespace Go.Proofs.YtjaccgkeldabfaaGreat.S
open Go.RowKit

/-- A bind: its variable, and the slice that stands for it. -/
abbrev S := Int × Option Addr × Nat × Nat
def encS (p : S) : List Value := [.int .i64 p.1, .slice p.2.1 p.2.2.1 p.2.2.2]
def toB (p : S) : Int × Value := (p.1, .slice p.2.1 p.2.2.1 p.2.2.2)
def cfS (p q : S) : Int := cmpI p.1 q.1
theorem ltS (x y : S) : ltOf cfS x y = decide (x.1 < y.1) := by
  unfold ltOf cfS cmpI
  by_cases h1 : x.1 < y.1
  · simp [h1]
  · by_cases h2 : y.1 < x.1 <;> simp [h1, h2]
theorem swoS : Sort.SWO (ltOf cfS) where
  irrefl x := by rw [ltS]; simp
  trans x y z h1 h2 := by rw [ltS] at *; simp at *; omega
  ntrans x y z h1 h2 := by rw [ltS] at *; simp at *; omega
set_option maxHeartbeats 1000000 in
theorem cmpS_any (x y : S) (W : World) : Calls Tryz.prog 52 #[.agg #[.int .i64 x.1, .slice x.2.1 x.2.2.1 x.2.2.2], .agg #[.int .i64 y.1, .slice y.2.1 y.2.2.1 y.2.2.2]] W fun e w' => e = .returned (.int .i64 (cfS x y)) ∧ ∃ q os', w' = Sort.grow (W.drewN q) os' := by
  have hcon : Hid (∀ W' : World, Calls Tryz.prog 53 #[.int .i64 x.1, .int .i64 y.1] W' fun e w' => e = .returned (.int .i64 (cfS x y)) ∧ w' = W') := fun W' => cmp_any x.1 y.1 W'
  generalize cfS x y = r at hcon ⊢
  go_enter Tryz.func52, Tryz.ntmps52
  go_wp2_with (go_at_call 53; refine (hcon.out _).mono ?_; rintro e w' ⟨rfl, rfl⟩)
  go_ret
  exact ⟨rfl, 0, _, by rw [Sort.alloc_eq_grow, Sort.alloc_eq_grow, Sort.grow_grow]; rfl⟩
theorem cmpLaysS (blk off size : Nat) (w : World) : CmpLays Tryz.prog  52 #[] encS 2 cfS blk off size w := fun _ _ _ _ x y => cmpS_any x y _
theorem row_flat (ds : List S) (t : Nat) (ht : t < ds.length * 2) : (rowB (ds.map toB))[t]? = some ((encS ds.toArray[t / 2]!)[t % 2]!) := by
  have hlt : t / 2 < ds.length := by omega
  have hg : ds.toArray[t / 2]! = ds[t / 2] := by
    rw [getElem!_pos ds.toArray (t / 2) (by simpa using hlt)]; simp
  have h := rowB_at (ds.map toB) (t / 2) (toB ds[t / 2]) (by rw [List.getElem?_map, List.getElem?_eq_getElem hlt]; rfl)
  rw [hg]
  rcases Nat.mod_two_eq_zero_or_one t with h2 | h2
  · rw [h2]
    have e : t = t / 2 * 2 := by omega
    have h3 := h.1
    rw [← e] at h3
    exact h3
  · rw [h2]
    have e : t = t / 2 * 2 + 1 := by omega
    have h3 := h.2
    rw [← e] at h3
    exact h3
/-- Binds in order: what sortByVar leaves. -/
def SortIs (w w' : World) (g : Nat) (ds : List S) : Prop := w.grownBy w' (some g) ∧ ∃ ds' : List S, ds'.Perm ds ∧ ds'.Pairwise (fun p q => p.1 ≤ q.1) ∧ RowAt w' (some ⟨g, 0, none⟩) (rowB (ds'.map toB))

theorem sort_world {w : World} {g m : Nat} {d' : Array S} {os : Array Obj} : w.grownBy (sortWorldK encS 2 w g 0 m d' os) (some g) := by
  refine ⟨rfl, rfl, rfl, ?_, fun k hk hne => ?_⟩
  · unfold sortWorldK Sort.putRowK Sort.putRow Sort.mapBlock Sort.grow Sort.ahead
    simp
  · have hkg : k ≠ g := fun e => hne (by rw [e])
    unfold sortWorldK Sort.putRowK Sort.putRow Sort.mapBlock Sort.grow Sort.ahead
    simp only [Array.getElem?_append, Array.size_modify, hk, if_true]
    rw [Array.getElem?_modify, if_neg (fun e => hkg e.symm)]

set_option maxRecDepth 100000 in
set_option maxHeartbeats 2000000 in
theorem sort_any (w : World) (base g n cap : Nat) (ds : List S) (hl : ds.length = n) (hn : n ≤ 4398046511000) (h : w.ownsRow base 46 2 (.slice (some ⟨g, 0, none⟩) n cap) n (rowB (ds.map toB))) :
    Calls Tryz.prog 30 #[.slice (some ⟨g, 0, none⟩) n cap] w fun e w' => e = .returned (.tuple #[]) ∧ SortIs w w' g ds := by
  have eg : ∀ args w, (callFunc 52 args).run Tryz.prog w = .ok (.enter 52 args) w := enters_of Tryz.func52 (by kernel_rfl) rfl
  have hblk : g < w.heap.size := own_low h g rfl
  obtain ⟨a0, c0, hv0, _, hrow, _⟩ := own_row h
  simp only [Value.slice.injEq] at hv0
  obtain ⟨rfl, _, rfl⟩ := hv0
  have hfz : ∀ j, w.frozen? ⟨g, j, none⟩ = false := fun j => by
    rcases h.2 with ⟨e', _⟩ | ⟨g', cap', cur, hv, hg', hh, _⟩
    · cases e'
    · simp only [Value.slice.injEq, Option.some.injEq, Addr.mk.injEq] at hv
      obtain ⟨⟨rfl, _⟩, _, rfl⟩ := hv
      simp [World.frozen?, hh]
  have hH : Sort.HoldsK encS 2 w g 0 ds.toArray := fun j hj => by
    rw [Sort.size_flatK] at hj
    refine ⟨?_, by rw [Nat.zero_add]; exact hfz j⟩
    rw [Sort.get_flatK _ _ _ j hj]
    obtain ⟨b, off, e, hc⟩ := hrow j _ (row_flat ds j (by simpa using hj))
    cases e
    exact hc
  have hcon := AnyQ.slices_SortFunc Tryz.sortS 2 Tryz.isAgg46 Tryz.sizeOf46 encS (fun _ => rfl) (fun x v hv => by simp [encS] at hv; rcases hv with rfl | rfl <;> rfl) cfS swoS 52 #[] g 0 cap ds.toArray w eg (cmpLaysS g 0 _ w) hH hblk (by simp; omega)
  rw [show ds.toArray.size = n by simpa using hl] at hcon
  change Calls Tryz.prog 51 _ _ _ at hcon
  have HC : Hid _ := hcon
  have HH : Hid (Sort.HoldsK encS 2 w g 0 ds.toArray) := hH
  have HB : Hid (g < w.heap.size) := hblk
  clear hH hrow hfz h eg hcon
  go_enter Tryz.func30, Tryz.ntmps30
  go_wp2_with fail
  refine Calls.mono HC.out ?_
  rintro e w2 ⟨rfl, d', m, os, hp, hs, rfl⟩
  have HS : Hid (SortIs w (sortWorldK encS 2 w g 0 m d' os) g ds) := by
    have hsz : d'.size = n := by have := hp.1; simpa [hl] using this
    refine ⟨sort_world, d'.toList, ?_, ?_, ?_⟩
    · have := hp.2.2
      rw [show (ds.toArray).extract 0 n = ds.toArray by rw [← hl]; simp, show d'.extract 0 n = d' by rw [← hsz]; simp] at this
      simpa using this
    · rw [List.pairwise_iff_getElem]
      intro i j hi hj hij
      have h1 := hs i j (Nat.zero_le _) hij (by rw [← hsz]; simpa using hj)
      rw [ltS, getElem!_pos d' j (by simpa using hj), getElem!_pos d' i (by simpa using hi)] at h1
      simpa using h1
    · intro t u ht
      have hlt : t < d'.size * 2 := by
        have := (List.getElem?_eq_some_iff.1 ht).1
        rw [rowB_len] at this
        simpa using this
      have h2 := holdsK_sortWorldK_c encS 2 w g 0 ds.toArray d' m os HH.out HB.out (by simp [hsz, hl]) t (by rw [Sort.size_flatK]; exact hlt)
      rw [Sort.get_flatK _ _ _ t hlt] at h2
      rw [row_flat d'.toList t (by simpa using hlt)] at ht
      simp at ht
      refine ⟨g, 0, rfl, ?_⟩
      rw [h2.1, ← ht]
      simp
  generalize sortWorldK encS 2 w g 0 m d' os = w3 at *
  clear HC HH hp hs
  go_wp2
  go_end0
  exact ⟨rfl, HS.out⟩
end Go.Proofs.YtjaccgkeldabfaaGreat.S
