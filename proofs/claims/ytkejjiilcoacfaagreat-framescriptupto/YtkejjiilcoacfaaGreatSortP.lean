/- Pairs sorted; the pairs of a set in order; Union, Norm. -/
import Derived.Test.YtkejjiilcoacfaaGreatCmpP
namespace Go.Proofs.YtkejjiilcoacfaaGreat
open Go.RowKit

def encS (p : Pr) : List Value := [.int .i64 p.1, .int .i64 p.2]
theorem ltS (x y : Pr) : ltOf cfP x y = decide (ltP x y) := by
  unfold ltOf cfP orI cmpI ltP
  by_cases h1 : x.1 < y.1
  · simp [h1]
  · by_cases h2 : y.1 < x.1
    · have h3 : ¬ x.1 = y.1 := by omega
      simp [h1, h2, h3]
    · have h3 : x.1 = y.1 := by omega
      by_cases h4 : x.2 < y.2
      · simp [h3, h4]
      · by_cases h5 : y.2 < x.2 <;> simp [h3, h4, h5]
theorem swoP : Sort.SWO (ltOf cfP) where
  irrefl x := by rw [ltS]; simp [ltP_irrefl]
  trans x y z h1 h2 := by rw [ltS] at *; simp at *; exact ltP_trans h1 h2
  ntrans x y z h1 h2 := by rw [ltS] at *; simp at *; unfold ltP at *; omega
theorem cmpLaysP (blk off size : Nat) (w : World) : CmpLays Tryz.prog  112 #[] encS 2 cfP blk off size w := fun _ _ _ _ x y => cmpP_any x y _
theorem rowP_flat (ds : List Pr) (t : Nat) (ht : t < ds.length * 2) : (rowP ds)[t]? = some ((encS ds.toArray[t / 2]!)[t % 2]!) := by
  have hlt : t / 2 < ds.length := by omega
  have hg : ds.toArray[t / 2]! = ds[t / 2] := by
    rw [getElem!_pos ds.toArray (t / 2) (by simpa using hlt)]; simp
  have h := rowP_at ds (t / 2) ds[t / 2] (List.getElem?_eq_getElem hlt)
  rw [hg]
  rcases Nat.mod_two_eq_zero_or_one t with h2 | h2
  · rw [h2]
    have e : t = t / 2 * 2 := by omega
    have h3 := h.1
    rw [← e] at h3
    exact h3
  · rw [h2]
    have e : t = t / 2 * 2 + 1 := by omega
    have h3 := h.2
    rw [← e] at h3
    exact h3
theorem sort_world {w : World} {g m : Nat} {d' : Array Pr} {os : Array Obj} : w.grownBy (sortWorldK encS 2 w g 0 m d' os) (some g) := by
  refine ⟨rfl, rfl, rfl, ?_, fun k hk hne => ?_⟩
  · unfold sortWorldK Sort.putRowK Sort.putRow Sort.mapBlock Sort.grow Sort.ahead
    simp
  · have hkg : k ≠ g := fun e => hne (by rw [e])
    unfold sortWorldK Sort.putRowK Sort.putRow Sort.mapBlock Sort.grow Sort.ahead
    simp only [Array.getElem?_append, Array.size_modify, hk, if_true]
    rw [Array.getElem?_modify, if_neg (fun e => hkg e.symm)]
theorem sort_block {w : World} {g m : Nat} {d' : Array Pr} {os : Array Obj} {cur : Array Value} (h : w.heap[g]? = some (.cells cur 64 (0, 0))) : ∃ cur', (sortWorldK encS 2 w g 0 m d' os).heap[g]? = some (.cells cur' 64 (0, 0)) ∧ cur'.size = cur.size := by
  have hk : g < w.heap.size := (Array.getElem?_eq_some_iff.1 h).1
  unfold sortWorldK Sort.putRowK Sort.putRow Sort.mapBlock Sort.grow Sort.ahead
  simp only [Array.getElem?_append, Array.size_modify, hk, if_true]
  rw [Array.getElem?_modify, if_pos rfl, h]
  exact ⟨_, rfl, by simp [Sort.putCells]⟩
theorem own_of_row {W : World} {base g n cap : Nat} {cur : Array Value} {xs : List Value} (hg : base ≤ g) (hh : W.heap[g]? = some (.cells cur 64 (0, 0))) (hn : n ≤ cap) (hc : cap ≤ maxLen) (hs : cur.size = cap * 2) (hl : xs.length = n * 2) (hr : RowAt W (some ⟨g, 0, none⟩) xs) : W.ownsRow base 64 2 (.slice (some ⟨g, 0, none⟩) n cap) n xs := by
  refine ⟨hl, .inr ⟨g, cap, cur, rfl, hg, hh, hn, hc, hs, ?_⟩⟩
  refine List.ext_getElem? fun i => ?_
  rw [List.getElem?_take]
  by_cases hi : i < n * 2
  · rw [if_pos hi]
    have hi' : i < xs.length := by omega
    obtain ⟨b, off, e, hc'⟩ := hr i xs[i] (List.getElem?_eq_getElem hi')
    cases e
    rw [Nat.zero_add] at hc'
    rw [List.getElem?_eq_getElem hi', ← hc']
    simp [World.cell?, hh]
  · rw [if_neg hi, List.getElem?_eq_none (by omega)]
/-- slices.SortFunc of whatever row of pairs of one's own. -/
theorem sortP_any (w : World) (base n : Nat) (v : Value) (ds : List Pr) (hl : ds.length = n) (hn : n ≤ 4398046511000) (h : w.ownsRow base 64 2 v n (rowP ds)) :
    Calls Tryz.prog 128 #[v, .func (.func 112) #[] #[]] w fun e w' => e = .returned (.tuple #[]) ∧ Below base w w' ∧ ∃ ds' : List Pr, ds'.Perm ds ∧ ds'.Pairwise (fun p q => ¬ ltP q p) ∧ w'.ownsRow base 64 2 v n (rowP ds') := by
  rcases h.2 with ⟨rfl, h0⟩ | ⟨g, cap, cur, rfl, hbg, hh, hnc, hcm, hsz, htk⟩
  · subst h0
    obtain rfl := List.eq_nil_of_length_eq_zero hl
    have hcon := AnyF.slices_SortFunc_none Tryz.sortB none 0 (.func (.func 112) #[] #[]) w
    change Calls Tryz.prog 128 _ _ _ at hcon
    refine hcon.mono fun e w' ⟨he, hw⟩ => ?_
    subst hw
    exact ⟨he, Below.refl _ _, [], List.Perm.refl _, List.Pairwise.nil, h⟩
  · have eg : ∀ args w, (callFunc 112 args).run Tryz.prog w = .ok (.enter 112 args) w := enters_of Tryz.func112 (by kernel_rfl) rfl
    have hblk : g < w.heap.size := own_low h g rfl
    obtain ⟨a0, c0, hv0, _, hrow, _⟩ := own_row h
    simp only [Value.slice.injEq] at hv0
    obtain ⟨rfl, _, rfl⟩ := hv0
    have hfz : ∀ j, w.frozen? ⟨g, j, none⟩ = false := fun j => by simp [World.frozen?, hh]
    have hH : Sort.HoldsK encS 2 w g 0 ds.toArray := fun j hj => by
      rw [Sort.size_flatK] at hj
      refine ⟨?_, by rw [Nat.zero_add]; exact hfz j⟩
      rw [Sort.get_flatK _ _ _ j hj]
      obtain ⟨b, off, e, hc⟩ := hrow j _ (rowP_flat ds j (by simpa using hj))
      cases e
      exact hc
    have hcon := AnyQ.slices_SortFunc Tryz.sortB 2 Tryz.isAgg64 Tryz.sizeOf64 encS (fun _ => rfl) (fun x v hv => by simp [encS] at hv; rcases hv with rfl | rfl <;> rfl) cfP swoP 112 #[] g 0 cap ds.toArray w eg (cmpLaysP g 0 _ w) hH hblk (by simp; omega)
    rw [show ds.toArray.size = n by simpa using hl] at hcon
    change Calls Tryz.prog 128 _ _ _ at hcon
    refine hcon.mono ?_
    rintro e w2 ⟨rfl, d', m, os, hp, hs, rfl⟩
    have hsz' : d'.size = n := by have := hp.1; simpa [hl] using this
    obtain ⟨cur', hb', hs'⟩ := sort_block (m := m) (d' := d') (os := os) hh
    refine ⟨rfl, (Below.refl base w).grown sort_world (Nat.le_of_lt (Nat.lt_of_le_of_lt hbg hblk)) (fun g' e' => by cases e'; exact hbg), d'.toList, ?_, ?_, ?_⟩
    · have := hp.2.2
      rw [show (ds.toArray).extract 0 n = ds.toArray by rw [← hl]; simp, show d'.extract 0 n = d' by rw [← hsz']; simp] at this
      simpa using this
    · rw [List.pairwise_iff_getElem]
      intro i j hi hj hij
      have h1 := hs i j (Nat.zero_le _) hij (by rw [← hsz']; simpa using hj)
      rw [ltS, getElem!_pos d' j (by simpa using hj), getElem!_pos d' i (by simpa using hi)] at h1
      simpa using h1
    · refine own_of_row hbg hb' hnc hcm (hs'.trans hsz) (by rw [rowP_len]; simp [hsz']) ?_
      intro t u ht
      have hlt : t < d'.size * 2 := by
        have := (List.getElem?_eq_some_iff.1 ht).1
        rw [rowP_len] at this
        simpa using this
      have h2 := holdsK_sortWorldK_c encS 2 w g 0 ds.toArray d' m os hH hblk (by simp [hsz', hl]) t (by rw [Sort.size_flatK]; exact hlt)
      rw [Sort.get_flatK _ _ _ t hlt] at h2
      rw [rowP_flat d'.toList t (by simpa using hlt)] at ht
      simp at ht
      refine ⟨g, 0, rfl, ?_⟩
      rw [h2.1, ← ht]
      simp
/-- What a set holds, in order. -/
structure Told (S : Pr → Prop) (m : List Pr) : Prop where
  up : Up m
  wf : ∀ p ∈ m, wfP p
  mem : ∀ p, wfP p → (p ∈ m ↔ S p)
theorem told_of {S : Pr → Prop} {ss ds : List Pr} (h : Lists S ss) (hp : ds.Perm ss) (hs : ds.Pairwise (fun p q => ¬ ltP q p)) : Told S ds := by
  refine ⟨?_, fun p hq => h.wf p (hp.mem_iff.1 hq), fun p hq => by rw [hp.mem_iff]; exact h.mem p hq⟩
  have hn : ds.Nodup := hp.nodup_iff.2 h.nodup
  exact (hs.and hn).imp fun {a b} ⟨h1, h2⟩ => (ltP_total h2).resolve_right h1
set_option maxHeartbeats 1000000 in
theorem sortedF_any (w0 : World) (b n : Nat) (S : Pr → Prop) (h : PS w0 b n S) (hn : n ≤ 8388608) (w : World) (hw : w = w0.alloc (.cells #[.map (some b)] 139)) :
    Calls Tryz.prog 110 #[.func (.func 129) #[] #[.pointer (some ⟨w0.heap.size, 0, none⟩)], .func (.func 112) #[] #[]] w fun e w' => ∃ v m, e = .returned v ∧ Told S m ∧ m.length ≤ n ∧ w'.ownsRow w.heap.size 64 2 v m.length (rowP m) ∧ Below w.heap.size w w' := by
  have C : Hid _ := collectP_calls w0 b n S h hn w hw
  have HN : Hid (n ≤ 8388608) := hn
  clear h hw hn
  go_enter Tryz.func110, Tryz.ntmps110
  go_wp2_with fail
  refine Calls.mono C.out ?_
  rintro e w1 ⟨v, ss, rfl, hL, hlen, hr, hb⟩
  have D : Hid _ := sortP_any w1 w.heap.size ss.length v ss rfl (by have := HN.out; omega) hr
  have HL : Hid (Lists S ss) := hL
  have HLen : Hid (ss.length ≤ n) := hlen
  have HB : Hid (Below w.heap.size w w1) := hb
  clear C hL hlen hr hb
  go_wp2_with fail
  refine Calls.mono D.out ?_
  rintro e w2 ⟨rfl, hb2, ds, hp, hs, hr2⟩
  have HE : Hid (∃ m, Told S m ∧ m.length ≤ n ∧ w2.ownsRow w.heap.size 64 2 v m.length (rowP m) ∧ Below w.heap.size w w2) :=
    ⟨ds, told_of HL.out hp hs, by rw [hp.length_eq]; exact HLen.out, by rw [hp.length_eq]; exact hr2, HB.out.trans hb2⟩
  clear D HL HLen HB hb2 hp hs hr2
  go_wp2
  go_ret
  obtain ⟨m, h1, h2, h3, h4⟩ := HE.out
  exact ⟨v, m, rfl, h1, h2, h3, h4⟩
set_option maxHeartbeats 1000000 in
theorem inOrder_any (w : World) (b n : Nat) (S : Pr → Prop) (h : PS w b n S) (hn : n ≤ 8388608) :
    Calls Tryz.prog 100 #[.map (some b)] w fun e w' => ∃ v m, e = .returned v ∧ Told S m ∧ m.length ≤ n ∧ w'.ownsRow w.heap.size 64 2 v m.length (rowP m) ∧ Below w.heap.size w w' := by
  have C : Hid _ := keys_calls b w
  have D : Hid _ := sortedF_any w b n S h hn _ rfl
  have HS : Hid (Below w.heap.size w (w.alloc (.cells #[.map (some b)] 139))) := (Below.refl _ w).alloc (Nat.le_refl _) _
  clear h hn
  go_enter Tryz.func100, Tryz.ntmps100
  go_wp2_with fail
  refine Calls.mono C.out ?_
  rintro e w1 ⟨rfl, hw1⟩
  subst w1
  clear C
  go_wp2_with fail
  refine Calls.mono D.out ?_
  rintro e w2 ⟨v, m, rfl, h1, h2, h3, h4⟩
  have HE : Hid (∃ m, Told S m ∧ m.length ≤ n ∧ w2.ownsRow w.heap.size 64 2 v m.length (rowP m) ∧ Below w.heap.size w w2) :=
    ⟨m, h1, h2, h3.mono (by simp), HS.out.trans (h4.mono (by simp))⟩
  clear D HS h1 h2 h3 h4
  go_wp2
  go_ret
  obtain ⟨m, h1, h2, h3, h4⟩ := HE.out
  exact ⟨v, m, rfl, h1, h2, h3, h4⟩
end Go.Proofs.YtkejjiilcoacfaaGreat
