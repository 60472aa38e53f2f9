/- pick: what is taken of a list, each once, rising. -/
import Derived.Test.YtmgpnaehniohgaaDoorERefA
import Derived.Test.YtmgpnaehniohgaaDoorShelf
namespace Go.Proofs.YtmgpnaehniohgaaDoor.E
open Go.RowKit Go.Deep

theorem rising_ext : ∀ {a b : List Int}, a.Pairwise (· < ·) → b.Pairwise (· < ·) → (∀ x, x ∈ a ↔ x ∈ b) → a = b
  | [], [], _, _, _ => rfl
  | [], y :: b, _, _, h => by have := (h y).2 (by simp); simp at this
  | x :: a, [], _, _, h => by have := (h x).1 (by simp); simp at this
  | x :: a, y :: b, ha, hb, h => by
    obtain ⟨a1, a2⟩ := List.pairwise_cons.1 ha
    obtain ⟨b1, b2⟩ := List.pairwise_cons.1 hb
    have hxy : x = y := by
      have h1 := (h x).1 (by simp)
      have h2 := (h y).2 (by simp)
      rcases List.mem_cons.1 h1 with e | h1
      · exact e
      · rcases List.mem_cons.1 h2 with e | h2
        · exact e.symm
        · have := b1 x h1
          have := a1 y h2
          omega
    subst hxy
    rw [rising_ext a2 b2 fun z => ?_]
    constructor
    · intro hz
      have := (h z).1 (List.mem_cons_of_mem _ hz)
      rcases List.mem_cons.1 this with e | h3
      · subst e
        have := a1 z hz
        omega
      · exact h3
    · intro hz
      have := (h z).2 (List.mem_cons_of_mem _ hz)
      rcases List.mem_cons.1 this with e | h3
      · subst e
        have := b1 z hz
        omega
      · exact h3
theorem compact_up {l : List Int} (hs : l.Pairwise (· ≤ ·)) : ∀ m, m ≤ l.length → (Lib.compactUpTo l.toArray m).Pairwise (· < ·) ∧ ∀ x, x ∈ Lib.compactUpTo l.toArray m ↔ x ∈ l.take m
  | 0, _ => ⟨by simp [Lib.compactUpTo], fun x => by simp [Lib.compactUpTo]⟩
  | m + 1, hm => by
    obtain ⟨h1, h2⟩ := compact_up hs m (by omega)
    have hlt : m < l.length := by omega
    have hget : l.toArray[m]! = l[m] := by rw [getElem!_pos l.toArray m (by simpa using hlt)]; simp
    have htk : l.take (m + 1) = l.take m ++ [l[m]] := by rw [List.take_add_one, List.getElem?_eq_getElem hlt]; rfl
    rw [Lib.compactUpTo_succ]
    by_cases hk : Lib.keeps l.toArray m
    · rw [if_pos hk, hget, htk]
      refine ⟨List.pairwise_append.2 ⟨h1, List.pairwise_singleton _ _, fun x hx y hy => ?_⟩, fun x => by rw [List.mem_append, List.mem_append, h2]⟩
      rw [List.mem_singleton.1 hy]
      have hx' := (h2 x).1 hx
      obtain ⟨i, hi⟩ := List.getElem?_of_mem hx'
      obtain ⟨hil, hie⟩ := List.getElem?_eq_some_iff.1 hi
      rw [List.length_take] at hil
      have him : i < m := by omega
      rw [List.getElem_take] at hie
      have hp := List.pairwise_iff_getElem.1 hs
      simp only [Lib.keeps, decide_eq_true_eq] at hk
      rcases hk with h0 | h0
      · omega
      · have hm1 : l.toArray[m - 1]! = l[m - 1] := by rw [getElem!_pos l.toArray (m - 1) (by simp; omega)]; simp
        rw [hget, hm1] at h0
        have q1 : l[m - 1] ≤ l[m] := hp (m - 1) m (by omega) hlt (by omega)
        have q2 : l[i] ≤ l[m - 1] := by
          rcases Nat.lt_or_ge i (m - 1) with h3 | h3
          · exact hp i (m - 1) (by omega) (by omega) h3
          · have : i = m - 1 := by omega
            subst this
            omega
        rw [hie] at q2
        omega
    · rw [if_neg hk, List.append_nil, htk]
      refine ⟨h1, fun x => ?_⟩
      rw [h2, List.mem_append, List.mem_singleton]
      simp only [Lib.keeps, decide_eq_true_eq, not_or, Classical.not_not] at hk
      have hm1 : l.toArray[m - 1]! = l[m - 1] := by rw [getElem!_pos l.toArray (m - 1) (by simp; omega)]; simp
      rw [hget, hm1] at hk
      constructor
      · exact .inl
      · rintro (h | h)
        · exact h
        · rw [h, hk.2]
          exact List.mem_take_iff_getElem.2 ⟨m - 1, by omega, rfl⟩
theorem compact_rises {l : List Int} (hs : l.Pairwise (· ≤ ·)) : (Lib.compact l).Pairwise (· < ·) ∧ ∀ x, x ∈ Lib.compact l ↔ x ∈ l := by
  have := compact_up hs l.length (Nat.le_refl _)
  rw [List.take_of_length_le (Nat.le_refl _)] at this
  exact this
theorem compact_le (zs : List Int) : (Lib.compact zs).length ≤ zs.length := by
  unfold Lib.compact Lib.compactUpTo
  rw [List.length_map]
  have := List.length_filter_le (Lib.keeps zs.toArray) (List.range zs.length)
  simpa using this
theorem sorted_of (l : List Int) : (l.mergeSort fun x y => decide (x ≤ y)).Pairwise (· ≤ ·) := (List.pairwise_mergeSort (le := fun (x y : Int) => decide (x ≤ y)) (fun a b c h1 h2 => by
    have := of_decide_eq_true h1
    have := of_decide_eq_true h2
    exact decide_eq_true (by omega)) (fun a b => by
      by_cases h : a ≤ b
      · simp [h]
      · have : b ≤ a := by omega
        simp [this]) l).imp fun h => of_decide_eq_true h
theorem grow_below {w : World} {g m B : Nat} {d : Array Int} {os : Array Obj} (hB : B ≤ g) (hg : g < w.heap.size) : Below B w (Sort.grow (Sort.putRow (Value.int .i64) (Sort.ahead w m) g 0 d) os) := by
  refine ⟨rfl, rfl, rfl, ?_, fun k hk => ?_⟩
  · unfold Sort.putRow Sort.mapBlock Sort.grow Sort.ahead
    simp
  · have hkg : k ≠ g := by omega
    have hkl : k < w.heap.size := by omega
    unfold Sort.putRow Sort.mapBlock Sort.grow Sort.ahead
    simp only [Array.getElem?_append, Array.size_modify, hkl, if_true]
    rw [Array.getElem?_modify, if_neg (fun e => hkg e.symm)]
theorem put_below {w : World} {g m B : Nat} {d : Array Int} (hB : B ≤ g) : Below B w (Sort.putRow (Value.int .i64) (Sort.ahead w m) g 0 d) := by
  refine ⟨rfl, rfl, rfl, ?_, fun k hk => ?_⟩
  · unfold Sort.putRow Sort.mapBlock Sort.ahead
    simp
  · have hkg : k ≠ g := by omega
    unfold Sort.putRow Sort.mapBlock Sort.ahead
    rw [Array.getElem?_modify, if_neg (fun e => hkg e.symm)]
theorem own_low {W : World} {base e size : Nat} {v : Value} {n : Nat} {xs : List Value} (h : W.ownsRow base e size v n xs) : ∀ g, v.ownBlock = some g → g < W.heap.size := by
  intro g hg
  rcases h.2 with ⟨rfl, _⟩ | ⟨g', cap, cur, rfl, _, hh, _⟩
  · simp [Value.ownBlock] at hg
  · have e' : g' = g := by simpa [Value.ownBlock] using hg
    subst e'
    exact (Array.getElem?_eq_some_iff.1 hh).1
/-- slices.Sort of a row of one's own. -/
theorem sortrow_any (w : World) (base n g cap : Nat) (l : List Int) (hl : l.length = n) (hn : n ≤ 17592186043904) (h : w.ownsRow base 3 1 (.slice (some ⟨g, 0, none⟩) n cap) n (l.map intV)) :
    Calls Tryd.prog 53 #[.slice (some ⟨g, 0, none⟩) n cap] w fun e w' => e = .returned (.tuple #[]) ∧ Below base w w' ∧ g < w'.heap.size ∧ Sort.Holds (Value.int .i64) w' g 0 (l.mergeSort fun x y => decide (x ≤ y)).toArray := by
  have hperm : (l.mergeSort fun x y => decide (x ≤ y)).Perm l := List.mergeSort_perm _ _
  have hblk : g < w.heap.size := own_low h g rfl
  have hbg : base ≤ g := own_ge h g rfl
  rcases h.2 with ⟨e0, h0⟩ | ⟨g', cap', cur, ev, hg, hh, hnc, hcm, hsz, htk⟩
  · cases e0
  cases ev
  obtain ⟨a0, c0, hv0, hrow⟩ := own_row h
  cases hv0
  have hfz : ∀ j, w.frozen? ⟨g, j, none⟩ = false := fun j => by simp [World.frozen?, hh]
  have hH : Sort.Holds (Value.int .i64) w g 0 l.toArray := fun j hj => by
    have hj' : j < l.length := by simpa using hj
    obtain ⟨b, off, e, hc⟩ := hrow.ints j l[j] (List.getElem?_eq_getElem hj')
    cases e
    exact ⟨by rw [hc]; congr 2; rw [getElem!_pos l.toArray j hj]; simp, by rw [Nat.zero_add]; exact hfz j⟩
  have hcon := Tryd.slices_Sort_int g 0 cap l w hH hblk (by omega)
  rw [hl] at hcon
  refine hcon.mono fun e w' ⟨he, m, os, hw⟩ => ?_
  subst hw
  have hs2 : (l.mergeSort fun x y => decide (x ≤ y)).toArray.size = l.toArray.size := by simp [hperm.length_eq]
  have h1 := Sort.holds_putRow (Value.int .i64) (Sort.ahead w m) g 0 l.toArray _ (by exact hH) hs2
  have h2 := Sort.holds_grow (Value.int .i64) _ os g 0 _ (by simpa [Sort.putRow, Sort.mapBlock, Sort.ahead] using hblk) h1
  have hb : Below base w _ := grow_below (m := m) (d := (l.mergeSort fun x y => decide (x ≤ y)).toArray) (os := os) hbg hblk
  exact ⟨he, hb, Nat.lt_of_lt_of_le hblk hb.size, h2⟩
/-- slices.Compact of such a row. -/
theorem compactrow_any (w : World) (base n g cap : Nat) (zs : List Int) (hl : zs.length = n) (hn : n ≤ 17592186043904) (hcap : n ≤ cap) (hbg : base ≤ g) (hH : Sort.Holds (Value.int .i64) w g 0 zs.toArray) :
    Calls Tryd.prog 54 #[.slice (some ⟨g, 0, none⟩) n cap] w fun e w' => e = .returned (.slice (some ⟨g, 0, none⟩) (Lib.compact zs).length cap) ∧ Below base w w' ∧ IntsAt w' (some ⟨g, 0, none⟩) (Lib.compact zs) := by
  have hcon := Tryd.slices_Compact_int g 0 cap zs w hH (by omega) (by omega)
  rw [hl] at hcon
  refine hcon.mono fun e w' ⟨he, q, hw⟩ => ?_
  subst hw
  refine ⟨he, put_below hbg, fun i x hi => ⟨g, 0, rfl, ?_⟩⟩
  have hle : (Lib.compact zs).length ≤ zs.length := compact_le zs
  have hilt : i < (Lib.compact zs).length := (List.getElem?_eq_some_iff.1 hi).1
  have h1 := Sort.holds_putRow (Value.int .i64) (Sort.ahead w q) g 0 zs.toArray (Lib.compact zs ++ List.replicate (n - (Lib.compact zs).length) 0).toArray (by exact hH) (by simp; omega)
  have h2 := (h1 i (by simp; omega)).1
  rw [h2, getElem!_pos _ i (by simp; omega)]
  congr 2
  have h3 := (List.getElem?_eq_some_iff.1 hi).2
  simp [List.getElem_append_left hilt, h3]

set_option maxHeartbeats 2000000 in
theorem which_any (w : World) (vs : List Int) (x : Int) (Bv nv cv : Nat) (av : Option Addr) (hc : w.cell? ⟨Bv, 0, none⟩ = some (.slice av nv cv)) (hv : vs.length = nv) (hnv : nv ≤ 17592186043900) (hV : IntsAt w av vs) :
    Calls Tryd.prog 6 #[.int .i64 x, .pointer (some ⟨Bv, 0, none⟩)] w fun e w' => e = .returned (.bool (decide (x ∈ vs))) ∧ w' = w := by
  have IN : Hid _ := in_any w av cv vs nv x hv (by omega) hV
  clear hV hv
  go_enter Tryd.func6, Tryd.ntmps6
  go_wp2_with fail
  refine Calls.mono IN.out ?_
  rintro e w' ⟨rfl, hw⟩
  subst w'
  go_wp2
  go_ret
  exact ⟨rfl, rfl⟩

set_option maxRecDepth 100000 in
set_option maxHeartbeats 8000000 in
theorem pick_any (w : World) (a : Option Addr) (ca : Nat) (l vs : List Int) (n Bv nv cv : Nat) (av : Option Addr) (hl : l.length = n) (hn : n ≤ 17592186043900) (hA : IntsAt w a l) (hc : w.cell? ⟨Bv, 0, none⟩ = some (.slice av nv cv)) (hv : vs.length = nv) (hnv : nv ≤ 17592186043900) (hV : IntsAt w av vs) :
    Calls Tryd.prog 34 #[.slice a n ca, .func (Fn.func 6) #[] #[.pointer (some ⟨Bv, 0, none⟩)]] w fun e w' => Below w.heap.size w w' ∧ ∃ ao cap out, e = .returned (.slice ao out.length cap) ∧ IntsAt w' ao out ∧ out.length ≤ n ∧ out.Pairwise (· < ·) ∧ ∀ x, x ∈ out ↔ x ∈ l ∧ x ∈ vs := by
  obtain ⟨i0, hi0, hz0, hz1, hz3⟩ := info_parts infoI
  have HA : Hid (IntsAt w a l) := hA
  have HV : Hid (IntsAt w av vs) := hV
  have HC : Hid (w.cell? ⟨Bv, 0, none⟩ = some (.slice av nv cv)) := hc
  have HL : Hid (l.length = n) := hl
  have HVl : Hid (vs.length = nv) := hv
  clear hA hV hc hl hv
  go_enter Tryd.func34, Tryd.ntmps34
  go_wp2_with fail
  go_loopw [5, 7, 10] (fun v _ i wx => ∃ (j k : Nat) (ao : Option Addr) (cap : Nat) (out : List Int), j ≤ n ∧ k ≤ j ∧ i = .int .i64 j ∧ v = .slice ao k cap ∧ Hid (out.length = k) ∧ Hid (wx.ownsRow w.heap.size 3 1 (.slice ao k cap) k (out.map intV)) ∧ Hid (∀ x, x ∈ out ↔ x ∈ l.take j ∧ x ∈ vs) ∧ Hid (Below w.heap.size w wx)) (fun _ _ i _ => n - (intOf i).toNat)
  case atStart => exact ⟨0, 0, none, 0, [], Nat.zero_le _, Nat.le_refl _, rfl, rfl, rfl, World.ownsRow_nil _ _ _ _, fun x => by simp, Below.refl _ _⟩
  case round =>
    obtain ⟨j, k, ao, cap, out, hj, hk, rfl, rfl, HO, HW, HM, hb⟩ := hrel
    by_cases hlt : j < n
    · have n1 : (j : Int) < (n : Int) := by omega
      obtain ⟨x, hx⟩ : ∃ x, l[j]? = some x := ⟨l[j]'(by rw [HL.out]; exact hlt), List.getElem?_eq_getElem _⟩
      obtain ⟨b1, o1, rfl, c1⟩ := (HA.out.under hb.out) j x hx
      have hcv : wr.cell? ⟨Bv, 0, none⟩ = some (.slice av nv cv) := (hb.out.cell (p := ⟨Bv, 0, none⟩) (World.block_lt_of_cell? _ _ HC.out)).trans HC.out
      have Htk : Hid (l.take (j + 1) = l.take j ++ [x]) := by show _ = _; rw [List.take_add_one, hx]; rfl
      clear hx
      have WH : Hid _ := which_any wr vs x Bv nv cv av hcv HVl.out hnv (HV.out.under hb.out)
      have hs0 : w.heap.size ≤ wr.heap.size := hb.out.size
      clear hcv
      go_wp2_with fail
      refine Calls.mono WH.out ?_
      rintro e w' ⟨rfl, hw⟩
      subst w'
      by_cases hin : x ∈ vs
      · have h1 : decide (x ∈ vs) = true := decide_eq_true hin
        have HM2 : Hid (∀ y, y ∈ out ++ [x] ↔ y ∈ l.take (j + 1) ∧ y ∈ vs) := fun y => by
          rw [Htk.out, List.mem_append, List.mem_append, HM.out, List.mem_singleton]
          constructor
          · rintro (h | h)
            · exact ⟨.inl h.1, h.2⟩
            · subst h; exact ⟨.inr rfl, hin⟩
          · rintro ⟨h | h, h2⟩
            · exact .inl ⟨h, h2⟩
            · exact .inr h
        clear WH hin
        go_wp2_with (at_builtin; refine wpList_append_more (w := wr.alloc (.cells #[.int .i64 x] 3)) rfl _ _ _ rfl w.heap.size 3 i0 _ 1 8 Tryd.underlying23 hi0 hz0 hz1 hz3 rfl (by omega) _ k (out.map intV) (by rfl) (by exact HW.out.alloc _) (some ⟨wr.heap.size, 0, none⟩) 1 1 [.int .i64 x] (by rfl) (by rfl) (by exact (row_new wr [.int .i64 x] 3 _ rfl).news) (by simp [Value.oneCell']) (by unfold maxLen; omega) (by omega) (by simp; omega) ?_; intro a2 c2 w2 ho hb2; have HO3 : Hid (w2.ownsRow w.heap.size 3 1 (.slice a2 (k + 1) c2) (k + 1) (out.map intV ++ [.int .i64 x])) := ho; have HB3 : Hid (Below w.heap.size w w2) := hb.out.trans (((Below.refl _ _).alloc hs0 _).trans hb2); clear ho hb2)
        go_wp2
        refine ⟨⟨j + 1, k + 1, _, _, out ++ [x], by omega, by omega, by go_num, rfl, ?_, ?_, HM2.out, HB3.out⟩, by simp [intOf]; omega⟩
        · show _ = _
          simp [HO.out]
        · show World.ownsRow _ _ _ _ _ _ _
          rw [List.map_append]
          exact HO3.out
      · have h1 : decide (x ∈ vs) = false := decide_eq_false hin
        have HM2 : Hid (∀ y, y ∈ out ↔ y ∈ l.take (j + 1) ∧ y ∈ vs) := fun y => by
          rw [Htk.out, List.mem_append, HM.out, List.mem_singleton]
          constructor
          · intro h
            exact ⟨.inl h.1, h.2⟩
          · rintro ⟨h | h, h2⟩
            · exact ⟨h, h2⟩
            · subst h; exact absurd h2 hin
        clear WH hin
        go_wp2
        exact ⟨⟨j + 1, k, _, _, out, by omega, by omega, by go_num, rfl, HO.out, HW.out, HM2.out, hb.out⟩, by simp [intOf]; omega⟩
    · have n1 : ¬ (j : Int) < (n : Int) := by omega
      have HM2 : Hid (∀ y, y ∈ out ↔ y ∈ l ∧ y ∈ vs) := fun y => by
        rw [HM.out, List.take_of_length_le (by rw [HL.out]; omega)]
      clear HM
      rcases Nat.eq_zero_or_pos k with rfl | hk0
      · have hout : out = [] := List.eq_nil_of_length_eq_zero HO.out
        subst hout
        have S1 : Hid _ := Tryd.slices_Sort_int_none ao cap wr
        have S2 : Hid _ := Tryd.slices_Compact_int_empty ao cap wr
        go_wp2_with fail
        refine Calls.mono S1.out ?_
        rintro e w' ⟨rfl, hw⟩
        subst w'
        go_wp2_with fail
        refine Calls.mono S2.out ?_
        rintro e w' ⟨rfl, hw⟩
        subst w'
        go_wp2
        go_ret
        exact ⟨hb.out, _, _, [], rfl, fun i x hi => by simp at hi, Nat.zero_le _, List.Pairwise.nil, HM2.out⟩
      · obtain ⟨g, cap', eg, hg, _⟩ := HW.out.form hk0
        cases eg
        have hcap : k ≤ cap := by
          obtain ⟨_, _, e2, hc⟩ := own_shape HW.out
          cases e2
          exact hc
        have S1 : Hid _ := sortrow_any wr w.heap.size k g cap out HO.out (by omega) HW.out
        have HMs : Hid (∀ y, y ∈ Lib.compact (out.mergeSort fun x y => decide (x ≤ y)) ↔ y ∈ l ∧ y ∈ vs) := fun y => by
          rw [(compact_rises (sorted_of out)).2, (List.mergeSort_perm out _).mem_iff, HM2.out]
        have HPs : Hid ((Lib.compact (out.mergeSort fun x y => decide (x ≤ y))).Pairwise (· < ·)) := (compact_rises (sorted_of out)).1
        have HLs : Hid ((out.mergeSort fun x y => decide (x ≤ y)).length = k) := (List.mergeSort_perm out _).length_eq.trans HO.out
        generalize (out.mergeSort fun x y => decide (x ≤ y)) = so at *
        have HLc : Hid ((Lib.compact so).length ≤ k) := by have := compact_le so; have := HLs.out; show _ ≤ _; omega
        clear HM2 HW
        go_wp2_with fail
        refine Calls.mono S1.out ?_
        rintro e w2 ⟨rfl, hb2, hg2, hH⟩
        have S2 : Hid _ := compactrow_any w2 w.heap.size k g cap so HLs.out (by omega) hcap hg hH
        have Hb2 : Hid (Below w.heap.size w w2) := hb.out.trans hb2
        clear hb2 hH S1 hb
        go_wp2_with fail
        refine Calls.mono S2.out ?_
        rintro e w3 ⟨rfl, hb3, hi3⟩
        have Hb3 : Hid (Below w.heap.size w w3) := Hb2.out.trans hb3
        have HI3 : Hid _ := hi3
        clear hb3 hi3 S2
        go_wp2
        go_ret
        exact ⟨Hb3.out, _, _, _, rfl, HI3.out, Nat.le_trans HLc.out (by omega), HPs.out, HMs.out⟩
end Go.Proofs.YtmgpnaehniohgaaDoor.E
