/- pick once more: what it answers is a row of its own. -/
import Derived.Test.YtmgpnaehniohgaaDoorEPick
namespace Go.Proofs.YtmgpnaehniohgaaDoor.E
open Go.RowKit Go.Deep

/-- A block of numbers that is one's own. -/
def Blk (base : Nat) (w : World) (g cap : Nat) : Prop := base ≤ g ∧ cap ≤ maxLen ∧ ∃ cur : Array Value, w.heap[g]? = some (.cells cur 3 (0, 0)) ∧ cur.size = cap
theorem Blk.of {base n g cap : Nat} {w : World} {xs : List Value} (h : w.ownsRow base 3 1 (.slice (some ⟨g, 0, none⟩) n cap) n xs) : Blk base w g cap := by
  rcases h.2 with ⟨e, _⟩ | ⟨g', cap', cur, e, hg, hh, _, hc, hs, _⟩
  · cases e
  · cases e
    exact ⟨hg, hc, cur, hh, by omega⟩
theorem Blk.put {base g cap m : Nat} {w : World} {d : Array Int} (h : Blk base w g cap) : Blk base (Sort.putRow (Value.int .i64) (Sort.ahead w m) g 0 d) g cap := by
  obtain ⟨h1, h2, cur, hh, hs⟩ := h
  refine ⟨h1, h2, Sort.putCells (Value.int .i64) 0 d cur, ?_, by simp [Sort.putCells, hs]⟩
  have : g < w.heap.size := (Array.getElem?_eq_some_iff.1 hh).1
  unfold Sort.putRow Sort.mapBlock Sort.ahead
  rw [Array.getElem?_modify, if_pos rfl, hh]
  rfl
theorem Blk.grow {base g cap : Nat} {w : World} (h : Blk base w g cap) (os : Array Obj) : Blk base (Sort.grow w os) g cap := by
  obtain ⟨h1, h2, cur, hh, hs⟩ := h
  refine ⟨h1, h2, cur, ?_, hs⟩
  have : g < w.heap.size := (Array.getElem?_eq_some_iff.1 hh).1
  unfold Sort.grow
  rw [Array.getElem?_append_left this, hh]
theorem Blk.owns {base g cap n : Nat} {w : World} {l : List Int} (h : Blk base w g cap) (hI : IntsAt w (some ⟨g, 0, none⟩) l) (hl : l.length = n) (hn : n ≤ cap) : w.ownsRow base 3 1 (.slice (some ⟨g, 0, none⟩) n cap) n (l.map intV) := by
  obtain ⟨h1, h2, cur, hh, hs⟩ := h
  refine ⟨by simp [hl], .inr ⟨g, cap, cur, rfl, h1, hh, hn, h2, by omega, ?_⟩⟩
  apply List.ext_getElem?
  intro i
  rw [List.getElem?_take, List.getElem?_map]
  by_cases hi : i < n
  · rw [if_pos (by omega)]
    have hil : i < l.length := by omega
    obtain ⟨b, o, e, hc⟩ := hI i l[i] (List.getElem?_eq_getElem hil)
    cases e
    rw [Nat.zero_add] at hc
    rw [List.getElem?_eq_getElem hil]
    simp only [World.cell?, hh] at hc
    simpa [intV] using hc
  · rw [if_neg (by omega), List.getElem?_eq_none (by omega)]
    rfl
theorem sortrowO_any (w : World) (base n g cap : Nat) (l : List Int) (hl : l.length = n) (hn : n ≤ 17592186043904) (h : w.ownsRow base 3 1 (.slice (some ⟨g, 0, none⟩) n cap) n (l.map intV)) :
    Calls Tryd.prog 53 #[.slice (some ⟨g, 0, none⟩) n cap] w fun e w' => e = .returned (.tuple #[]) ∧ Below base w w' ∧ g < w'.heap.size ∧ Sort.Holds (Value.int .i64) w' g 0 (l.mergeSort fun x y => decide (x ≤ y)).toArray ∧ Blk base w' g cap := by
  have hperm : (l.mergeSort fun x y => decide (x ≤ y)).Perm l := List.mergeSort_perm _ _
  have hblk : g < w.heap.size := own_low h g rfl
  have hbg : base ≤ g := own_ge h g rfl
  have hK := Blk.of h
  rcases h.2 with ⟨e0, h0⟩ | ⟨g', cap', cur, ev, hg, hh, hnc, hcm, hsz, htk⟩
  · cases e0
  cases ev
  obtain ⟨a0, c0, hv0, hrow⟩ := own_row h
  cases hv0
  have hfz : ∀ j, w.frozen? ⟨g, j, none⟩ = false := fun j => by simp [World.frozen?, hh]
  have hH : Sort.Holds (Value.int .i64) w g 0 l.toArray := fun j hj => by
    have hj' : j < l.length := by simpa using hj
    obtain ⟨b, off, e, hc⟩ := hrow.ints j l[j] (List.getElem?_eq_getElem hj')
    cases e
    exact ⟨by rw [hc]; congr 2; rw [getElem!_pos l.toArray j hj]; simp, by rw [Nat.zero_add]; exact hfz j⟩
  have hcon := Tryd.slices_Sort_int g 0 cap l w hH hblk (by omega)
  rw [hl] at hcon
  refine hcon.mono fun e w' ⟨he, m, os, hw⟩ => ?_
  subst hw
  have hs2 : (l.mergeSort fun x y => decide (x ≤ y)).toArray.size = l.toArray.size := by simp [hperm.length_eq]
  have h1 := Sort.holds_putRow (Value.int .i64) (Sort.ahead w m) g 0 l.toArray _ (by exact hH) hs2
  have h2 := Sort.holds_grow (Value.int .i64) _ os g 0 _ (by simpa [Sort.putRow, Sort.mapBlock, Sort.ahead] using hblk) h1
  have hb : Below base w _ := grow_below (m := m) (d := (l.mergeSort fun x y => decide (x ≤ y)).toArray) (os := os) hbg hblk
  exact ⟨he, hb, Nat.lt_of_lt_of_le hblk hb.size, h2, hK.put.grow os⟩
theorem compactrowO_any (w : World) (base n g cap : Nat) (zs : List Int) (hl : zs.length = n) (hn : n ≤ 17592186043904) (hcap : n ≤ cap) (hbg : base ≤ g) (hH : Sort.Holds (Value.int .i64) w g 0 zs.toArray) (hK : Blk base w g cap) :
    Calls Tryd.prog 54 #[.slice (some ⟨g, 0, none⟩) n cap] w fun e w' => e = .returned (.slice (some ⟨g, 0, none⟩) (Lib.compact zs).length cap) ∧ Below base w w' ∧ w'.ownsRow base 3 1 (.slice (some ⟨g, 0, none⟩) (Lib.compact zs).length cap) (Lib.compact zs).length ((Lib.compact zs).map intV) := by
  have hcon := Tryd.slices_Compact_int g 0 cap zs w hH (by omega) (by omega)
  rw [hl] at hcon
  refine hcon.mono fun e w' ⟨he, q, hw⟩ => ?_
  subst hw
  have hle : (Lib.compact zs).length ≤ zs.length := compact_le zs
  refine ⟨he, put_below hbg, hK.put.owns (fun i x hi => ⟨g, 0, rfl, ?_⟩) rfl (by omega)⟩
  have hilt : i < (Lib.compact zs).length := (List.getElem?_eq_some_iff.1 hi).1
  have h1 := Sort.holds_putRow (Value.int .i64) (Sort.ahead w q) g 0 zs.toArray (Lib.compact zs ++ List.replicate (n - (Lib.compact zs).length) 0).toArray (by exact hH) (by simp; omega)
  have h2 := (h1 i (by simp; omega)).1
  rw [h2, getElem!_pos _ i (by simp; omega)]
  congr 2
  have h3 := (List.getElem?_eq_some_iff.1 hi).2
  simp [List.getElem_append_left hilt, h3]

set_option maxRecDepth 100000 in
set_option maxHeartbeats 8000000 in
theorem pickO_any (w : World) (a : Option Addr) (ca : Nat) (l vs : List Int) (n Bv nv cv : Nat) (av : Option Addr) (hl : l.length = n) (hn : n ≤ 17592186043900) (hA : IntsAt w a l) (hc : w.cell? ⟨Bv, 0, none⟩ = some (.slice av nv cv)) (hv : vs.length = nv) (hnv : nv ≤ 17592186043900) (hV : IntsAt w av vs) :
    Calls Tryd.prog 34 #[.slice a n ca, .func (Fn.func 6) #[] #[.pointer (some ⟨Bv, 0, none⟩)]] w fun e w' => Below w.heap.size w w' ∧ ∃ (ao : Option Addr) (cap : Nat) (out : List Int), e = .returned (.slice ao out.length cap) ∧ w'.ownsRow w.heap.size 3 1 (.slice ao out.length cap) out.length (out.map intV) ∧ out.length ≤ n ∧ out.Pairwise (· < ·) ∧ ∀ x, x ∈ out ↔ x ∈ l ∧ x ∈ vs := by
  obtain ⟨i0, hi0, hz0, hz1, hz3⟩ := info_parts infoI
  have HA : Hid (IntsAt w a l) := hA
  have HV : Hid (IntsAt w av vs) := hV
  have HC : Hid (w.cell? ⟨Bv, 0, none⟩ = some (.slice av nv cv)) := hc
  have HL : Hid (l.length = n) := hl
  have HVl : Hid (vs.length = nv) := hv
  clear hA hV hc hl hv
  go_enter Tryd.func34, Tryd.ntmps34
  go_wp2_with fail
  go_loopw [5, 7, 10] (fun v _ i wx => ∃ (j k : Nat) (ao : Option Addr) (cap : Nat) (out : List Int), j ≤ n ∧ k ≤ j ∧ i = .int .i64 j ∧ v = .slice ao k cap ∧ Hid (out.length = k) ∧ Hid (wx.ownsRow w.heap.size 3 1 (.slice ao k cap) k (out.map intV)) ∧ Hid (∀ x, x ∈ out ↔ x ∈ l.take j ∧ x ∈ vs) ∧ Hid (Below w.heap.size w wx)) (fun _ _ i _ => n - (intOf i).toNat)
  case atStart => exact ⟨0, 0, none, 0, [], Nat.zero_le _, Nat.le_refl _, rfl, rfl, rfl, World.ownsRow_nil _ _ _ _, fun x => by simp, Below.refl _ _⟩
  case round =>
    obtain ⟨j, k, ao, cap, out, hj, hk, rfl, rfl, HO, HW, HM, hb⟩ := hrel
    by_cases hlt : j < n
    · have n1 : (j : Int) < (n : Int) := by omega
      obtain ⟨x, hx⟩ : ∃ x, l[j]? = some x := ⟨l[j]'(by rw [HL.out]; exact hlt), List.getElem?_eq_getElem _⟩
      obtain ⟨b1, o1, rfl, c1⟩ := (HA.out.under hb.out) j x hx
      have hcv : wr.cell? ⟨Bv, 0, none⟩ = some (.slice av nv cv) := (hb.out.cell (p := ⟨Bv, 0, none⟩) (World.block_lt_of_cell? _ _ HC.out)).trans HC.out
      have Htk : Hid (l.take (j + 1) = l.take j ++ [x]) := by show _ = _; rw [List.take_add_one, hx]; rfl
      clear hx
      have WH : Hid _ := which_any wr vs x Bv nv cv av hcv HVl.out hnv (HV.out.under hb.out)
      have hs0 : w.heap.size ≤ wr.heap.size := hb.out.size
      clear hcv
      go_wp2_with fail
      refine Calls.mono WH.out ?_
      rintro e w' ⟨rfl, hw⟩
      subst w'
      by_cases hin : x ∈ vs
      · have h1 : decide (x ∈ vs) = true := decide_eq_true hin
        have HM2 : Hid (∀ y, y ∈ out ++ [x] ↔ y ∈ l.take (j + 1) ∧ y ∈ vs) := fun y => by
          rw [Htk.out, List.mem_append, List.mem_append, HM.out, List.mem_singleton]
          constructor
          · rintro (h | h)
            · exact ⟨.inl h.1, h.2⟩
            · subst h; exact ⟨.inr rfl, hin⟩
          · rintro ⟨h | h, h2⟩
            · exact .inl ⟨h, h2⟩
            · exact .inr h
        clear WH hin
        go_wp2_with (at_builtin; refine wpList_append_more (w := wr.alloc (.cells #[.int .i64 x] 3)) rfl _ _ _ rfl w.heap.size 3 i0 _ 1 8 Tryd.underlying23 hi0 hz0 hz1 hz3 rfl (by omega) _ k (out.map intV) (by rfl) (by exact HW.out.alloc _) (some ⟨wr.heap.size, 0, none⟩) 1 1 [.int .i64 x] (by rfl) (by rfl) (by exact (row_new wr [.int .i64 x] 3 _ rfl).news) (by simp [Value.oneCell']) (by unfold maxLen; omega) (by omega) (by simp; omega) ?_; intro a2 c2 w2 ho hb2; have HO3 : Hid (w2.ownsRow w.heap.size 3 1 (.slice a2 (k + 1) c2) (k + 1) (out.map intV ++ [.int .i64 x])) := ho; have HB3 : Hid (Below w.heap.size w w2) := hb.out.trans (((Below.refl _ _).alloc hs0 _).trans hb2); clear ho hb2)
        go_wp2
        refine ⟨⟨j + 1, k + 1, _, _, out ++ [x], by omega, by omega, by go_num, rfl, ?_, ?_, HM2.out, HB3.out⟩, by simp [intOf]; omega⟩
        · show _ = _
          simp [HO.out]
        · show World.ownsRow _ _ _ _ _ _ _
          rw [List.map_append]
          exact HO3.out
      · have h1 : decide (x ∈ vs) = false := decide_eq_false hin
        have HM2 : Hid (∀ y, y ∈ out ↔ y ∈ l.take (j + 1) ∧ y ∈ vs) := fun y => by
          rw [Htk.out, List.mem_append, HM.out, List.mem_singleton]
          constructor
          · intro h
            exact ⟨.inl h.1, h.2⟩
          · rintro ⟨h | h, h2⟩
            · exact ⟨h, h2⟩
            · subst h; exact absurd h2 hin
        clear WH hin
        go_wp2
        exact ⟨⟨j + 1, k, _, _, out, by omega, by omega, by go_num, rfl, HO.out, HW.out, HM2.out, hb.out⟩, by simp [intOf]; omega⟩
    · have n1 : ¬ (j : Int) < (n : Int) := by omega
      have HM2 : Hid (∀ y, y ∈ out ↔ y ∈ l ∧ y ∈ vs) := fun y => by
        rw [HM.out, List.take_of_length_le (by rw [HL.out]; omega)]
      clear HM
      rcases Nat.eq_zero_or_pos k with rfl | hk0
      · have hout : out = [] := List.eq_nil_of_length_eq_zero HO.out
        subst hout
        have S1 : Hid _ := Tryd.slices_Sort_int_none ao cap wr
        have S2 : Hid _ := Tryd.slices_Compact_int_empty ao cap wr
        go_wp2_with fail
        refine Calls.mono S1.out ?_
        rintro e w' ⟨rfl, hw⟩
        subst w'
        go_wp2_with fail
        refine Calls.mono S2.out ?_
        rintro e w' ⟨rfl, hw⟩
        subst w'
        go_wp2
        go_ret
        exact ⟨hb.out, _, _, [], rfl, HW.out, Nat.zero_le _, List.Pairwise.nil, HM2.out⟩
      · obtain ⟨g, cap', eg, hg, _⟩ := HW.out.form hk0
        cases eg
        have hcap : k ≤ cap := by
          obtain ⟨_, _, e2, hc⟩ := own_shape HW.out
          cases e2
          exact hc
        have S1 : Hid _ := sortrowO_any wr w.heap.size k g cap out HO.out (by omega) HW.out
        have HMs : Hid (∀ y, y ∈ Lib.compact (out.mergeSort fun x y => decide (x ≤ y)) ↔ y ∈ l ∧ y ∈ vs) := fun y => by
          rw [(compact_rises (sorted_of out)).2, (List.mergeSort_perm out _).mem_iff, HM2.out]
        have HPs : Hid ((Lib.compact (out.mergeSort fun x y => decide (x ≤ y))).Pairwise (· < ·)) := (compact_rises (sorted_of out)).1
        have HLs : Hid ((out.mergeSort fun x y => decide (x ≤ y)).length = k) := (List.mergeSort_perm out _).length_eq.trans HO.out
        generalize (out.mergeSort fun x y => decide (x ≤ y)) = so at *
        have HLc : Hid ((Lib.compact so).length ≤ k) := by have := compact_le so; have := HLs.out; show _ ≤ _; omega
        clear HM2 HW
        go_wp2_with fail
        refine Calls.mono S1.out ?_
        rintro e w2 ⟨rfl, hb2, hg2, hH, hK2⟩
        have S2 : Hid _ := compactrowO_any w2 w.heap.size k g cap so HLs.out (by omega) hcap hg hH hK2
        have Hb2 : Hid (Below w.heap.size w w2) := hb.out.trans hb2
        clear hb2 hH S1 hb hK2
        go_wp2_with fail
        refine Calls.mono S2.out ?_
        rintro e w3 ⟨rfl, hb3, hi3⟩
        have Hb3 : Hid (Below w.heap.size w w3) := Hb2.out.trans hb3
        have HI3 : Hid _ := hi3
        clear hb3 hi3 S2
        go_wp2
        go_ret
        exact ⟨Hb3.out, _, _, _, rfl, HI3.out, Nat.le_trans HLc.out (by omega), HPs.out, HMs.out⟩

set_option maxHeartbeats 2000000 in
theorem varsO_any (w : World) (a : Option Addr) (ca : Nat) (l vs : List Int) (n Bv nv cv : Nat) (av : Option Addr) (hl : l.length = n) (hn : n ≤ 17592186043900) (hA : IntsAt w a l) (hc : w.cell? ⟨Bv, 0, none⟩ = some (.slice av nv cv)) (hv : vs.length = nv) (hnv : nv ≤ 17592186043900) (hV : IntsAt w av vs) :
    Calls Tryd.prog 14 #[.slice a n ca, .func (Fn.func 6) #[] #[.pointer (some ⟨Bv, 0, none⟩)]] w fun e w' => Below w.heap.size w w' ∧ ∃ v q xs, e = .returned v ∧ w'.ownsRow w.heap.size 3 1 v q xs ∧ q ≤ n := by
  have PK : Hid _ := pickO_any w a ca l vs n Bv nv cv av hl hn hA hc hv hnv hV
  clear hA hc hV hl hv
  go_enter Tryd.func14, Tryd.ntmps14
  go_wp2_with fail
  refine Calls.mono PK.out ?_
  rintro e w' ⟨hb, ao, cap, out, rfl, h1, h2, h3, h4⟩
  have H : Hid (Below w.heap.size w w' ∧ w'.ownsRow w.heap.size 3 1 (.slice ao out.length cap) out.length (out.map intV) ∧ out.length ≤ n) := ⟨hb, h1, h2⟩
  clear hb h1 h2 h3 h4 PK
  obtain ⟨q, hq⟩ : ∃ q, out.length = q := ⟨_, rfl⟩
  rw [hq] at H ⊢
  clear hq
  go_wp2
  go_ret
  exact ⟨H.out.1, _, _, _, rfl, H.out.2.1, H.out.2.2⟩
end Go.Proofs.YtmgpnaehniohgaaDoor.E
