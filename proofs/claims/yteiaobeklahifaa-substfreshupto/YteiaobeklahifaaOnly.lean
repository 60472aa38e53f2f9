/- Only: the binds of some variables. -/
import Derived.Test.YteiaobeklahifaaShelfI
import Derived.Test.YteiaobeklahifaaWide
namespace Go.Proofs.Yteiaobeklahifaa
open Go.RowKit

theorem sorti_world {w : World} {g m : Nat} {d : Array Int} {os : Array Obj} : w.grownBy (Sort.grow (Sort.putRow (Value.int .i64) (Sort.ahead w m) g 0 d) os) (some g) := by
  refine ⟨rfl, rfl, rfl, ?_, fun k hk hne => ?_⟩
  · unfold Sort.putRow Sort.mapBlock Sort.grow Sort.ahead
    simp
  · have hkg : k ≠ g := fun e => hne (by rw [e])
    unfold Sort.putRow Sort.mapBlock Sort.grow Sort.ahead
    simp only [Array.getElem?_append, Array.size_modify, hk, if_true]
    rw [Array.getElem?_modify, if_neg (fun e => hkg e.symm)]
/-- slices.Sort of a row of numbers of one's own. -/
theorem sorti_any (w : World) (base n : Nat) (v : Value) (l : List Int) (hl : l.length = n) (hn : n ≤ 17592186043904) (h : w.ownsRow base 3 1 v n (l.map intV)) :
    Calls Try.prog 42 #[v] w fun e w' => e = .returned (.tuple #[]) ∧ w.grownBy w' v.ownBlock ∧ ∃ (l' : List Int) (a : Option Addr) (c : Nat), v = .slice a n c ∧ l'.Perm l ∧ l'.Pairwise (· ≤ ·) ∧ IntsAt w' a l' := by
  have hperm : (l.mergeSort fun x y => decide (x ≤ y)).Perm l := List.mergeSort_perm _ _
  have hsort : (l.mergeSort fun x y => decide (x ≤ y)).Pairwise (· ≤ ·) := (List.pairwise_mergeSort (le := fun (x y : Int) => decide (x ≤ y)) (fun a b c h1 h2 => by
    have := of_decide_eq_true h1
    have := of_decide_eq_true h2
    exact decide_eq_true (by omega)) (fun a b => by
      by_cases h : a ≤ b
      · simp [h]
      · have : b ≤ a := by omega
        simp [this]) l).imp fun h => of_decide_eq_true h
  rcases h.2 with ⟨rfl, h0⟩ | ⟨g, cap, cur, rfl, hg, hh, hnc, hcm, hsz, htk⟩
  · subst h0
    obtain rfl := List.eq_nil_of_length_eq_zero hl
    refine (Try.slices_Sort_int_none none 0 w).mono fun e w' ⟨he, hw⟩ => ?_
    subst hw
    exact ⟨he, ⟨rfl, rfl, rfl, Nat.le_refl _, fun _ _ _ => rfl⟩, [], none, 0, rfl, List.Perm.refl _, List.Pairwise.nil, fun i x hi => by simp at hi⟩
  · have hblk : g < w.heap.size := own_low h g rfl
    obtain ⟨a0, c0, hv0, _, hrow, _⟩ := own_row h
    simp only [Value.slice.injEq] at hv0
    obtain ⟨rfl, _, rfl⟩ := hv0
    have hfz : ∀ j, w.frozen? ⟨g, j, none⟩ = false := fun j => by simp [World.frozen?, hh]
    have hH : Sort.Holds (Value.int .i64) w g 0 l.toArray := fun j hj => by
      have hj' : j < l.length := by simpa using hj
      obtain ⟨b, off, e, hc⟩ := hrow.ints j l[j] (List.getElem?_eq_getElem hj')
      cases e
      exact ⟨by rw [hc]; congr 2; rw [getElem!_pos l.toArray j hj]; simp, by rw [Nat.zero_add]; exact hfz j⟩
    have hcon := Try.slices_Sort_int g 0 cap l w hH hblk (by omega)
    rw [hl] at hcon
    refine hcon.mono fun e w' ⟨he, m, os, hw⟩ => ?_
    subst hw
    refine ⟨he, sorti_world, _, _, _, rfl, hperm, hsort, ?_⟩
    have hs2 : (l.mergeSort fun x y => decide (x ≤ y)).toArray.size = l.toArray.size := by simp [hperm.length_eq]
    have h1 := Sort.holds_putRow (Value.int .i64) (Sort.ahead w m) g 0 l.toArray _ (by exact hH) hs2
    have h2 := Sort.holds_grow (Value.int .i64) _ os g 0 _ (by simpa [Sort.putRow, Sort.mapBlock, Sort.ahead] using hblk) h1
    intro i x hi
    have hlt : i < (l.mergeSort fun x y => decide (x ≤ y)).length := (List.getElem?_eq_some_iff.1 hi).1
    have h3 := (h2 i (by simpa using hlt)).1
    refine ⟨g, 0, rfl, ?_⟩
    have h4 := (List.getElem?_eq_some_iff.1 hi).2
    rw [h3, getElem!_pos _ i (by simpa using hlt)]
    congr 2
theorem Matches.put {w : World} {vs : List (Int × Value)} {bl : List (Int × List Int)} (h : Matches w vs bl) (p : Int × List Int) (a : Option Addr) (n c : Nat) (hn : p.2.length = n) (hI : IntsAt w a p.2) : Matches w (vs ++ [(p.1, Value.slice a n c)]) (bl ++ [p]) := by
  refine ⟨by simp [h.1], fun i q hi => ?_⟩
  by_cases hlt : i < bl.length
  · rw [List.getElem?_append_left hlt] at hi
    obtain ⟨a', c', h1, h2⟩ := h.2 i q hi
    exact ⟨a', c', by rw [List.getElem?_append_left (by rw [h.1]; exact hlt)]; exact h1, h2⟩
  · rw [List.getElem?_append_right (by omega)] at hi
    have hi0 : i - bl.length = 0 := by
      have := (List.getElem?_eq_some_iff.1 hi).1
      simp at this; omega
    rw [hi0] at hi
    simp at hi
    subst hi
    exact ⟨a, c, by rw [List.getElem?_append_right (by rw [h.1]; omega), h.1, hi0, hn]; rfl, hI⟩
theorem contains_perm {l m : List Int} (h : l.Perm m) (x : Int) : l.contains x = m.contains x := by
  rw [Bool.eq_iff_iff, List.contains_iff_mem, List.contains_iff_mem]
  exact h.mem_iff
/-- slices.BinarySearch in a row of numbers that rises. -/
theorem searchi_any (w : World) (a : Option Addr) (n c : Nat) (l : List Int) (x : Int) (hl : l.length = n) (hn : n ≤ 17592186043904) (hs : l.Pairwise (· ≤ ·)) (h : IntsAt w a l) :
    Calls Try.prog 43 #[.slice a n c, .int .i64 x] w fun e w' => (∃ i : Int, e = .returned (.tuple #[.int .i64 i, .bool (l.contains x)])) ∧ ∃ q, w' = w.drewN q := by
  rcases Nat.eq_zero_or_pos n with h0 | h0
  · subst h0
    obtain rfl := List.eq_nil_of_length_eq_zero hl
    refine (Try.slices_BinarySearch_int_empty a c x w).mono fun e w' ⟨he, hw⟩ => ⟨⟨0, he⟩, 0, ?_⟩
    rw [hw]; rfl
  · obtain ⟨b, off, rfl, _⟩ := h 0 l[0] (List.getElem?_eq_getElem (by omega))
    have hc : ∀ j, j < l.length → w.cell? ⟨b, off + j, none⟩ = some (.int .i64 (l.getD j 0)) := fun j hj => by
      obtain ⟨b', off', e, hc⟩ := h j l[j] (List.getElem?_eq_getElem hj)
      cases e
      rw [hc, List.getD, List.getElem?_eq_getElem hj]; rfl
    have htk : l.take n = l := List.take_of_length_le (by omega)
    have := Try.slices_BinarySearch_int b off n c l x w (by omega) (by omega) hc (by rw [htk]; exact hs)
    rw [htk] at this
    exact this.mono fun e w' ⟨he, hw⟩ => ⟨⟨_, he⟩, hw⟩
/-- The binds whose variables are among some. -/
def onlyOf (bl : List (Int × List Int)) (vl : List Int) : List (Int × List Int) := bl.filter fun p => vl.contains p.1
theorem onlyOf_take {bl : List (Int × List Int)} {vl : List Int} {j : Nat} {p : Int × List Int} (hp : bl[j]? = some p) : onlyOf (bl.take (j + 1)) vl = onlyOf (bl.take j) vl ++ (if vl.contains p.1 then [p] else []) := by
  unfold onlyOf
  rw [List.take_add_one, hp, Option.toList_some, List.filter_append]
  cases h : vl.contains p.1 with
  | true => simp only [List.filter_cons, List.filter_nil, h, if_true]
  | false => simp only [List.filter_cons, List.filter_nil, h, Bool.false_eq_true, if_false]
theorem onlyOf_len (bl : List (Int × List Int)) (vl : List Int) : (onlyOf bl vl).length ≤ bl.length := List.length_filter_le _ _
theorem onlyOf_rises {bl : List (Int × List Int)} (h : Rises bl) (vl : List Int) : Rises (onlyOf bl vl) := h.filter _
def OnlyIs (w w' : World) (e : Ending) (bl : List (Int × List Int)) (vl : List Int) : Prop := Below w.heap.size w w' ∧
  ∃ (a : Option Addr) (c : Nat) (vs : List (Int × Value)), e = .returned (.agg #[.slice a (onlyOf bl vl).length c]) ∧ w'.ownsRow w.heap.size 31 2 (.slice a (onlyOf bl vl).length c) (onlyOf bl vl).length (rowB vs) ∧ Owns w.heap.size w' vs (onlyOf bl vl)

set_option maxRecDepth 100000 in
set_option maxHeartbeats 8000000 in
theorem only_any (w : World) (a : Option Addr) (n c : Nat) (bl : List (Int × List Int)) (ae : Option Addr) (ne ce : Nat) (vl : List Int) (hn : n ≤ 4398046511000) (hbig : ∀ p ∈ bl, p.2.length ≤ 17592186043904) (h : BindsAt w a n bl) (hl : vl.length = ne) (hne : ne ≤ 17592186043904) (hE : IntsAt w ae vl) :
    Calls Try.prog 24 #[.agg #[.slice a n c], .slice ae ne ce] w fun e w' => OnlyIs w w' e bl vl := by
  obtain ⟨i0, hi0, hz0, hz1, hz3⟩ := info_parts infoB
  obtain ⟨i1, hi1, hy0, hy1, hy3⟩ := info_parts infoI
  obtain ⟨wA, hwA⟩ : ∃ wA, wA = (w.alloc (.cells #[.slice a n c] 25)).alloc (.cells #[.slice none 0 0] 25) := ⟨_, rfl⟩
  have hb0 : Below w.heap.size w (w.alloc (.cells #[.slice a n c] 25)) := below_alloc _ _
  have hb1 : Below (w.alloc (.cells #[.slice a n c] 25)).heap.size (w.alloc (.cells #[.slice a n c] 25)) wA := by rw [hwA]; exact below_alloc _ _
  have hbA : Below w.heap.size w wA := hb0.trans (hb1.mono hb0.size)
  have hsA : wA.heap.size = w.heap.size + 2 := by rw [hwA]; simp
  have k0 : wA.cell? ⟨w.heap.size, 0, none⟩ = some (.slice a n c) := (hb1.cell (p := ⟨w.heap.size, 0, none⟩) (by simp)).trans (World.cell?_alloc_new w _ _ 0)
  have k1 : wA.cell? ⟨w.heap.size + 1, 0, none⟩ = some (.slice none 0 0) := by
    rw [hwA, show w.heap.size + 1 = (w.alloc (.cells #[.slice a n c] 25)).heap.size by simp]
    exact World.cell?_alloc_new (w.alloc (.cells #[.slice a n c] 25)) _ _ 0
  have f1 : wA.frozen? ⟨w.heap.size + 1, 0, none⟩ = false := by
    rw [hwA, show w.heap.size + 1 = (w.alloc (.cells #[.slice a n c] 25)).heap.size by simp]
    exact World.frozen?_alloc_new (w.alloc (.cells #[.slice a n c] 25)) _ _ 0
  have H : Hid (BindsAt wA a n bl) := h.under hbA
  have HE : Hid (IntsAt wA ae vl) := hE.under hbA
  have HL : Hid (vl.length = ne) := hl
  have HBG : Hid (∀ p ∈ bl, p.2.length ≤ 17592186043904) := hbig
  have HBA : Hid (Below w.heap.size w wA) := hbA
  have K0 : Hid (wA.cell? ⟨w.heap.size, 0, none⟩ = some (.slice a n c)) := k0
  have K1 : Hid (wA.cell? ⟨w.heap.size + 1, 0, none⟩ = some (.slice none 0 0)) := k1
  have F1 : Hid (wA.frozen? ⟨w.heap.size + 1, 0, none⟩ = false) := f1
  have HB0 : w.heap.size < wA.heap.size := by rw [hsA]; omega
  have HB1 : w.heap.size + 1 < wA.heap.size := by rw [hsA]; omega
  have HBL : Hid (bl.length = n) := h.len
  clear h hE hl hbig hbA hb0 hb1 k0 k1 f1 hsA
  go_enter Try.func24, Try.ntmps24
  go_wp2_with (at_builtin; rw [← hwA]; refine wpList_append_more (w := wA) rfl _ _ _ rfl wA.heap.size 3 i1 _ 1 8 Try.underlying29 hi1 hy0 hy1 hy3 rfl (by omega) _ 0 [] (by rfl) (by exact World.ownsRow_nil _ _ _ _) ae ne ce (vl.map intV) (by rfl) (by rw [List.length_map, HL.out, Nat.mul_one]) (by exact HE.out.row.news) (by simp [intV, Value.oneCell']) (by unfold maxLen; omega) (by omega) (Nat.le_refl _) ?_; intro a1 c1 w1 ho1 hb1; rw [Nat.zero_add, List.nil_append] at ho1; have HO1 : Hid (w1.ownsRow wA.heap.size 3 1 (.slice a1 ne c1) ne (vl.map intV)) := ho1; have HB1' : Hid (Below wA.heap.size wA w1) := hb1; clear ho1 hb1)
  clear hwA
  generalize hB : w.heap.size = B at *
  have HBe : Hid (w.heap.size = B) := hB
  clear hB
  have SO : Hid _ := sorti_any w1 wA.heap.size ne (.slice a1 ne c1) vl HL.out hne HO1.out
  go_wp2_with fail
  refine Calls.mono SO.out ?_
  rintro e w2 ⟨rfl, hg2, sv, a2, c2, e2, hperm, hsort, hints⟩
  cases e2
  have HB2 : Hid (Below wA.heap.size wA w2) := HB1'.out.grown hg2 HB1'.out.size (own_ge HO1.out)
  have HSV : Hid (IntsAt w2 a1 sv) := hints
  have HSP : Hid (sv.Perm vl) := hperm
  have HSS : Hid (sv.Pairwise (· ≤ ·)) := hsort
  have HSL : Hid (sv.length = ne) := by show _ = _; rw [hperm.length_eq]; exact HL.out
  have q0 : w2.cell? ⟨B, 0, none⟩ = some (.slice a n c) := (HB2.out.cell (p := ⟨B, 0, none⟩) HB0).trans K0.out
  clear SO hg2 hints hperm hsort HO1 HB1'
  go_wp2_with fail
  go_loopw [6, 8, 9, 10, 18] (fun v _ _ _ i wx => ∃ (j m : Nat) (av : Option Addr) (cap : Nat), j ≤ n ∧ m ≤ j ∧ i = .int .i64 j ∧ v = .slice av m cap ∧ Hid ((onlyOf (bl.take j) vl).length = m) ∧ Hid (∃ vs, wx.ownsRow w2.heap.size 31 2 (.slice av m cap) m (rowB vs) ∧ Matches wA vs (onlyOf (bl.take j) vl)) ∧ Hid (Below w2.heap.size w2 wx)) (fun _ _ _ _ i _ => n - (intOf i).toNat)
  case atStart => exact ⟨0, 0, none, 0, Nat.zero_le _, Nat.le_refl _, rfl, rfl, rfl, ⟨[], World.ownsRow_nil _ _ _ _, rfl, fun i p h => by simp [onlyOf] at h⟩, Below.refl _ _⟩
  case round =>
    obtain ⟨j, m, av, cap, hj, hmj, rfl, rfl, hml, hv, hb⟩ := hrel
    obtain ⟨vs, hown, hmat⟩ := hv.out
    have HO : Hid (wr.ownsRow w2.heap.size 31 2 (.slice av m cap) m (rowB vs)) := hown
    have HM : Hid (Matches wA vs (onlyOf (bl.take j) vl)) := hmat
    have HbA : Hid (Below wA.heap.size wA wr) := HB2.out.trans (hb.out.mono HB2.out.size)
    clear hv hown hmat
    by_cases hlt : j < n
    · have n1 : (j : Int) < (n : Int) := by omega
      obtain ⟨p, hp⟩ : ∃ p, bl[j]? = some p := ⟨bl[j]'(by rw [HBL.out]; exact hlt), List.getElem?_eq_getElem _⟩
      obtain ⟨b2, o2, a3, c3, rfl, r1, r2, r3⟩ := H.out.at hp
      have htk := onlyOf_take (vl := vl) hp
      have hbw : b2 < wA.heap.size := World.block_lt_of_cell? _ _ r1
      obtain ⟨y, ly⟩ := p
      have d1 : wr.cell? ⟨b2, o2 + j * 2, none⟩ = some (.int .i64 y) := (HbA.out.cell (p := ⟨b2, o2 + j * 2, none⟩) hbw).trans r1
      have d2 : wr.cell? ⟨b2, o2 + j * 2 + 1, none⟩ = some (.slice a3 ly.length c3) := (HbA.out.cell (p := ⟨b2, o2 + j * 2 + 1, none⟩) hbw).trans r2
      have HTk : Hid (onlyOf (bl.take (j + 1)) vl = onlyOf (bl.take j) vl ++ (if vl.contains y then [(y, ly)] else [])) := htk
      have HI : Hid (IntsAt wA a3 ly) := r3
      obtain ⟨q, hq⟩ : ∃ q, ly.length = q := ⟨_, rfl⟩
      rw [hq] at d2
      have Hq : Hid (ly.length = q) := hq
      clear r1 r2 r3 hp htk hq
      have hbx : Below wr.heap.size wr (wr.alloc (.cells #[.int .i64 y, .slice a3 q c3] 31)) := below_alloc _ _
      have Hb2x : Hid (Below w2.heap.size w2 (wr.alloc (.cells #[.int .i64 y, .slice a3 q c3] 31))) := hb.out.trans (hbx.mono hb.out.size)
      have ky : (wr.alloc (.cells #[.int .i64 y, .slice a3 q c3] 31)).cell? ⟨wr.heap.size, 0, none⟩ = some (.int .i64 y) := World.cell?_alloc_new wr _ _ 0
      have ky1 : (wr.alloc (.cells #[.int .i64 y, .slice a3 q c3] 31)).cell? ⟨wr.heap.size, 1, none⟩ = some (.slice a3 q c3) := World.cell?_alloc_new wr _ _ 1
      have HOx : Hid ((wr.alloc (.cells #[.int .i64 y, .slice a3 q c3] 31)).ownsRow w2.heap.size 31 2 (.slice av m cap) m (rowB vs)) := owns_under HO.out hbx
      have SE : Hid _ := searchi_any (wr.alloc (.cells #[.int .i64 y, .slice a3 q c3] 31)) a1 ne c1 sv y HSL.out hne HSS.out (HSV.out.under Hb2x.out)
      rw [contains_perm HSP.out] at SE
      clear hbx HO hb
      by_cases hin : vl.contains y = true
      · rw [hin] at SE
        have HTk2 : Hid (onlyOf (bl.take (j + 1)) vl = onlyOf (bl.take j) vl ++ [(y, ly)]) := by show _ = _; rw [HTk.out, if_pos hin]
        clear HTk hin
        go_wp2_with fail
        generalize wr.alloc (.cells #[.int .i64 y, .slice a3 q c3] 31) = wx at *
        generalize wr.heap.size = By at *
        refine Calls.mono SE.out ?_
        rintro e wz ⟨⟨ix, rfl⟩, dq, hwz⟩
        subst wz
        have hbz : Below wx.heap.size wx (wx.drewN dq) := ⟨rfl, rfl, rfl, Nat.le_refl _, fun _ _ => rfl⟩
        have kz : (wx.drewN dq).cell? ⟨By, 0, none⟩ = some (.int .i64 y) := ky
        have kz1 : (wx.drewN dq).cell? ⟨By, 1, none⟩ = some (.slice a3 q c3) := ky1
        have HOz : Hid ((wx.drewN dq).ownsRow w2.heap.size 31 2 (.slice av m cap) m (rowB vs)) := owns_under HOx.out hbz
        have HBz : Hid (Below w2.heap.size w2 (wx.drewN dq)) := Hb2x.out.trans (hbz.mono Hb2x.out.size)
        clear hbz SE ky ky1 HOx Hb2x
        generalize wx.drewN dq = wy at *
        go_wp2_with (at_builtin; refine wpList_append_more (w := wy.alloc (.cells #[.int .i64 y, .slice a3 q c3] 31)) rfl _ _ _ rfl w2.heap.size 31 i0 _ 2 32 Try.underlying23 hi0 hz0 hz1 hz3 rfl (by omega) _ m (rowB vs) (by rfl) (by exact HOz.out.alloc _) (some ⟨wy.heap.size, 0, none⟩) 1 1 [.int .i64 y, .slice a3 q c3] (by rfl) (by rfl) (fun j' u hu => ⟨_, rfl, World.news_of_block (cs := #[.int .i64 y, .slice a3 q c3]) (t := 31) (fr := (0, 0)) (heap_alloc_new wy _) j' u hu⟩) (by simp [Value.oneCell']) (by unfold maxLen; omega) (by omega) (by exact Nat.le_trans HBz.out.size (below_alloc _ _).size) ?_; intro a4 c4 w4 ho4 hb4; have HO4 : Hid (w4.ownsRow w2.heap.size 31 2 (.slice a4 (m + 1) c4) (m + 1) (rowB (vs ++ [(y, .slice a3 q c3)]))) := (by rw [rowB_snoc]; exact ho4); have HB4 : Hid (Below w2.heap.size w2 w4) := (HBz.out.alloc HBz.out.size _).trans hb4; clear ho4 hb4)
        go_wp2
        exact ⟨⟨j + 1, m + 1, _, _, by omega, by omega, by go_num, rfl, by show _ = _; rw [HTk2.out, List.length_append, hml.out]; rfl, ⟨_, HO4.out, by rw [HTk2.out]; exact HM.out.put (y, ly) a3 q c3 Hq.out HI.out⟩, HB4.out⟩, by simp [intOf]; omega⟩
      · have hin' : vl.contains y = false := by simpa using hin
        rw [hin'] at SE
        have HTk2 : Hid (onlyOf (bl.take (j + 1)) vl = onlyOf (bl.take j) vl) := by show _ = _; rw [HTk.out, if_neg hin, List.append_nil]
        clear HTk hin hin'
        go_wp2_with fail
        generalize wr.alloc (.cells #[.int .i64 y, .slice a3 q c3] 31) = wx at *
        generalize wr.heap.size = By at *
        refine Calls.mono SE.out ?_
        rintro e wz ⟨⟨ix, rfl⟩, dq, hwz⟩
        subst wz
        have hbz : Below wx.heap.size wx (wx.drewN dq) := ⟨rfl, rfl, rfl, Nat.le_refl _, fun _ _ => rfl⟩
        have HOz : Hid ((wx.drewN dq).ownsRow w2.heap.size 31 2 (.slice av m cap) m (rowB vs)) := owns_under HOx.out hbz
        have HBz : Hid (Below w2.heap.size w2 (wx.drewN dq)) := Hb2x.out.trans (hbz.mono Hb2x.out.size)
        clear hbz SE ky ky1 HOx Hb2x
        generalize wx.drewN dq = wy at *
        go_wp2
        exact ⟨⟨j + 1, m, av, cap, by omega, by omega, by go_num, rfl, by show _ = _; rw [HTk2.out]; exact hml.out, ⟨vs, HOz.out, by rw [HTk2.out]; exact HM.out⟩, HBz.out⟩, by simp [intOf]; omega⟩
    · have n1 : ¬ (j : Int) < (n : Int) := by omega
      have htk : bl.take j = bl := List.take_of_length_le (by rw [HBL.out]; omega)
      rw [htk] at hml HM
      obtain ⟨av', cap', e3, _, hrow3, _⟩ := own_row HO.out
      cases e3
      have CO : Hid _ := copies_any wr av cap vs (onlyOf bl vl) m hml.out (by omega) (fun p hp => HBG.out p (List.mem_filter.1 hp).1) hrow3 (HM.out.under HbA.out)
      have c0 : wr.cell? ⟨B + 1, 0, none⟩ = some (.slice none 0 0) := (HbA.out.cell (p := ⟨B + 1, 0, none⟩) HB1).trans K1.out
      have f0 : wr.frozen? ⟨B + 1, 0, none⟩ = false := (HbA.out.frozen (p := ⟨B + 1, 0, none⟩) HB1).trans F1.out
      have hBr : B + 1 < wr.heap.size := World.block_lt_of_cell? _ _ c0
      clear htk hrow3
      go_wp2_with fail
      refine Calls.mono CO.out ?_
      rintro e w5 ⟨v5, rfl, vs5, ho5, hO5, hb5⟩
      rw [hml.out] at ho5
      obtain ⟨a5, c5, rfl, _, _, _⟩ := own_row ho5
      have kc5 : w5.cell? ⟨B + 1, 0, none⟩ = some (.slice none 0 0) := (hb5.cell (p := ⟨B + 1, 0, none⟩) hBr).trans c0
      have kz5 : w5.frozen? ⟨B + 1, 0, none⟩ = false := (hb5.frozen (p := ⟨B + 1, 0, none⟩) hBr).trans f0
      have kw : (w5.setCell ⟨B + 1, 0, none⟩ (.slice a5 m c5)).cell? ⟨B + 1, 0, none⟩ = some (.slice a5 m c5) := World.cell?_setCell_same _ _ _ (u := .slice none 0 0) kc5
      have hbw : Below w.heap.size w wr := by
        have h1 := HBA.out
        have h2 := h1.size
        rw [HBe.out] at h2 ⊢
        exact h1.trans (HbA.out.mono h2)
      have Hend : Hid (Below w.heap.size w (w5.setCell ⟨B + 1, 0, none⟩ (.slice a5 m c5))) := (hbw.trans (hb5.mono hbw.size)).setCell (p := ⟨B + 1, 0, none⟩) (by rw [HBe.out]; exact Nat.le_add_right _ _) _
      have H5 : Hid ((w5.setCell ⟨B + 1, 0, none⟩ (.slice a5 m c5)).ownsRow w.heap.size 31 2 (.slice a5 m c5) m (rowB vs5)) := owns_down (ownsRow_setCell_below ho5 (a := ⟨B + 1, 0, none⟩) hBr _) hbw.size
      have O5 : Hid (Owns w.heap.size (w5.setCell ⟨B + 1, 0, none⟩ (.slice a5 m c5)) vs5 (onlyOf bl vl)) := ⟨hO5.1, fun i p hi => by
        obtain ⟨v, h1, h2⟩ := hO5.2 i p hi
        exact ⟨v, h1, owns_down (ownsRow_setCell_below h2 (a := ⟨B + 1, 0, none⟩) hBr _) hbw.size⟩⟩
      clear ho5 hO5 hb5 CO hbw
      go_wp2
      (try simp only [Exit.inBlock, Exit.then])
      refine bodyPost_ret (by simp [results, Try.results24, go_sem, kw]; try rfl) rfl ?_
      refine ⟨Hend.out, a5, c5, vs5, by rw [hml.out], ?_, O5.out⟩
      rw [hml.out]
      exact H5.out
end Go.Proofs.Yteiaobeklahifaa
