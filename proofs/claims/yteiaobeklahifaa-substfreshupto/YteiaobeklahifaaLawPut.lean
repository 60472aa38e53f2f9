/- What the laws' own put answers: an expression, symbol by symbol. -/
import Derived.Test.YteiaobeklahifaaSize
namespace Go.Proofs.Yteiaobeklahifaa
open Go.RowKit

theorem look_take {bl : List (Int × List Int)} (hnd : (bl.map (·.1)).Nodup) {k : Nat} {p : Int × List Int} (hp : bl[k]? = some p) (y : Int) : look (bl.take (k + 1)) y = if p.1 = y then some p.2 else look (bl.take k) y := by
  unfold look
  rw [List.take_add_one, hp, Option.toList_some, List.find?_append]
  by_cases h : p.1 = y
  · rw [if_pos h]
    have hn : (bl.take k).find? (fun q => q.1 == y) = none := by
      rw [List.find?_eq_none]
      intro q hq
      obtain ⟨j, hj⟩ := List.getElem?_of_mem hq
      rw [List.getElem?_take] at hj
      split at hj
      · rename_i hlt
        obtain ⟨g1, e1⟩ := List.getElem?_eq_some_iff.1 hj
        obtain ⟨g2, e2⟩ := List.getElem?_eq_some_iff.1 hp
        have := List.pairwise_iff_getElem.1 hnd j k (by simpa using g1) (by simpa using g2) hlt
        simp only [List.getElem_map, e1, e2] at this
        simp
        intro e
        exact this (e.trans h.symm)
      · cases hj
    rw [hn]
    simp [h]
  · rw [if_neg h]
    have : [p].find? (fun q => q.1 == y) = none := by simp [h]
    rw [this, Option.or_none]
/-- What it answers. -/
def PutIs (w w' : World) (e : Ending) (bl : List (Int × List Int)) (l : List Int) : Prop := Below w.heap.size w w' ∧
  (((subs bl l).length ≤ 200 ∧ ∃ v, e = .returned (.tuple #[v, .bool true]) ∧ w'.ownsRow w.heap.size 3 1 v (subs bl l).length ((subs bl l).map intV)) ∨ (200 < (subs bl l).length ∧ e = .returned (.tuple #[.slice none 0 0, .bool false])))

set_option maxRecDepth 100000 in
set_option maxHeartbeats 8000000 in
theorem lawput_any (w : World) (a : Option Addr) (n c : Nat) (vs : List (Int × Value)) (bl : List (Int × List Int)) (ae : Option Addr) (ne ce : Nat) (l : List Int) (hn : n ≤ 4398046511000) (hbl : bl.length = n) (hnd : (bl.map (·.1)).Nodup) (hbig : ∀ p ∈ bl, p.2.length ≤ 17592186043904) (hR : RowAt w a (rowB vs)) (hM : Matches w vs bl) (hl : l.length = ne) (hne : ne ≤ 17592186043904) (hE : IntsAt w ae l) :
    Calls Try.prog 15 #[.slice a n c, .slice ae ne ce] w fun e w' => PutIs w w' e bl l := by
  obtain ⟨i0, hi0, hz0, hz1, hz3⟩ := info_parts infoI
  have HR : Hid (RowAt w a (rowB vs)) := hR
  have HM : Hid (Matches w vs bl) := hM
  have HE : Hid (IntsAt w ae l) := hE
  have HL : Hid (l.length = ne) := hl
  have HBL : Hid (bl.length = n) := hbl
  have HND : Hid ((bl.map (·.1)).Nodup) := hnd
  have HBG : Hid (∀ p ∈ bl, p.2.length ≤ 17592186043904) := hbig
  clear hR hM hE hl hbl hnd hbig
  go_enter Try.func15, Try.ntmps15
  go_wp2_with fail
  go_loopw [6, 7, 8, 9] (fun v i _ _ wx => ∃ (j s : Nat) (av : Option Addr) (cap : Nat), j ≤ ne ∧ s ≤ 200 ∧ i = .int .i64 j ∧ v = .slice av s cap ∧ Hid ((subs bl (l.take j)).length = s) ∧ Hid (wx.ownsRow w.heap.size 3 1 (.slice av s cap) s ((subs bl (l.take j)).map intV)) ∧ Hid (Below w.heap.size w wx)) (fun _ i _ _ _ => ne - (intOf i).toNat)
  case atStart => exact ⟨0, 0, none, 0, Nat.zero_le _, by omega, rfl, rfl, rfl, World.ownsRow_nil _ _ _ _, Below.refl _ _⟩
  case round =>
    obtain ⟨j, s, av, cap, hj, hs, rfl, rfl, hsz, hown, hb⟩ := hrel
    obtain ⟨W0, hW0⟩ : ∃ W0, W0 = wr := ⟨_, rfl⟩
    subst hW0
    by_cases hlt : j < ne
    · have n1 : (j : Int) < (ne : Int) := by omega
      obtain ⟨x, hx⟩ : ∃ x, l[j]? = some x := ⟨l[j]'(by rw [HL.out]; exact hlt), List.getElem?_eq_getElem _⟩
      obtain ⟨b1, o1, rfl, hc1⟩ := HE.out j x hx
      have c1 : W0.cell? ⟨b1, o1 + j, none⟩ = some (.int .i64 x) := (hb.out.cell (p := ⟨b1, o1 + j, none⟩) (World.block_lt_of_cell? _ _ hc1)).trans hc1
      have Htk : Hid (subs bl (l.take (j + 1)) = subs bl (l.take j) ++ sub bl x) := subs_take hx
      have HI0 : Hid (IntsAt (W0.alloc (.cells #[.int .i64 x] 3)) (some ⟨W0.heap.size, 0, none⟩) [x]) := fun t y ht => by
        have ht0 : t = 0 := by have := (List.getElem?_eq_some_iff.1 ht).1; simp at this; omega
        subst ht0
        simp at ht
        subst ht
        exact ⟨_, 0, rfl, World.cell?_alloc_new W0 _ _ 0⟩
      have HbA : Hid (Below W0.heap.size W0 (W0.alloc (.cells #[.int .i64 x] 3))) := below_alloc _ _
      have hs0 : w.heap.size ≤ W0.heap.size := hb.out.size
      clear hx hc1
      go_wp2_with fail
      go_loopw [8, 9] (fun xv k wx => ∃ (q p : Nat) (ax : Option Addr) (cx : Nat), q ≤ n ∧ k = .int .i64 q ∧ xv = .slice ax p cx ∧ p ≤ 17592186043904 ∧ Hid (((look (bl.take q) x).getD [x]).length = p) ∧ Hid (IntsAt wx ax ((look (bl.take q) x).getD [x])) ∧ Hid (Below W0.heap.size W0 wx)) (fun _ k _ => n - (intOf k).toNat)
      case atStart => exact ⟨0, 1, _, _, Nat.zero_le _, rfl, rfl, by omega, rfl, HI0.out, HbA.out⟩
      case round =>
        clear HI0 HbA
        obtain ⟨q, p, ax, cx, hq, rfl, rfl, hpb, hpl, hI, hb2⟩ := hrel
        have c2 : wr.cell? ⟨b1, o1 + j, none⟩ = some (.int .i64 x) := (hb2.out.cell (p := ⟨b1, o1 + j, none⟩) (World.block_lt_of_cell? _ _ c1)).trans c1
        have hbw : Below w.heap.size w wr := hb.out.trans (hb2.out.mono hs0)
        by_cases hqn : q < n
        · have n2 : (q : Int) < (n : Int) := by omega
          obtain ⟨d, hd⟩ : ∃ d, bl[q]? = some d := ⟨bl[q]'(by rw [HBL.out]; exact hqn), List.getElem?_eq_getElem _⟩
          obtain ⟨a1, c1', hv1, hi1⟩ := HM.out.2 q d hd
          obtain ⟨r1, r2⟩ := rowB_at vs q _ hv1
          have hR2 := HR.out.under hbw
          obtain ⟨b2, o2, rfl, k1⟩ := hR2 _ _ r1
          obtain ⟨_, _, e2, k2⟩ := hR2 _ _ r2
          cases e2
          have hlk := look_take HND.out hd x
          have hdb := HBG.out d (List.mem_of_getElem? hd)
          have hi1' := hi1.under hbw
          obtain ⟨y, ly⟩ := d
          have k1' : wr.cell? ⟨b2, o2 + q * 2, none⟩ = some (.int .i64 y) := k1
          have k2' : wr.cell? ⟨b2, o2 + q * 2 + 1, none⟩ = some (.slice a1 ly.length c1') := by rw [Nat.add_assoc]; exact k2
          clear r1 r2 hR2 k1 k2 hv1 hi1 hd hbw
          by_cases hxy : y = x
          · subst hxy
            have Hlk : Hid (look (bl.take (q + 1)) y = some ly) := by show _ = _; rw [hlk]; simp
            have HI1 : Hid (IntsAt wr a1 ly) := hi1'
            have hly : ly.length ≤ 17592186043904 := hdb
            generalize hyl : ly.length = yl at *
            have Hyl : Hid (ly.length = yl) := hyl
            clear hlk hi1' hdb hyl
            go_wp2_with fail
            go_quiet (fail)
            go_wp2
            refine ⟨⟨q + 1, yl, a1, c1', by omega, by go_num, rfl, hly, ?_, ?_, hb2.out.trans ⟨rfl, rfl, rfl, Nat.le_refl _, fun _ _ => rfl⟩⟩, by simp [intOf]; omega⟩
            · show _ = _
              rw [Hlk.out]; exact Hyl.out
            · show IntsAt _ _ _
              rw [Hlk.out]; exact HI1.out
          · have hxy' : (y == x) = false := by simpa using hxy
            have Hlk : Hid (look (bl.take (q + 1)) x = look (bl.take q) x) := by show _ = _; rw [hlk, if_neg hxy]
            clear hlk hi1' hdb hxy
            go_wp2_with fail
            go_quiet (fail)
            go_wp2
            refine ⟨⟨q + 1, p, ax, cx, by omega, by go_num, rfl, hpb, ?_, ?_, hb2.out.trans ⟨rfl, rfl, rfl, Nat.le_refl _, fun _ _ => rfl⟩⟩, by simp [intOf]; omega⟩
            · show _ = _
              rw [Hlk.out]; exact hpl.out
            · show IntsAt _ _ _
              rw [Hlk.out]; exact hI.out
        · have n2 : ¬ (q : Int) < (n : Int) := by omega
          have hsub : (look (bl.take q) x).getD [x] = sub bl x := by
            unfold sub
            rw [List.take_of_length_le (by rw [HBL.out]; omega)]
          have HPl : Hid ((sub bl x).length = p) := by rw [← hsub]; exact hpl.out
          have HIx : Hid (IntsAt wr ax (sub bl x)) := by rw [← hsub]; exact hI.out
          have HO2 : Hid (wr.ownsRow w.heap.size 3 1 (.slice av s cap) s ((subs bl (l.take j)).map intV)) := owns_under hown.out hb2.out
          have HBw : Hid (Below w.heap.size w wr) := hbw
          clear hsub hpl hI hbw
          by_cases hfit : s + p ≤ 200
          · have f1 : ¬ (200 : Int) < (s : Int) + (p : Int) := by omega
            go_wp2_with (at_builtin; refine wpList_append_more (w := wr) rfl _ _ _ rfl w.heap.size 3 i0 _ 1 8 Try.underlying29 hi0 hz0 hz1 hz3 rfl (by omega) _ s ((subs bl (l.take j)).map intV) (by rfl) (by exact HO2.out) ax p cx ((sub bl x).map intV) (by rfl) (by rw [List.length_map, HPl.out, Nat.mul_one]) (by exact HIx.out.row.news) (by simp [intV, Value.oneCell']) (by unfold maxLen; omega) (by omega) (by exact HBw.out.size) ?_; intro a3 c3 w3 ho3 hb3; have HO3 : Hid (w3.ownsRow w.heap.size 3 1 (.slice a3 (s + p) c3) (s + p) ((subs bl (l.take j)).map intV ++ (sub bl x).map intV)) := ho3; have HB3 : Hid (Below w.heap.size w w3) := HBw.out.trans hb3; clear ho3 hb3)
            go_wp2
            refine ⟨⟨j + 1, s + p, _, _, by omega, hfit, by go_num, rfl, ?_, ?_, HB3.out⟩, by simp [intOf]; omega⟩
            · show _ = _
              rw [Htk.out, List.length_append, hsz.out, HPl.out]
            · show World.ownsRow _ _ _ _ _ _ _
              rw [Htk.out, List.map_append]
              exact HO3.out
          · have f1 : (200 : Int) < (s : Int) + (p : Int) := by omega
            have hbig : Hid (200 < (subs bl l).length) := by
              show _ < _
              have := subs_le (bl := bl) (l := l) (j + 1)
              rw [Htk.out, List.length_append, hsz.out, HPl.out] at this
              omega
            go_wp2
            go_ret2
            exact ⟨HBw.out, .inr ⟨hbig.out, rfl⟩⟩
    · have n1 : ¬ (j : Int) < (ne : Int) := by omega
      have htk : Hid (l.take j = l) := by show _ = _; rw [List.take_of_length_le (by rw [HL.out]; omega)]
      go_wp2
      go_ret2
      have h1 := hsz.out
      have h2 := hown.out
      rw [htk.out] at h1 h2
      exact ⟨hb.out, .inl ⟨by omega, _, rfl, by rw [h1]; exact h2⟩⟩
end Go.Proofs.Yteiaobeklahifaa
