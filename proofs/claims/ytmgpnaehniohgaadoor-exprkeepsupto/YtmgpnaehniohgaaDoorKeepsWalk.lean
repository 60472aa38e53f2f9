/- The walk of ExprKeeps. -/
import Derived.Test.YtmgpnaehniohgaaDoorEReadT
namespace Go.Proofs.YtmgpnaehniohgaaDoor.E
open Go.RowKit Go.Deep

set_option maxRecDepth 100000 in
set_option maxHeartbeats 4000000 in
theorem roomyO_any (w : World) (a : Option Addr) (c : Nat) (l : List Int) (n : Nat) (hl : l.length = n) (hn : n ≤ 17592186043900) (h : IntsAt w a l) :
    Calls Tryd.prog 10 #[.slice a n c] w fun e w' => Below w.heap.size w w' ∧ ∃ g cap, e = .returned (.slice (some ⟨g, 0, none⟩) (n + 3) cap) ∧ n + 3 ≤ cap ∧ w'.ownsRow w.heap.size 3 1 (.slice (some ⟨g, 0, none⟩) (n + 3) cap) (n + 3) ((spare l).map intV) := by
  obtain ⟨i0, hi0, hz0, hz1, hz3⟩ := info_parts infoI
  have H : Hid (IntsAt w a l) := h
  have HL : Hid (l.length = n) := hl
  clear h hl
  go_enter Tryd.func10, Tryd.ntmps10
  go_wp2_with (at_builtin; first | (refine wpList_append_more (w := w) rfl _ _ _ rfl w.heap.size 3 i0 _ 1 8 Tryd.underlying23 hi0 hz0 hz1 hz3 rfl (by omega) _ 0 [] (by rfl) (by exact World.ownsRow_nil _ _ _ _) a n c (l.map intV) (by rfl) (by rw [List.length_map, HL.out, Nat.mul_one]) (by exact H.out.row.news) (by simp [intV, Value.oneCell']) (by unfold maxLen; omega) (by omega) (Nat.le_refl _) ?_; intro a2 c2 w2 ho hb; rw [Nat.zero_add, List.nil_append] at ho; have HO : Hid (w2.ownsRow w.heap.size 3 1 (.slice a2 n c2) n (l.map intV)) := ho; have HB : Hid (Below w.heap.size w w2) := hb; clear ho hb) | (refine wpList_append_more (w := w2.alloc (.cells #[.int .i64 (-71), .int .i64 (-72), .int .i64 (-73)] 3)) rfl _ _ _ rfl w.heap.size 3 i0 _ 1 8 Tryd.underlying23 hi0 hz0 hz1 hz3 rfl (by omega) _ n (l.map intV) (by rfl) (by exact HO.out.alloc _) (some ⟨w2.heap.size, 0, none⟩) 3 3 [.int .i64 (-71), .int .i64 (-72), .int .i64 (-73)] (by rfl) (by rfl) (by exact (row_new w2 [.int .i64 (-71), .int .i64 (-72), .int .i64 (-73)] 3 _ rfl).news) (by simp [Value.oneCell']) (by unfold maxLen; omega) (by omega) (by have := HB.out.size; simp; omega) ?_; intro a3 c3 w3 ho3 hb3; have HO3 : Hid (w3.ownsRow w.heap.size 3 1 (.slice a3 (n + 3) c3) (n + 3) (l.map intV ++ [.int .i64 (-71), .int .i64 (-72), .int .i64 (-73)])) := ho3; have HB3 : Hid (Below w.heap.size w w3) := HB.out.trans (((Below.refl _ _).alloc HB.out.size _).trans hb3); clear ho3 hb3))
  obtain ⟨g, cap, e, _, _⟩ := HO3.out.form (by omega)
  cases e
  go_wp2
  go_ret
  obtain ⟨a', c', e', hr⟩ := own_row HO3.out
  cases e'
  refine ⟨HB3.out, g, _, rfl, ?_, ?_⟩
  · obtain ⟨_, _, e2, hc⟩ := own_shape HO3.out
    cases e2
    exact hc
  · unfold spare
    rw [List.map_append]
    exact HO3.out


/-- The cells of lists that were handed over. -/
def rowH (rs : List (Value × Value × Int)) : List Value := rs.flatMap fun r => [r.1, r.2.1, intV r.2.2]
theorem rowH_snoc (rs : List (Value × Value × Int)) (r : Value × Value × Int) : rowH (rs ++ [r]) = rowH rs ++ [r.1, r.2.1, intV r.2.2] := by simp [rowH]
theorem rowH_at : ∀ (rs : List (Value × Value × Int)) (i : Nat) (r : Value × Value × Int), rs[i]? = some r → (rowH rs)[i * 3]? = some r.1 ∧ (rowH rs)[i * 3 + 1]? = some r.2.1 ∧ (rowH rs)[i * 3 + 2]? = some (intV r.2.2)
  | [], _, _, h => by simp at h
  | q :: rs, 0, r, h => by
    simp at h
    subst h
    exact ⟨rfl, rfl, rfl⟩
  | q :: rs, i + 1, r, h => by
    have := rowH_at rs i r (by simpa using h)
    rw [show (i + 1) * 3 = i * 3 + 1 + 1 + 1 by omega]
    exact this
/-- All of them stand as they were written. -/
def AllStand (base : Nat) (w : World) (rs : List (Value × Value × Int)) : Prop := ∀ r ∈ rs, -4000000000 ≤ r.2.2 ∧ r.2.2 ≤ 4000000000 ∧ ∃ q, q ≤ 1048580 ∧ Stands base w r.1 r.2.1 q r.2.2
theorem Stands.under {base q : Nat} {w w' : World} {L G : Value} {m : Int} (h : Stands base w L G q m) (hb : Below w.heap.size w w') : Stands base w' L G q m := ⟨owns_under h.1 hb, owns_under h.2 hb⟩
theorem Stands.down {base base' q : Nat} {w : World} {L G : Value} {m : Int} (h : Stands base w L G q m) (hb : base' ≤ base) : Stands base' w L G q m := ⟨owns_down h.1 hb, owns_down h.2 hb⟩
theorem AllStand.under {base : Nat} {w w' : World} {rs : List (Value × Value × Int)} (h : AllStand base w rs) (hb : Below w.heap.size w w') : AllStand base w' rs := fun r hr => by
  obtain ⟨h1, h2, q, hq, hs⟩ := h r hr
  exact ⟨h1, h2, q, hq, hs.under hb⟩
theorem AllStand.grown {base b2 n : Nat} {w w' : World} {rs : List (Value × Value × Int)} {u : Value} {xs : List Value} (h : AllStand base w rs) (hu : w.ownsRow b2 37 3 u n xs) (hg : w.grownBy w' u.ownBlock) : AllStand base w' rs := fun r hr => by
  obtain ⟨h1, h2, q, hq, hs⟩ := h r hr
  have key : ∀ {v : Value} {k : Nat} {ys : List Value}, w.ownsRow base 3 1 v k ys → w'.ownsRow base 3 1 v k ys := fun h3 => owns_same h3 fun g e => hg.block g (own_low h3 g e) fun e' => kinds_apart hu h3 (by decide) g e e'.symm
  exact ⟨h1, h2, q, hq, key hs.1, key hs.2⟩
theorem AllStand.snoc {base : Nat} {w : World} {rs : List (Value × Value × Int)} (h : AllStand base w rs) {L G : Value} {q : Nat} {m : Int} (hm : -4000000000 ≤ m) (hm2 : m ≤ 4000000000) (hq : q ≤ 1048580) (hs : Stands base w L G q m) : AllStand base w (rs ++ [(L, G, m)]) := fun r hr => by
  rcases List.mem_append.1 hr with h1 | h1
  · exact h r h1
  · rw [List.mem_singleton.1 h1]
    exact ⟨hm, hm2, q, hq, hs⟩
theorem infoH : (Tryd.prog.info? 37).map (fun i => (i.zero, i.size, i.bytes)) = some (some (.agg #[.slice none 0 0, .slice none 0 0, .int .i64 0]), 3, 56) := by kernel_rfl
theorem two_at (w : World) (a : Option Addr) (ca : Nat) (la : List Int) (n : Nat) (ha : la.length = n) (hA : IntsAt w a la) :
    PartsAt (w.alloc (.cells #[.slice a n ca, .slice none 0 0] 23)) [.slice a n ca, .slice none 0 0] [la, []] := by
  have hbA : Below w.heap.size w (w.alloc (.cells #[.slice a n ca, .slice none 0 0] 23)) := (Below.refl _ _).alloc (Nat.le_refl _) _
  refine ⟨rfl, fun i l hi => ?_⟩
  match i, hi with
  | 0, hi => cases hi; exact ⟨a, ca, by rw [ha]; rfl, hA.under hbA⟩
  | 1, hi => cases hi; exact ⟨none, 0, rfl, fun i x hi => by simp at hi⟩
  | i + 2, hi => simp at hi
def cB : ByteArray := ⟨#[99]⟩
theorem tabC : constR tab0 cB = (0, 0, actT (addT tab0 cB false) 0) := by kernel_rfl
theorem tabC_act : actOf (actT (addT tab0 cB false) 0) cB = some 0 := by kernel_rfl
theorem tab0_ok : tab0.Ok 0 := ⟨by decide, by decide, by decide, fun p hp => by simp [tab0] at hp, by decide, fun n hn => by simp [tab0] at hn, fun l hl => by simp [tab0] at hl, fun l hl => by simp [tab0] at hl⟩
theorem KB.under {w w' : World} (h : KB w) (hb : Below w.heap.size w w') : KB w' := fun i hi => (hb.cell (p := ⟨0, i, none⟩) (World.block_lt_of_cell? _ _ (h i hi))).trans (h i hi)
theorem plc_nil (l : List Int) : (plc l []).length = l.length + 1 := by simp [plc]

set_option maxRecDepth 100000 in
set_option maxHeartbeats 64000000 in
theorem keeps_walk (w : World) (ap : Option Addr) (np cp : Nat) (vsP : List Value) (ls : List (List Int)) (av : Option Addr) (nv cv : Nat) (vs : List Int) (hP1 : vsP.length = np) (hnp : np ≤ 1048576) (hbig : ∀ l ∈ ls, l.length ≤ 1048576) (hR : RowAt w ap vsP) (hP : PartsAt w vsP ls) (hv : vs.length = nv) (hnv : nv ≤ 1048576) (hV : IntsAt w av vs) (hKB : KB w) :
    Calls Tryd.prog 3 #[.slice ap np cp, .slice av nv cv] w fun e w' => e = .returned (.bool true) ∧ Below w.heap.size w w' := by
  obtain ⟨i0, hi0, hz0, hz1, hz3⟩ := info_parts infoH
  obtain ⟨wA, hwA⟩ : ∃ wA, wA = w.alloc (.cells #[.slice av nv cv] 23) := ⟨_, rfl⟩
  have hbA : Below w.heap.size w wA := by rw [hwA]; exact (Below.refl _ _).alloc (Nat.le_refl _) _
  have C0 : Hid (wA.cell? ⟨w.heap.size, 0, none⟩ = some (.slice av nv cv)) := by show _ = _; rw [hwA]; exact World.cell?_alloc_new w _ _ 0
  have HRA : Hid (RowAt wA ap vsP) := hR.under hbA (Nat.le_refl _)
  have HPA : Hid (PartsAt wA vsP ls) := hP.under hbA
  have HVA : Hid (IntsAt wA av vs) := hV.under hbA
  have HKA : Hid (KB wA) := KB.under hKB hbA
  have HL : Hid (vsP.length = np) := hP1
  have HVl : Hid (vs.length = nv) := hv
  have HBG : Hid (∀ l ∈ ls, l.length ≤ 1048576) := hbig
  have HBA : Hid (Below w.heap.size w wA) := hbA
  have HwA : Hid (wA = w.alloc (.cells #[.slice av nv cv] 23)) := hwA
  clear hR hP hV hKB hP1 hv hbig hbA hwA
  go_enter Tryd.func3, Tryd.ntmps3
  go_wp2_with fail
  rw [← HwA.out]
  generalize hB0 : w.heap.size = B0 at *
  have HB0 : Hid (w.heap.size = B0) := hB0
  clear hB0 HwA
  have CALL : Hid _ := new_any wA
  refine Calls.mono CALL.out ?_
  rintro e w1 ⟨rfl, ⟨bs, hT, hbs⟩, hb1⟩
  have HT1 : Hid (TabAt w1 bs (wA.heap.size + 3) 0 tab0) := hT
  have HBS : Hid (∀ b ∈ bs, wA.heap.size ≤ b) := hbs
  have H1 : Hid (Below wA.heap.size wA w1) := hb1
  clear CALL hT hbs hb1
  obtain ⟨BT, hBT⟩ : ∃ q, wA.heap.size + 3 = q := ⟨_, rfl⟩
  rw [hBT] at HT1 ⊢
  clear hBT
  go_wp2_with fail
  have CALL : Hid _ := const_any w1 bs BT 0 tab0 cB tab0_ok (by omega) (by decide) (KB.under HKA.out H1.out) HT1.out
  rw [tabC] at CALL
  refine Calls.mono CALL.out ?_
  rintro e wT ⟨rfl, bs', hT', hgo⟩
  have HTT : Hid (TabAt wT bs' BT 2 (actT (addT tab0 cB false) 0)) := hT'
  have HWT : Hid (Below wA.heap.size wA wT) := H1.out.trans (hgo.below H1.out.size HBS.out).1
  clear CALL hT' hgo HT1 HBS H1
  have BWT : Hid (B0 ≤ wT.heap.size ∧ B0 < wA.heap.size ∧ wA.heap.size ≤ wT.heap.size) := by
    have h1 := HBA.out.size
    have h2 := HWT.out.size
    have h3 := World.block_lt_of_cell? _ _ C0.out
    have h3 : B0 < wA.heap.size := h3
    exact ⟨by omega, h3, h2⟩
  go_wp2_with fail
  go_loopw [9, 10, 11, 12, 13, 14, 15, 16, 17, 18] (fun v i _ _ _ _ _ _ _ _ wx => ∃ (j : Nat) (aa : Option Addr) (ca : Nat) (rs : List (Value × Value × Int)), j ≤ np ∧ i = .int .i64 j ∧ v = .slice aa (4 * j) ca ∧ Hid (rs.length = 4 * j) ∧ Hid (wx.ownsRow wT.heap.size 37 3 (.slice aa (4 * j) ca) (4 * j) (rowH rs)) ∧ Hid (AllStand wT.heap.size wx rs) ∧ Hid (Below wT.heap.size wT wx)) (fun _ i _ _ _ _ _ _ _ _ _ => np - (intOf i).toNat)
  case atStart => exact ⟨0, none, 0, [], Nat.zero_le _, rfl, rfl, rfl, World.ownsRow_nil _ _ _ _, fun r hr => by simp at hr, Below.refl _ _⟩
  case round =>
    obtain ⟨j, aa, ca, rs, hj, rfl, rfl, RL, AR, AS, hb⟩ := hrel
    by_cases hlt : j < np
    · have n1 : (j : Int) < (np : Int) := by omega
      obtain ⟨l, hl⟩ : ∃ l, ls[j]? = some l := ⟨ls[j]'(by rw [← HPA.out.1, HL.out]; exact hlt), List.getElem?_eq_getElem _⟩
      obtain ⟨a1, c1, hvj, hi1⟩ := HPA.out.2 j l hl
      obtain ⟨bp, op, rfl, hcp⟩ := HRA.out j _ hvj
      have hq := HBG.out l (List.mem_of_getElem? hl)
      obtain ⟨q, hqe⟩ : ∃ q, l.length = q := ⟨_, rfl⟩
      rw [hqe] at hcp hq
      have Hq : Hid (l.length = q) := hqe
      have WAx : ∀ w', Below wT.heap.size wT w' → Below wA.heap.size wA w' := fun w' h => HWT.out.trans (h.mono HWT.out.size)
      have PC : Hid (∀ w', Below wT.heap.size wT w' → w'.cell? ⟨bp, op + j, none⟩ = some (.slice a1 q c1)) := fun w' h => ((WAx w' h).cell (p := ⟨bp, op + j, none⟩) (World.block_lt_of_cell? _ _ hcp)).trans hcp
      have LI : Hid (∀ w', Below wT.heap.size wT w' → IntsAt w' a1 l) := fun w' h => hi1.under (WAx w' h)
      have VI : Hid (∀ w', Below wT.heap.size wT w' → IntsAt w' av vs ∧ w'.cell? ⟨B0, 0, none⟩ = some (.slice av nv cv)) := fun w' h => ⟨HVA.out.under (WAx w' h), ((WAx w' h).cell (p := ⟨B0, 0, none⟩) BWT.out.2.1).trans C0.out⟩
      have TI : Hid (∀ w', Below wT.heap.size wT w' → TabAt w' bs' BT 2 (actT (addT tab0 cB false) 0)) := fun w' h => HTT.out.below h
      clear hl hvj hi1 hcp hqe WAx
      have pc := PC.out _ hb.out
      go_wp2_with fail
      clear pc
      have ZB0 : wT.heap.size ≤ wr.heap.size := hb.out.size
      have CALL : Hid _ := roomyO_any wr a1 c1 l q Hq.out (by omega) (LI.out _ hb.out)
      refine Calls.mono CALL.out ?_
      rintro e w2 ⟨hbn, gx, cx, rfl, hcx, hox⟩
      have XR : Hid (w2.ownsRow wT.heap.size 3 1 (.slice (some ⟨gx, 0, none⟩) (q + 3) cx) (q + 3) ((spare l).map intV)) := owns_down hox ZB0
      replace hb : Hid (Below wT.heap.size wT w2) := hb.out.trans (hbn.mono hb.out.size)
      replace AR : Hid (w2.ownsRow wT.heap.size 37 3 (.slice aa (4 * j) ca) (4 * j) (rowH rs)) := owns_under AR.out hbn
      replace AS : Hid (AllStand wT.heap.size w2 rs) := AS.out.under hbn
      clear CALL hbn hox ZB0
      have XI : Hid (∀ w', w'.ownsRow wT.heap.size 3 1 (.slice (some ⟨gx, 0, none⟩) (q + 3) cx) (q + 3) ((spare l).map intV) → IntsAt w' (some ⟨gx, 0, none⟩) (spare l)) := fun w' h => by
        obtain ⟨_, _, e7, hr7⟩ := own_row h
        cases e7
        exact hr7.ints
      have qc : (q : Int) ≤ (cx : Int) := by omega
      have pc := PC.out _ hb.out
      go_wp2_with fail
      clear pc
      have hal : Below w2.heap.size w2 (w2.alloc (.cells #[.slice (some ⟨gx, 0, none⟩) q cx, .slice none 0 0] 23)) := (Below.refl _ _).alloc (Nat.le_refl _) _
      have CALL : Hid _ := laid_any (w2.alloc (.cells #[.slice (some ⟨gx, 0, none⟩) q cx, .slice none 0 0] 23)) (some ⟨w2.heap.size, 0, none⟩) 2 _ _ 2 rfl (by omega) (row_new w2 [.slice (some ⟨gx, 0, none⟩) q cx, .slice none 0 0] 23 _ rfl) (two_at w2 (some ⟨gx, 0, none⟩) cx l q Hq.out (IntsAt.front (m := [-71, -72, -73]) (XI.out _ XR.out))) (fun x hx => by simp at hx; rcases hx with rfl | rfl; (have := Hq.out; omega); simp)
      refine Calls.mono CALL.out ?_
      intro e w3 h3
      have hfl : [l, []].flatten = l := by simp
      have hbj : Below w2.heap.size w2 w3 := hal.trans (h3.1.mono hal.size)
      have ZB : wT.heap.size ≤ w2.heap.size := hb.out.size
      rcases h3.2 with ⟨hle, vj, rfl, hoj⟩ | ⟨hle, rfl⟩
      · rw [hfl, Hq.out] at hle hoj
        have HOJ : Hid (w3.ownsRow w2.heap.size 3 1 vj q (l.map intV)) := owns_down hoj (by simp)
        obtain ⟨avj, cvj, hje, _⟩ := own_shape HOJ.out
        subst hje
        have HBJ : Hid _ := hbj
        have f1 : (q : Int) ≤ 200 := by omega
        have SJ : Hid _ := same_eq w3 avj (some ⟨gx, 0, none⟩) cvj cx l q Hq.out (by omega) (by obtain ⟨_, _, e7, hr7⟩ := own_row HOJ.out; cases e7; exact hr7.ints) (IntsAt.front (m := [-71, -72, -73]) (XI.out _ (owns_under XR.out hbj)))
        clear CALL h3 hal hoj hbj hfl
        go_wp2_with fail
        refine Calls.mono SJ.out ?_
        rintro e w' ⟨rfl, d4, hw⟩
        subst w'
        have hbq : Below w2.heap.size w2 (w3.drewN d4) := HBJ.out.trans ⟨rfl, rfl, rfl, Nat.le_refl _, fun _ _ => rfl⟩
        have hoj : (w3.drewN d4).ownsRow w2.heap.size 3 1 (.slice avj q cvj) q (l.map intV) := HOJ.out
        clear SJ HOJ HBJ
        generalize w3.drewN d4 = w4 at *
        have mm0 : IntKind.i64.wrap (10 * (j : Int)) = 10 * (j : Int) := IntWalk.i64_in _ (by omega)
        have mm2 : IntKind.i64.wrap (-1000 - 10 * (j : Int)) = -1000 - 10 * (j : Int) := IntWalk.i64_in _ (by omega)
        have HOJ : Hid _ := hoj
        have HBQ : Hid _ := hbq
        clear hoj hbq
        go_wp2_with fail
        have hoj := HOJ.out
        have hbq := HBQ.out
        clear HOJ HBQ
        have CALL : Hid _ := handed_any w4 (.slice avj q cvj) q _ (-1000 - 10 * (j : Int)) w2.heap.size (by omega) (by omega) (by omega) hoj hbq.size
        refine Calls.mono CALL.out ?_
        rintro e wh1 ⟨hbh, Gwh1, rfl, hst⟩
        have hbn : Below w2.heap.size w2 wh1 := hbq.trans hbh
        replace hb : Hid (Below wT.heap.size wT wh1) := hb.out.trans (hbn.mono hb.out.size)
        replace AR : Hid (wh1.ownsRow wT.heap.size 37 3 (.slice aa (4 * j) ca) (4 * j) (rowH rs)) := owns_under AR.out hbn
        replace AS : Hid (AllStand wT.heap.size wh1 rs) := AS.out.under hbn
        replace XR : Hid (wh1.ownsRow wT.heap.size 3 1 (.slice (some ⟨gx, 0, none⟩) (q + 3) cx) (q + 3) ((spare l).map intV)) := owns_under XR.out hbn
        obtain ⟨agwh1, cgwh1, hGe, _⟩ := own_shape hst.2
        subst hGe
        have NS : Hid (Stands wT.heap.size wh1 (.slice avj q cvj) (.slice agwh1 (q + 2) cgwh1) q (-1000 - 10 * (j : Int))) := hst.down ZB
        clear CALL hbh hbn hst hbq hoj
        have hs0 : wT.heap.size ≤ wh1.heap.size := hb.out.size
        have ARb : Hid ((wh1.alloc (.cells #[.slice avj q cvj, .slice agwh1 (q + 2) cgwh1, .int .i64 (-1000 - 10 * (j : Int))] 37)).ownsRow wT.heap.size 37 3 (.slice aa (4 * j) ca) (4 * j) (rowH rs)) := AR.out.alloc _
        have hbal : Below wh1.heap.size wh1 (wh1.alloc (.cells #[.slice avj q cvj, .slice agwh1 (q + 2) cgwh1, .int .i64 (-1000 - 10 * (j : Int))] 37)) := (Below.refl _ _).alloc (Nat.le_refl _) _
        have ASb : Hid (AllStand wT.heap.size (wh1.alloc (.cells #[.slice avj q cvj, .slice agwh1 (q + 2) cgwh1, .int .i64 (-1000 - 10 * (j : Int))] 37)) (rs ++ [(Value.slice avj q cvj, Value.slice agwh1 (q + 2) cgwh1, -1000 - 10 * (j : Int))])) := (AS.out.snoc (by omega) (by omega) (by omega) NS.out).under hbal
        have XRb : Hid ((wh1.alloc (.cells #[.slice avj q cvj, .slice agwh1 (q + 2) cgwh1, .int .i64 (-1000 - 10 * (j : Int))] 37)).ownsRow wT.heap.size 3 1 (.slice (some ⟨gx, 0, none⟩) (q + 3) cx) (q + 3) ((spare l).map intV)) := owns_under XR.out hbal
        have hbb : Hid (Below wT.heap.size wT (wh1.alloc (.cells #[.slice avj q cvj, .slice agwh1 (q + 2) cgwh1, .int .i64 (-1000 - 10 * (j : Int))] 37))) := hb.out.alloc hs0 _
        have fin : Hid (∀ w8, (wh1.alloc (.cells #[.slice avj q cvj, .slice agwh1 (q + 2) cgwh1, .int .i64 (-1000 - 10 * (j : Int))] 37)).grownBy w8 (Value.slice aa (4 * j) ca).ownBlock → AllStand wT.heap.size w8 (rs ++ [(Value.slice avj q cvj, Value.slice agwh1 (q + 2) cgwh1, -1000 - 10 * (j : Int))]) ∧ w8.ownsRow wT.heap.size 3 1 (.slice (some ⟨gx, 0, none⟩) (q + 3) cx) (q + 3) ((spare l).map intV) ∧ Below wT.heap.size wT w8) := fun w8 hg8 => ⟨ASb.out.grown ARb.out hg8, owns_same XRb.out fun g e => hg8.block g (own_low XRb.out g e) fun e' => kinds_apart ARb.out XRb.out (by decide) g e e'.symm, hbb.out.grown hg8 (by simp; omega) (own_ge ARb.out)⟩
        clear hbal ASb hbb NS AR AS hb XR XRb
        go_wp2_with (at_builtin; refine wpList_append_lies (wh1.alloc (.cells #[.slice avj q cvj, .slice agwh1 (q + 2) cgwh1, .int .i64 (-1000 - 10 * (j : Int))] 37)) rfl _ _ _ rfl wT.heap.size 37 i0 _ 3 56 Tryd.underlying31 hi0 hz0 hz1 hz3 rfl (by omega) _ (4 * j) (rowH rs) (by rfl) (by exact ARb.out) ⟨wh1.heap.size, 0, none⟩ 1 1 [.slice avj q cvj, .slice agwh1 (q + 2) cgwh1, .int .i64 (-1000 - 10 * (j : Int))] (by rfl) (by rfl) (World.news_of_block (cs := #[.slice avj q cvj, .slice agwh1 (q + 2) cgwh1, .int .i64 (-1000 - 10 * (j : Int))]) (t := 37) (fr := (0, 0)) (heap_alloc_new wh1 _)) (by simp [Value.oneCell']) (by omega) (by unfold maxLen; omega) (by omega) (by simp; omega) _ rfl ?_; intro gwp2 cpwp2 wp2 hown8 hgrow8 hat8 hlt8; have AR0 : Hid _ := hown8; have FIN : Hid _ := fin.out wp2 hgrow8; clear hown8 hgrow8 hat8 hlt8 fin ARb)
        have AR : Hid (wp2.ownsRow wT.heap.size 37 3 (.slice (some ⟨gwp2, 0, none⟩) (4 * j + 1) cpwp2) (4 * j + 1) (rowH (rs ++ [(Value.slice avj q cvj, Value.slice agwh1 (q + 2) cgwh1, -1000 - 10 * (j : Int))]))) := by show World.ownsRow _ _ _ _ _ _ _; rw [rowH_snoc]; exact AR0.out
        have AS : Hid (AllStand wT.heap.size wp2 (rs ++ [(Value.slice avj q cvj, Value.slice agwh1 (q + 2) cgwh1, -1000 - 10 * (j : Int))])) := FIN.out.1
        have hb : Hid (Below wT.heap.size wT wp2) := FIN.out.2.2
        have XR : Hid (wp2.ownsRow wT.heap.size 3 1 (.slice (some ⟨gx, 0, none⟩) (q + 3) cx) (q + 3) ((spare l).map intV)) := FIN.out.2.1
        clear FIN AR0 hs0
        clear ZB mm2
        obtain ⟨vi, vc⟩ := VI.out _ hb.out
        have ZB : wT.heap.size ≤ wp2.heap.size := hb.out.size
        go_wp2_with fail
        have CALL : Hid _ := varsO_any wp2 (some ⟨gx, 0, none⟩) cx l vs q B0 nv cv av Hq.out (by omega) (IntsAt.front (m := [-71, -72, -73]) (XI.out _ XR.out)) vc HVl.out (by omega) vi
        clear vi vc
        refine Calls.mono CALL.out ?_
        rintro e wv3 ⟨hbq, vv, qv, xv, rfl, hov, hqv⟩
        obtain ⟨avv, cvv, hve, _⟩ := own_shape hov
        subst hve
        clear CALL
        have mm : IntKind.i64.wrap (10 * (j : Int)) = 10 * (j : Int) := IntWalk.i64_in _ (by omega)
        have mm2 : IntKind.i64.wrap (-1003 - 10 * (j : Int)) = -1003 - 10 * (j : Int) := IntWalk.i64_in _ (by omega)
        have HOV : Hid _ := hov
        have HBQ : Hid _ := hbq
        clear hov hbq
        go_wp2_with fail
        have hov := HOV.out
        have hbq := HBQ.out
        clear HOV HBQ
        have CALL : Hid _ := handed_any wv3 (.slice avv qv cvv) qv xv (-1003 - 10 * (j : Int)) wp2.heap.size (by omega) (by omega) (by omega) hov hbq.size
        refine Calls.mono CALL.out ?_
        rintro e wh4 ⟨hbh, Gwh4, rfl, hst⟩
        have hbn : Below wp2.heap.size wp2 wh4 := hbq.trans hbh
        replace hb : Hid (Below wT.heap.size wT wh4) := hb.out.trans (hbn.mono hb.out.size)
        replace AR : Hid (wh4.ownsRow wT.heap.size 37 3 (.slice (some ⟨gwp2, 0, none⟩) (4 * j + 1) cpwp2) (4 * j + 1) (rowH (rs ++ [(Value.slice avj q cvj, Value.slice agwh1 (q + 2) cgwh1, -1000 - 10 * (j : Int))]))) := owns_under AR.out hbn
        replace AS : Hid (AllStand wT.heap.size wh4 (rs ++ [(Value.slice avj q cvj, Value.slice agwh1 (q + 2) cgwh1, -1000 - 10 * (j : Int))])) := AS.out.under hbn
        replace XR : Hid (wh4.ownsRow wT.heap.size 3 1 (.slice (some ⟨gx, 0, none⟩) (q + 3) cx) (q + 3) ((spare l).map intV)) := owns_under XR.out hbn
        obtain ⟨agwh4, cgwh4, hGe, _⟩ := own_shape hst.2
        subst hGe
        have NS : Hid (Stands wT.heap.size wh4 (.slice avv qv cvv) (.slice agwh4 (qv + 2) cgwh4) qv (-1003 - 10 * (j : Int))) := hst.down ZB
        clear CALL hbh hbn hst hbq hov
        have hs0 : wT.heap.size ≤ wh4.heap.size := hb.out.size
        have ARb : Hid ((wh4.alloc (.cells #[.slice avv qv cvv, .slice agwh4 (qv + 2) cgwh4, .int .i64 (-1003 - 10 * (j : Int))] 37)).ownsRow wT.heap.size 37 3 (.slice (some ⟨gwp2, 0, none⟩) (4 * j + 1) cpwp2) (4 * j + 1) (rowH (rs ++ [(Value.slice avj q cvj, Value.slice agwh1 (q + 2) cgwh1, -1000 - 10 * (j : Int))]))) := AR.out.alloc _
        have hbal : Below wh4.heap.size wh4 (wh4.alloc (.cells #[.slice avv qv cvv, .slice agwh4 (qv + 2) cgwh4, .int .i64 (-1003 - 10 * (j : Int))] 37)) := (Below.refl _ _).alloc (Nat.le_refl _) _
        have ASb : Hid (AllStand wT.heap.size (wh4.alloc (.cells #[.slice avv qv cvv, .slice agwh4 (qv + 2) cgwh4, .int .i64 (-1003 - 10 * (j : Int))] 37)) ((rs ++ [(Value.slice avj q cvj, Value.slice agwh1 (q + 2) cgwh1, -1000 - 10 * (j : Int))]) ++ [(Value.slice avv qv cvv, Value.slice agwh4 (qv + 2) cgwh4, -1003 - 10 * (j : Int))])) := (AS.out.snoc (by omega) (by omega) (by omega) NS.out).under hbal
        have XRb : Hid ((wh4.alloc (.cells #[.slice avv qv cvv, .slice agwh4 (qv + 2) cgwh4, .int .i64 (-1003 - 10 * (j : Int))] 37)).ownsRow wT.heap.size 3 1 (.slice (some ⟨gx, 0, none⟩) (q + 3) cx) (q + 3) ((spare l).map intV)) := owns_under XR.out hbal
        have hbb : Hid (Below wT.heap.size wT (wh4.alloc (.cells #[.slice avv qv cvv, .slice agwh4 (qv + 2) cgwh4, .int .i64 (-1003 - 10 * (j : Int))] 37))) := hb.out.alloc hs0 _
        have fin : Hid (∀ w8, (wh4.alloc (.cells #[.slice avv qv cvv, .slice agwh4 (qv + 2) cgwh4, .int .i64 (-1003 - 10 * (j : Int))] 37)).grownBy w8 (Value.slice (some ⟨gwp2, 0, none⟩) (4 * j + 1) cpwp2).ownBlock → AllStand wT.heap.size w8 ((rs ++ [(Value.slice avj q cvj, Value.slice agwh1 (q + 2) cgwh1, -1000 - 10 * (j : Int))]) ++ [(Value.slice avv qv cvv, Value.slice agwh4 (qv + 2) cgwh4, -1003 - 10 * (j : Int))]) ∧ w8.ownsRow wT.heap.size 3 1 (.slice (some ⟨gx, 0, none⟩) (q + 3) cx) (q + 3) ((spare l).map intV) ∧ Below wT.heap.size wT w8) := fun w8 hg8 => ⟨ASb.out.grown ARb.out hg8, owns_same XRb.out fun g e => hg8.block g (own_low XRb.out g e) fun e' => kinds_apart ARb.out XRb.out (by decide) g e e'.symm, hbb.out.grown hg8 (by simp; omega) (own_ge ARb.out)⟩
        clear hbal ASb hbb NS AR AS hb XR XRb
        go_wp2_with (at_builtin; refine wpList_append_lies (wh4.alloc (.cells #[.slice avv qv cvv, .slice agwh4 (qv + 2) cgwh4, .int .i64 (-1003 - 10 * (j : Int))] 37)) rfl _ _ _ rfl wT.heap.size 37 i0 _ 3 56 Tryd.underlying31 hi0 hz0 hz1 hz3 rfl (by omega) _ (4 * j + 1) (rowH (rs ++ [(Value.slice avj q cvj, Value.slice agwh1 (q + 2) cgwh1, -1000 - 10 * (j : Int))])) (by rfl) (by exact ARb.out) ⟨wh4.heap.size, 0, none⟩ 1 1 [.slice avv qv cvv, .slice agwh4 (qv + 2) cgwh4, .int .i64 (-1003 - 10 * (j : Int))] (by rfl) (by rfl) (World.news_of_block (cs := #[.slice avv qv cvv, .slice agwh4 (qv + 2) cgwh4, .int .i64 (-1003 - 10 * (j : Int))]) (t := 37) (fr := (0, 0)) (heap_alloc_new wh4 _)) (by simp [Value.oneCell']) (by omega) (by unfold maxLen; omega) (by omega) (by simp; omega) _ rfl ?_; intro gwp5 cpwp5 wp5 hown8 hgrow8 hat8 hlt8; have AR0 : Hid _ := hown8; have FIN : Hid _ := fin.out wp5 hgrow8; clear hown8 hgrow8 hat8 hlt8 fin ARb)
        have AR : Hid (wp5.ownsRow wT.heap.size 37 3 (.slice (some ⟨gwp5, 0, none⟩) (4 * j + 1 + 1) cpwp5) (4 * j + 1 + 1) (rowH ((rs ++ [(Value.slice avj q cvj, Value.slice agwh1 (q + 2) cgwh1, -1000 - 10 * (j : Int))]) ++ [(Value.slice avv qv cvv, Value.slice agwh4 (qv + 2) cgwh4, -1003 - 10 * (j : Int))]))) := by show World.ownsRow _ _ _ _ _ _ _; rw [rowH_snoc]; exact AR0.out
        have AS : Hid (AllStand wT.heap.size wp5 ((rs ++ [(Value.slice avj q cvj, Value.slice agwh1 (q + 2) cgwh1, -1000 - 10 * (j : Int))]) ++ [(Value.slice avv qv cvv, Value.slice agwh4 (qv + 2) cgwh4, -1003 - 10 * (j : Int))])) := FIN.out.1
        have hb : Hid (Below wT.heap.size wT wp5) := FIN.out.2.2
        have XR : Hid (wp5.ownsRow wT.heap.size 3 1 (.slice (some ⟨gx, 0, none⟩) (q + 3) cx) (q + 3) ((spare l).map intV)) := FIN.out.2.1
        clear FIN AR0 hs0
        clear ZB mm2
        have ZB : wT.heap.size ≤ wp5.heap.size := hb.out.size
        go_wp2_with fail
        have CALL : Hid _ := places_any wp5 (some ⟨gx, 0, none⟩) none cx 0 l [] q 0 Hq.out rfl (by omega) (IntsAt.front (m := [-71, -72, -73]) (XI.out _ XR.out)) (fun i x hi => by simp at hi)
        refine Calls.mono CALL.out ?_
        rintro e wl6 ⟨vl, rfl, hol, hbq⟩
        rw [plc_nil, Hq.out] at hol
        obtain ⟨avl, cvl, hle2, _⟩ := own_shape hol
        subst hle2
        clear CALL
        have mm2 : IntKind.i64.wrap (-1006 - 10 * (j : Int)) = -1006 - 10 * (j : Int) := IntWalk.i64_in _ (by omega)
        have HOL : Hid _ := hol
        have HBQ : Hid _ := hbq
        clear hol hbq
        go_wp2_with fail
        have hol := HOL.out
        have hbq := HBQ.out
        clear HOL HBQ
        have CALL : Hid _ := handed_any wl6 (.slice avl (q + 1) cvl) (q + 1) _ (-1006 - 10 * (j : Int)) wp5.heap.size (by omega) (by omega) (by omega) hol hbq.size
        refine Calls.mono CALL.out ?_
        rintro e wh7 ⟨hbh, Gwh7, rfl, hst⟩
        have hbn : Below wp5.heap.size wp5 wh7 := hbq.trans hbh
        replace hb : Hid (Below wT.heap.size wT wh7) := hb.out.trans (hbn.mono hb.out.size)
        replace AR : Hid (wh7.ownsRow wT.heap.size 37 3 (.slice (some ⟨gwp5, 0, none⟩) (4 * j + 1 + 1) cpwp5) (4 * j + 1 + 1) (rowH ((rs ++ [(Value.slice avj q cvj, Value.slice agwh1 (q + 2) cgwh1, -1000 - 10 * (j : Int))]) ++ [(Value.slice avv qv cvv, Value.slice agwh4 (qv + 2) cgwh4, -1003 - 10 * (j : Int))]))) := owns_under AR.out hbn
        replace AS : Hid (AllStand wT.heap.size wh7 ((rs ++ [(Value.slice avj q cvj, Value.slice agwh1 (q + 2) cgwh1, -1000 - 10 * (j : Int))]) ++ [(Value.slice avv qv cvv, Value.slice agwh4 (qv + 2) cgwh4, -1003 - 10 * (j : Int))])) := AS.out.under hbn
        replace XR : Hid (wh7.ownsRow wT.heap.size 3 1 (.slice (some ⟨gx, 0, none⟩) (q + 3) cx) (q + 3) ((spare l).map intV)) := owns_under XR.out hbn
        obtain ⟨agwh7, cgwh7, hGe, _⟩ := own_shape hst.2
        subst hGe
        have NS : Hid (Stands wT.heap.size wh7 (.slice avl (q + 1) cvl) (.slice agwh7 ((q + 1) + 2) cgwh7) (q + 1) (-1006 - 10 * (j : Int))) := hst.down ZB
        clear CALL hbh hbn hst hbq hol
        have hs0 : wT.heap.size ≤ wh7.heap.size := hb.out.size
        have ARb : Hid ((wh7.alloc (.cells #[.slice avl (q + 1) cvl, .slice agwh7 ((q + 1) + 2) cgwh7, .int .i64 (-1006 - 10 * (j : Int))] 37)).ownsRow wT.heap.size 37 3 (.slice (some ⟨gwp5, 0, none⟩) (4 * j + 1 + 1) cpwp5) (4 * j + 1 + 1) (rowH ((rs ++ [(Value.slice avj q cvj, Value.slice agwh1 (q + 2) cgwh1, -1000 - 10 * (j : Int))]) ++ [(Value.slice avv qv cvv, Value.slice agwh4 (qv + 2) cgwh4, -1003 - 10 * (j : Int))]))) := AR.out.alloc _
        have hbal : Below wh7.heap.size wh7 (wh7.alloc (.cells #[.slice avl (q + 1) cvl, .slice agwh7 ((q + 1) + 2) cgwh7, .int .i64 (-1006 - 10 * (j : Int))] 37)) := (Below.refl _ _).alloc (Nat.le_refl _) _
        have ASb : Hid (AllStand wT.heap.size (wh7.alloc (.cells #[.slice avl (q + 1) cvl, .slice agwh7 ((q + 1) + 2) cgwh7, .int .i64 (-1006 - 10 * (j : Int))] 37)) (((rs ++ [(Value.slice avj q cvj, Value.slice agwh1 (q + 2) cgwh1, -1000 - 10 * (j : Int))]) ++ [(Value.slice avv qv cvv, Value.slice agwh4 (qv + 2) cgwh4, -1003 - 10 * (j : Int))]) ++ [(Value.slice avl (q + 1) cvl, Value.slice agwh7 ((q + 1) + 2) cgwh7, -1006 - 10 * (j : Int))])) := (AS.out.snoc (by omega) (by omega) (by omega) NS.out).under hbal
        have XRb : Hid ((wh7.alloc (.cells #[.slice avl (q + 1) cvl, .slice agwh7 ((q + 1) + 2) cgwh7, .int .i64 (-1006 - 10 * (j : Int))] 37)).ownsRow wT.heap.size 3 1 (.slice (some ⟨gx, 0, none⟩) (q + 3) cx) (q + 3) ((spare l).map intV)) := owns_under XR.out hbal
        have hbb : Hid (Below wT.heap.size wT (wh7.alloc (.cells #[.slice avl (q + 1) cvl, .slice agwh7 ((q + 1) + 2) cgwh7, .int .i64 (-1006 - 10 * (j : Int))] 37))) := hb.out.alloc hs0 _
        have fin : Hid (∀ w8, (wh7.alloc (.cells #[.slice avl (q + 1) cvl, .slice agwh7 ((q + 1) + 2) cgwh7, .int .i64 (-1006 - 10 * (j : Int))] 37)).grownBy w8 (Value.slice (some ⟨gwp5, 0, none⟩) (4 * j + 1 + 1) cpwp5).ownBlock → AllStand wT.heap.size w8 (((rs ++ [(Value.slice avj q cvj, Value.slice agwh1 (q + 2) cgwh1, -1000 - 10 * (j : Int))]) ++ [(Value.slice avv qv cvv, Value.slice agwh4 (qv + 2) cgwh4, -1003 - 10 * (j : Int))]) ++ [(Value.slice avl (q + 1) cvl, Value.slice agwh7 ((q + 1) + 2) cgwh7, -1006 - 10 * (j : Int))]) ∧ w8.ownsRow wT.heap.size 3 1 (.slice (some ⟨gx, 0, none⟩) (q + 3) cx) (q + 3) ((spare l).map intV) ∧ Below wT.heap.size wT w8) := fun w8 hg8 => ⟨ASb.out.grown ARb.out hg8, owns_same XRb.out fun g e => hg8.block g (own_low XRb.out g e) fun e' => kinds_apart ARb.out XRb.out (by decide) g e e'.symm, hbb.out.grown hg8 (by simp; omega) (own_ge ARb.out)⟩
        clear hbal ASb hbb NS AR AS hb XR XRb
        go_wp2_with (at_builtin; refine wpList_append_lies (wh7.alloc (.cells #[.slice avl (q + 1) cvl, .slice agwh7 ((q + 1) + 2) cgwh7, .int .i64 (-1006 - 10 * (j : Int))] 37)) rfl _ _ _ rfl wT.heap.size 37 i0 _ 3 56 Tryd.underlying31 hi0 hz0 hz1 hz3 rfl (by omega) _ (4 * j + 1 + 1) (rowH ((rs ++ [(Value.slice avj q cvj, Value.slice agwh1 (q + 2) cgwh1, -1000 - 10 * (j : Int))]) ++ [(Value.slice avv qv cvv, Value.slice agwh4 (qv + 2) cgwh4, -1003 - 10 * (j : Int))])) (by rfl) (by exact ARb.out) ⟨wh7.heap.size, 0, none⟩ 1 1 [.slice avl (q + 1) cvl, .slice agwh7 ((q + 1) + 2) cgwh7, .int .i64 (-1006 - 10 * (j : Int))] (by rfl) (by rfl) (World.news_of_block (cs := #[.slice avl (q + 1) cvl, .slice agwh7 ((q + 1) + 2) cgwh7, .int .i64 (-1006 - 10 * (j : Int))]) (t := 37) (fr := (0, 0)) (heap_alloc_new wh7 _)) (by simp [Value.oneCell']) (by omega) (by unfold maxLen; omega) (by omega) (by simp; omega) _ rfl ?_; intro gwp8 cpwp8 wp8 hown8 hgrow8 hat8 hlt8; have AR0 : Hid _ := hown8; have FIN : Hid _ := fin.out wp8 hgrow8; clear hown8 hgrow8 hat8 hlt8 fin ARb)
        have AR : Hid (wp8.ownsRow wT.heap.size 37 3 (.slice (some ⟨gwp8, 0, none⟩) (4 * j + 1 + 1 + 1) cpwp8) (4 * j + 1 + 1 + 1) (rowH (((rs ++ [(Value.slice avj q cvj, Value.slice agwh1 (q + 2) cgwh1, -1000 - 10 * (j : Int))]) ++ [(Value.slice avv qv cvv, Value.slice agwh4 (qv + 2) cgwh4, -1003 - 10 * (j : Int))]) ++ [(Value.slice avl (q + 1) cvl, Value.slice agwh7 ((q + 1) + 2) cgwh7, -1006 - 10 * (j : Int))]))) := by show World.ownsRow _ _ _ _ _ _ _; rw [rowH_snoc]; exact AR0.out
        have AS : Hid (AllStand wT.heap.size wp8 (((rs ++ [(Value.slice avj q cvj, Value.slice agwh1 (q + 2) cgwh1, -1000 - 10 * (j : Int))]) ++ [(Value.slice avv qv cvv, Value.slice agwh4 (qv + 2) cgwh4, -1003 - 10 * (j : Int))]) ++ [(Value.slice avl (q + 1) cvl, Value.slice agwh7 ((q + 1) + 2) cgwh7, -1006 - 10 * (j : Int))])) := FIN.out.1
        have hb : Hid (Below wT.heap.size wT wp8) := FIN.out.2.2
        have XR : Hid (wp8.ownsRow wT.heap.size 3 1 (.slice (some ⟨gx, 0, none⟩) (q + 3) cx) (q + 3) ((spare l).map intV)) := FIN.out.2.1
        clear FIN AR0 hs0
        clear ZB mm2
        have ZB : wT.heap.size ≤ wp8.heap.size := hb.out.size
        go_wp2_with fail
        have hal : Below wp8.heap.size wp8 (wp8.alloc (.cells #[.string ⟨#[99]⟩, .string ⟨#[99]⟩] 9)) := (Below.refl _ _).alloc (Nat.le_refl _) _
        have CALL : Hid _ := readT_any (wp8.alloc (.cells #[.string ⟨#[99]⟩, .string ⟨#[99]⟩] 9)) bs' BT 2 (actT (addT tab0 cB false) 0) (some ⟨wp8.heap.size, 0, none⟩) 2 2 [cB, cB] rfl (by omega) (fun s hs => by simp at hs; rw [hs]; decide) (TI.out _ (hb.out.trans (hal.mono hb.out.size))) (fun i s hi => by
          obtain ⟨b9, o9, e9, c9⟩ := row_new wp8 [.string cB, .string cB] 9 _ rfl i (.string s) (by rw [show ([Value.string cB, Value.string cB] : List Value) = [cB, cB].map Value.string from rfl, List.getElem?_map, hi]; rfl)
          exact ⟨b9, o9, e9, c9⟩)
        refine Calls.mono CALL.out ?_
        rintro e wd9 ⟨hbr, h4 | ⟨i4, s4, h5, h6, h7⟩⟩
        case inr =>
          exfalso
          have e4 : i4 < 2 := (List.getElem?_eq_some_iff.1 h5).1
          have e5 : s4 = cB := by
            have := List.mem_of_getElem? h5
            simpa using this
          rcases h7 with ⟨h8, _⟩ | ⟨_, h8, _⟩
          · omega
          · rw [e5, tabC_act] at h8
            cases h8
        obtain ⟨_, ns, vr, hnl, _, rfl, hor⟩ := h4
        have hbq : Below wp8.heap.size wp8 wd9 := hal.trans (hbr.mono hal.size)
        have hor2 : wd9.ownsRow wp8.heap.size 3 1 vr 2 (ns.map intV) := owns_down hor (by simp)
        obtain ⟨avr, cvr, hre, _⟩ := own_shape hor2
        subst hre
        have HOR : Hid _ := hor2
        have HBQ : Hid _ := hbq
        have hbt : Below wT.heap.size wT wd9 := hb.out.trans (hbq.mono hb.out.size)
        have pc := PC.out _ hbt
        have UT : Hid _ := untouched_any wd9 gx cx a1 c1 l q Hq.out (by omega) (by omega) (XI.out _ (owns_under XR.out hbq)) (LI.out _ hbt)
        clear CALL hal hbr hor hor2 hbq hnl hbt
        go_wp2_with fail
        refine Calls.mono UT.out ?_
        rintro e w' ⟨rfl, d9, hw9⟩
        subst w'
        clear UT pc
        have hbq : Below wp8.heap.size wp8 (wd9.drewN d9) := HBQ.out.trans ⟨rfl, rfl, rfl, Nat.le_refl _, fun _ _ => rfl⟩
        have hor2 : (wd9.drewN d9).ownsRow wp8.heap.size 3 1 (.slice avr 2 cvr) 2 (ns.map intV) := HOR.out
        clear HOR HBQ
        generalize wd9.drewN d9 = wu10 at *
        have mm2 : IntKind.i64.wrap (7 + 10 * (j : Int)) = 7 + 10 * (j : Int) := IntWalk.i64_in _ (by omega)
        have HOR : Hid _ := hor2
        have HBQ : Hid _ := hbq
        clear hor2 hbq
        go_wp2_with fail
        have hor := HOR.out
        have hbq := HBQ.out
        clear HOR HBQ
        have CALL : Hid _ := handed_any wu10 (.slice avr 2 cvr) 2 _ (7 + 10 * (j : Int)) wp8.heap.size (by omega) (by omega) (by omega) hor hbq.size
        refine Calls.mono CALL.out ?_
        rintro e wh11 ⟨hbh, Gwh11, rfl, hst⟩
        have hbn : Below wp8.heap.size wp8 wh11 := hbq.trans hbh
        replace hb : Hid (Below wT.heap.size wT wh11) := hb.out.trans (hbn.mono hb.out.size)
        replace AR : Hid (wh11.ownsRow wT.heap.size 37 3 (.slice (some ⟨gwp8, 0, none⟩) (4 * j + 1 + 1 + 1) cpwp8) (4 * j + 1 + 1 + 1) (rowH (((rs ++ [(Value.slice avj q cvj, Value.slice agwh1 (q + 2) cgwh1, -1000 - 10 * (j : Int))]) ++ [(Value.slice avv qv cvv, Value.slice agwh4 (qv + 2) cgwh4, -1003 - 10 * (j : Int))]) ++ [(Value.slice avl (q + 1) cvl, Value.slice agwh7 ((q + 1) + 2) cgwh7, -1006 - 10 * (j : Int))]))) := owns_under AR.out hbn
        replace AS : Hid (AllStand wT.heap.size wh11 (((rs ++ [(Value.slice avj q cvj, Value.slice agwh1 (q + 2) cgwh1, -1000 - 10 * (j : Int))]) ++ [(Value.slice avv qv cvv, Value.slice agwh4 (qv + 2) cgwh4, -1003 - 10 * (j : Int))]) ++ [(Value.slice avl (q + 1) cvl, Value.slice agwh7 ((q + 1) + 2) cgwh7, -1006 - 10 * (j : Int))])) := AS.out.under hbn
        replace XR : Hid (wh11.ownsRow wT.heap.size 3 1 (.slice (some ⟨gx, 0, none⟩) (q + 3) cx) (q + 3) ((spare l).map intV)) := owns_under XR.out hbn
        obtain ⟨agwh11, cgwh11, hGe, _⟩ := own_shape hst.2
        subst hGe
        have NS : Hid (Stands wT.heap.size wh11 (.slice avr 2 cvr) (.slice agwh11 (2 + 2) cgwh11) 2 (7 + 10 * (j : Int))) := hst.down ZB
        clear CALL hbh hbn hst hbq hor
        have hs0 : wT.heap.size ≤ wh11.heap.size := hb.out.size
        have ARb : Hid ((wh11.alloc (.cells #[.slice avr 2 cvr, .slice agwh11 (2 + 2) cgwh11, .int .i64 (7 + 10 * (j : Int))] 37)).ownsRow wT.heap.size 37 3 (.slice (some ⟨gwp8, 0, none⟩) (4 * j + 1 + 1 + 1) cpwp8) (4 * j + 1 + 1 + 1) (rowH (((rs ++ [(Value.slice avj q cvj, Value.slice agwh1 (q + 2) cgwh1, -1000 - 10 * (j : Int))]) ++ [(Value.slice avv qv cvv, Value.slice agwh4 (qv + 2) cgwh4, -1003 - 10 * (j : Int))]) ++ [(Value.slice avl (q + 1) cvl, Value.slice agwh7 ((q + 1) + 2) cgwh7, -1006 - 10 * (j : Int))]))) := AR.out.alloc _
        have hbal : Below wh11.heap.size wh11 (wh11.alloc (.cells #[.slice avr 2 cvr, .slice agwh11 (2 + 2) cgwh11, .int .i64 (7 + 10 * (j : Int))] 37)) := (Below.refl _ _).alloc (Nat.le_refl _) _
        have ASb : Hid (AllStand wT.heap.size (wh11.alloc (.cells #[.slice avr 2 cvr, .slice agwh11 (2 + 2) cgwh11, .int .i64 (7 + 10 * (j : Int))] 37)) ((((rs ++ [(Value.slice avj q cvj, Value.slice agwh1 (q + 2) cgwh1, -1000 - 10 * (j : Int))]) ++ [(Value.slice avv qv cvv, Value.slice agwh4 (qv + 2) cgwh4, -1003 - 10 * (j : Int))]) ++ [(Value.slice avl (q + 1) cvl, Value.slice agwh7 ((q + 1) + 2) cgwh7, -1006 - 10 * (j : Int))]) ++ [(Value.slice avr 2 cvr, Value.slice agwh11 (2 + 2) cgwh11, 7 + 10 * (j : Int))])) := (AS.out.snoc (by omega) (by omega) (by omega) NS.out).under hbal
        have XRb : Hid ((wh11.alloc (.cells #[.slice avr 2 cvr, .slice agwh11 (2 + 2) cgwh11, .int .i64 (7 + 10 * (j : Int))] 37)).ownsRow wT.heap.size 3 1 (.slice (some ⟨gx, 0, none⟩) (q + 3) cx) (q + 3) ((spare l).map intV)) := owns_under XR.out hbal
        have hbb : Hid (Below wT.heap.size wT (wh11.alloc (.cells #[.slice avr 2 cvr, .slice agwh11 (2 + 2) cgwh11, .int .i64 (7 + 10 * (j : Int))] 37))) := hb.out.alloc hs0 _
        have fin : Hid (∀ w8, (wh11.alloc (.cells #[.slice avr 2 cvr, .slice agwh11 (2 + 2) cgwh11, .int .i64 (7 + 10 * (j : Int))] 37)).grownBy w8 (Value.slice (some ⟨gwp8, 0, none⟩) (4 * j + 1 + 1 + 1) cpwp8).ownBlock → AllStand wT.heap.size w8 ((((rs ++ [(Value.slice avj q cvj, Value.slice agwh1 (q + 2) cgwh1, -1000 - 10 * (j : Int))]) ++ [(Value.slice avv qv cvv, Value.slice agwh4 (qv + 2) cgwh4, -1003 - 10 * (j : Int))]) ++ [(Value.slice avl (q + 1) cvl, Value.slice agwh7 ((q + 1) + 2) cgwh7, -1006 - 10 * (j : Int))]) ++ [(Value.slice avr 2 cvr, Value.slice agwh11 (2 + 2) cgwh11, 7 + 10 * (j : Int))]) ∧ w8.ownsRow wT.heap.size 3 1 (.slice (some ⟨gx, 0, none⟩) (q + 3) cx) (q + 3) ((spare l).map intV) ∧ Below wT.heap.size wT w8) := fun w8 hg8 => ⟨ASb.out.grown ARb.out hg8, owns_same XRb.out fun g e => hg8.block g (own_low XRb.out g e) fun e' => kinds_apart ARb.out XRb.out (by decide) g e e'.symm, hbb.out.grown hg8 (by simp; omega) (own_ge ARb.out)⟩
        clear hbal ASb hbb NS AR AS hb XR XRb
        go_wp2_with (at_builtin; refine wpList_append_lies (wh11.alloc (.cells #[.slice avr 2 cvr, .slice agwh11 (2 + 2) cgwh11, .int .i64 (7 + 10 * (j : Int))] 37)) rfl _ _ _ rfl wT.heap.size 37 i0 _ 3 56 Tryd.underlying31 hi0 hz0 hz1 hz3 rfl (by omega) _ (4 * j + 1 + 1 + 1) (rowH (((rs ++ [(Value.slice avj q cvj, Value.slice agwh1 (q + 2) cgwh1, -1000 - 10 * (j : Int))]) ++ [(Value.slice avv qv cvv, Value.slice agwh4 (qv + 2) cgwh4, -1003 - 10 * (j : Int))]) ++ [(Value.slice avl (q + 1) cvl, Value.slice agwh7 ((q + 1) + 2) cgwh7, -1006 - 10 * (j : Int))])) (by rfl) (by exact ARb.out) ⟨wh11.heap.size, 0, none⟩ 1 1 [.slice avr 2 cvr, .slice agwh11 (2 + 2) cgwh11, .int .i64 (7 + 10 * (j : Int))] (by rfl) (by rfl) (World.news_of_block (cs := #[.slice avr 2 cvr, .slice agwh11 (2 + 2) cgwh11, .int .i64 (7 + 10 * (j : Int))]) (t := 37) (fr := (0, 0)) (heap_alloc_new wh11 _)) (by simp [Value.oneCell']) (by omega) (by unfold maxLen; omega) (by omega) (by simp; omega) _ rfl ?_; intro gwp12 cpwp12 wp12 hown8 hgrow8 hat8 hlt8; have AR0 : Hid _ := hown8; have FIN : Hid _ := fin.out wp12 hgrow8; clear hown8 hgrow8 hat8 hlt8 fin ARb)
        have AR : Hid (wp12.ownsRow wT.heap.size 37 3 (.slice (some ⟨gwp12, 0, none⟩) (4 * j + 1 + 1 + 1 + 1) cpwp12) (4 * j + 1 + 1 + 1 + 1) (rowH ((((rs ++ [(Value.slice avj q cvj, Value.slice agwh1 (q + 2) cgwh1, -1000 - 10 * (j : Int))]) ++ [(Value.slice avv qv cvv, Value.slice agwh4 (qv + 2) cgwh4, -1003 - 10 * (j : Int))]) ++ [(Value.slice avl (q + 1) cvl, Value.slice agwh7 ((q + 1) + 2) cgwh7, -1006 - 10 * (j : Int))]) ++ [(Value.slice avr 2 cvr, Value.slice agwh11 (2 + 2) cgwh11, 7 + 10 * (j : Int))]))) := by show World.ownsRow _ _ _ _ _ _ _; rw [rowH_snoc]; exact AR0.out
        have AS : Hid (AllStand wT.heap.size wp12 ((((rs ++ [(Value.slice avj q cvj, Value.slice agwh1 (q + 2) cgwh1, -1000 - 10 * (j : Int))]) ++ [(Value.slice avv qv cvv, Value.slice agwh4 (qv + 2) cgwh4, -1003 - 10 * (j : Int))]) ++ [(Value.slice avl (q + 1) cvl, Value.slice agwh7 ((q + 1) + 2) cgwh7, -1006 - 10 * (j : Int))]) ++ [(Value.slice avr 2 cvr, Value.slice agwh11 (2 + 2) cgwh11, 7 + 10 * (j : Int))])) := FIN.out.1
        have hb : Hid (Below wT.heap.size wT wp12) := FIN.out.2.2
        have XR : Hid (wp12.ownsRow wT.heap.size 3 1 (.slice (some ⟨gx, 0, none⟩) (q + 3) cx) (q + 3) ((spare l).map intV)) := FIN.out.2.1
        clear FIN AR0 hs0
        clear ZB mm2 mm
        have RL2 : Hid (((((rs ++ [(Value.slice avj q cvj, Value.slice agwh1 (q + 2) cgwh1, -1000 - 10 * (j : Int))]) ++ [(Value.slice avv qv cvv, Value.slice agwh4 (qv + 2) cgwh4, -1003 - 10 * (j : Int))]) ++ [(Value.slice avl (q + 1) cvl, Value.slice agwh7 ((q + 1) + 2) cgwh7, -1006 - 10 * (j : Int))]) ++ [(Value.slice avr 2 cvr, Value.slice agwh11 (2 + 2) cgwh11, 7 + 10 * (j : Int))]).length = 4 * j + 4) := by show _ = _; simp [RL.out]
        obtain ⟨rt, hrt⟩ : ∃ zz, ((((rs ++ [(Value.slice avj q cvj, Value.slice agwh1 (q + 2) cgwh1, -1000 - 10 * (j : Int))]) ++ [(Value.slice avv qv cvv, Value.slice agwh4 (qv + 2) cgwh4, -1003 - 10 * (j : Int))]) ++ [(Value.slice avl (q + 1) cvl, Value.slice agwh7 ((q + 1) + 2) cgwh7, -1006 - 10 * (j : Int))]) ++ [(Value.slice avr 2 cvr, Value.slice agwh11 (2 + 2) cgwh11, 7 + 10 * (j : Int))]) = zz := ⟨_, rfl⟩
        rw [hrt] at RL2 AR AS
        clear hrt
        go_wp2_with fail
        go_loopw [18] (fun i wx => ∃ t : Nat, t ≤ 4 * j + 4 ∧ i = .int .i64 t ∧ Hid (Below wp12.heap.size wp12 wx)) (fun i _ => 4 * j + 4 - (intOf i).toNat)
        case atStart => exact ⟨0, Nat.zero_le _, rfl, Below.refl _ _⟩
        case round =>
          obtain ⟨t, ht, rfl, hbt⟩ := hrel
          by_cases hlt2 : t < 4 * j + 4
          · have n2 : (t : Int) < ((4 * j + 1 + 1 + 1 + 1 : Nat) : Int) := by omega
            obtain ⟨⟨L9, G9, m9⟩, hr9⟩ : ∃ r, rt[t]? = some r := ⟨rt[t]'(by rw [RL2.out]; exact hlt2), List.getElem?_eq_getElem _⟩
            obtain ⟨hm1, hm2, q9, hq9, hst9⟩ := AS.out _ (List.mem_of_getElem? hr9)
            have hst9 : Stands wT.heap.size wp12 L9 G9 q9 m9 := hst9
            have hm1 : -4000000000 ≤ m9 := hm1
            have hm2 : m9 ≤ 4000000000 := hm2
            obtain ⟨al9, cl9, rfl, _⟩ := own_shape hst9.1
            obtain ⟨ag9, cg9, rfl, _⟩ := own_shape hst9.2
            obtain ⟨r0, r1, r2⟩ := rowH_at rt t _ hr9
            have ARt := owns_under AR.out hbt.out
            have d0 : wr.cell? ⟨gwp12, t * 3, none⟩ = some (.slice al9 q9 cl9) := row_cells ARt _ _ r0
            have d1 : wr.cell? ⟨gwp12, t * 3 + 1, none⟩ = some (.slice ag9 (q9 + 2) cg9) := row_cells ARt _ _ r1
            have d2 : wr.cell? ⟨gwp12, t * 3 + 2, none⟩ = some (.int .i64 m9) := row_cells ARt _ _ r2
            have SC : Hid _ := stands_any wr (.slice al9 q9 cl9) (.slice ag9 (q9 + 2) cg9) q9 m9 wT.heap.size (by omega) (by omega) (by omega) (hst9.under hbt.out)
            clear hr9 hst9 r0 r1 r2 ARt
            go_wp2_with fail
            refine Calls.mono SC.out ?_
            rintro e w9 ⟨rfl, hb9⟩
            have HB9 : Hid (Below wp12.heap.size wp12 w9) := hbt.out.trans (hb9.mono hbt.out.size)
            clear SC hb9
            go_wp2
            exact ⟨⟨t + 1, by omega, by go_num, HB9.out⟩, by simp [intOf]; omega⟩
          · have n2 : ¬ (t : Int) < ((4 * j + 1 + 1 + 1 + 1 : Nat) : Int) := by omega
            have hb9 : Hid (Below wT.heap.size wT wr) := hb.out.trans (hbt.out.mono hb.out.size)
            have AR9 : Hid (wr.ownsRow wT.heap.size 37 3 (.slice (some ⟨gwp12, 0, none⟩) (4 * j + 1 + 1 + 1 + 1) cpwp12) (4 * j + 1 + 1 + 1 + 1) (rowH rt)) := owns_under AR.out hbt.out
            have AS9 : Hid (AllStand wT.heap.size wr rt) := AS.out.under hbt.out
            go_wp2
            exact ⟨⟨j + 1, _, _, rt, by omega, by go_num, rfl, by show _ = _; rw [RL2.out]; omega, AR9.out, AS9.out, hb9.out⟩, by simp [intOf]; omega⟩
      · rw [hfl, Hq.out] at hle
        have f1 : ¬ (q : Int) ≤ 200 := by omega
        have HBJ : Hid _ := hbj
        clear CALL h3 hal hbj hfl
        have mm0 : IntKind.i64.wrap (10 * (j : Int)) = 10 * (j : Int) := IntWalk.i64_in _ (by omega)
        have mm2 : IntKind.i64.wrap (-1000 - 10 * (j : Int)) = -1000 - 10 * (j : Int) := IntWalk.i64_in _ (by omega)
        go_wp2_with fail
        have hbq := HBJ.out
        clear HBJ
        have hoj : w3.ownsRow w2.heap.size 3 1 (.slice none 0 0) 0 [] := World.ownsRow_nil _ _ _ _
        have CALL : Hid _ := handed_any w3 (.slice none 0 0) 0 [] (-1000 - 10 * (j : Int)) w2.heap.size (by omega) (by omega) (by omega) hoj hbq.size
        refine Calls.mono CALL.out ?_
        rintro e wh101 ⟨hbh, Gwh101, rfl, hst⟩
        have hbn : Below w2.heap.size w2 wh101 := hbq.trans hbh
        replace hb : Hid (Below wT.heap.size wT wh101) := hb.out.trans (hbn.mono hb.out.size)
        replace AR : Hid (wh101.ownsRow wT.heap.size 37 3 (.slice aa (4 * j) ca) (4 * j) (rowH rs)) := owns_under AR.out hbn
        replace AS : Hid (AllStand wT.heap.size wh101 rs) := AS.out.under hbn
        replace XR : Hid (wh101.ownsRow wT.heap.size 3 1 (.slice (some ⟨gx, 0, none⟩) (q + 3) cx) (q + 3) ((spare l).map intV)) := owns_under XR.out hbn
        obtain ⟨agwh101, cgwh101, hGe, _⟩ := own_shape hst.2
        subst hGe
        have NS : Hid (Stands wT.heap.size wh101 (.slice none 0 0) (.slice agwh101 (0 + 2) cgwh101) 0 (-1000 - 10 * (j : Int))) := hst.down ZB
        clear CALL hbh hbn hst hbq hoj
        have hs0 : wT.heap.size ≤ wh101.heap.size := hb.out.size
        have ARb : Hid ((wh101.alloc (.cells #[.slice none 0 0, .slice agwh101 (0 + 2) cgwh101, .int .i64 (-1000 - 10 * (j : Int))] 37)).ownsRow wT.heap.size 37 3 (.slice aa (4 * j) ca) (4 * j) (rowH rs)) := AR.out.alloc _
        have hbal : Below wh101.heap.size wh101 (wh101.alloc (.cells #[.slice none 0 0, .slice agwh101 (0 + 2) cgwh101, .int .i64 (-1000 - 10 * (j : Int))] 37)) := (Below.refl _ _).alloc (Nat.le_refl _) _
        have ASb : Hid (AllStand wT.heap.size (wh101.alloc (.cells #[.slice none 0 0, .slice agwh101 (0 + 2) cgwh101, .int .i64 (-1000 - 10 * (j : Int))] 37)) (rs ++ [(Value.slice none 0 0, Value.slice agwh101 (0 + 2) cgwh101, -1000 - 10 * (j : Int))])) := (AS.out.snoc (by omega) (by omega) (by omega) NS.out).under hbal
        have XRb : Hid ((wh101.alloc (.cells #[.slice none 0 0, .slice agwh101 (0 + 2) cgwh101, .int .i64 (-1000 - 10 * (j : Int))] 37)).ownsRow wT.heap.size 3 1 (.slice (some ⟨gx, 0, none⟩) (q + 3) cx) (q + 3) ((spare l).map intV)) := owns_under XR.out hbal
        have hbb : Hid (Below wT.heap.size wT (wh101.alloc (.cells #[.slice none 0 0, .slice agwh101 (0 + 2) cgwh101, .int .i64 (-1000 - 10 * (j : Int))] 37))) := hb.out.alloc hs0 _
        have fin : Hid (∀ w8, (wh101.alloc (.cells #[.slice none 0 0, .slice agwh101 (0 + 2) cgwh101, .int .i64 (-1000 - 10 * (j : Int))] 37)).grownBy w8 (Value.slice aa (4 * j) ca).ownBlock → AllStand wT.heap.size w8 (rs ++ [(Value.slice none 0 0, Value.slice agwh101 (0 + 2) cgwh101, -1000 - 10 * (j : Int))]) ∧ w8.ownsRow wT.heap.size 3 1 (.slice (some ⟨gx, 0, none⟩) (q + 3) cx) (q + 3) ((spare l).map intV) ∧ Below wT.heap.size wT w8) := fun w8 hg8 => ⟨ASb.out.grown ARb.out hg8, owns_same XRb.out fun g e => hg8.block g (own_low XRb.out g e) fun e' => kinds_apart ARb.out XRb.out (by decide) g e e'.symm, hbb.out.grown hg8 (by simp; omega) (own_ge ARb.out)⟩
        clear hbal ASb hbb NS AR AS hb XR XRb
        go_wp2_with (at_builtin; refine wpList_append_lies (wh101.alloc (.cells #[.slice none 0 0, .slice agwh101 (0 + 2) cgwh101, .int .i64 (-1000 - 10 * (j : Int))] 37)) rfl _ _ _ rfl wT.heap.size 37 i0 _ 3 56 Tryd.underlying31 hi0 hz0 hz1 hz3 rfl (by omega) _ (4 * j) (rowH rs) (by rfl) (by exact ARb.out) ⟨wh101.heap.size, 0, none⟩ 1 1 [.slice none 0 0, .slice agwh101 (0 + 2) cgwh101, .int .i64 (-1000 - 10 * (j : Int))] (by rfl) (by rfl) (World.news_of_block (cs := #[.slice none 0 0, .slice agwh101 (0 + 2) cgwh101, .int .i64 (-1000 - 10 * (j : Int))]) (t := 37) (fr := (0, 0)) (heap_alloc_new wh101 _)) (by simp [Value.oneCell']) (by omega) (by unfold maxLen; omega) (by omega) (by simp; omega) _ rfl ?_; intro gwp102 cpwp102 wp102 hown8 hgrow8 hat8 hlt8; have AR0 : Hid _ := hown8; have FIN : Hid _ := fin.out wp102 hgrow8; clear hown8 hgrow8 hat8 hlt8 fin ARb)
        have AR : Hid (wp102.ownsRow wT.heap.size 37 3 (.slice (some ⟨gwp102, 0, none⟩) (4 * j + 1) cpwp102) (4 * j + 1) (rowH (rs ++ [(Value.slice none 0 0, Value.slice agwh101 (0 + 2) cgwh101, -1000 - 10 * (j : Int))]))) := by show World.ownsRow _ _ _ _ _ _ _; rw [rowH_snoc]; exact AR0.out
        have AS : Hid (AllStand wT.heap.size wp102 (rs ++ [(Value.slice none 0 0, Value.slice agwh101 (0 + 2) cgwh101, -1000 - 10 * (j : Int))])) := FIN.out.1
        have hb : Hid (Below wT.heap.size wT wp102) := FIN.out.2.2
        have XR : Hid (wp102.ownsRow wT.heap.size 3 1 (.slice (some ⟨gx, 0, none⟩) (q + 3) cx) (q + 3) ((spare l).map intV)) := FIN.out.2.1
        clear FIN AR0 hs0
        clear ZB mm2
        obtain ⟨vi, vc⟩ := VI.out _ hb.out
        have ZB : wT.heap.size ≤ wp102.heap.size := hb.out.size
        go_wp2_with fail
        have CALL : Hid _ := varsO_any wp102 (some ⟨gx, 0, none⟩) cx l vs q B0 nv cv av Hq.out (by omega) (IntsAt.front (m := [-71, -72, -73]) (XI.out _ XR.out)) vc HVl.out (by omega) vi
        clear vi vc
        refine Calls.mono CALL.out ?_
        rintro e wv103 ⟨hbq, vv, qv, xv, rfl, hov, hqv⟩
        obtain ⟨avv, cvv, hve, _⟩ := own_shape hov
        subst hve
        clear CALL
        have mm : IntKind.i64.wrap (10 * (j : Int)) = 10 * (j : Int) := IntWalk.i64_in _ (by omega)
        have mm2 : IntKind.i64.wrap (-1003 - 10 * (j : Int)) = -1003 - 10 * (j : Int) := IntWalk.i64_in _ (by omega)
        have HOV : Hid _ := hov
        have HBQ : Hid _ := hbq
        clear hov hbq
        go_wp2_with fail
        have hov := HOV.out
        have hbq := HBQ.out
        clear HOV HBQ
        have CALL : Hid _ := handed_any wv103 (.slice avv qv cvv) qv xv (-1003 - 10 * (j : Int)) wp102.heap.size (by omega) (by omega) (by omega) hov hbq.size
        refine Calls.mono CALL.out ?_
        rintro e wh104 ⟨hbh, Gwh104, rfl, hst⟩
        have hbn : Below wp102.heap.size wp102 wh104 := hbq.trans hbh
        replace hb : Hid (Below wT.heap.size wT wh104) := hb.out.trans (hbn.mono hb.out.size)
        replace AR : Hid (wh104.ownsRow wT.heap.size 37 3 (.slice (some ⟨gwp102, 0, none⟩) (4 * j + 1) cpwp102) (4 * j + 1) (rowH (rs ++ [(Value.slice none 0 0, Value.slice agwh101 (0 + 2) cgwh101, -1000 - 10 * (j : Int))]))) := owns_under AR.out hbn
        replace AS : Hid (AllStand wT.heap.size wh104 (rs ++ [(Value.slice none 0 0, Value.slice agwh101 (0 + 2) cgwh101, -1000 - 10 * (j : Int))])) := AS.out.under hbn
        replace XR : Hid (wh104.ownsRow wT.heap.size 3 1 (.slice (some ⟨gx, 0, none⟩) (q + 3) cx) (q + 3) ((spare l).map intV)) := owns_under XR.out hbn
        obtain ⟨agwh104, cgwh104, hGe, _⟩ := own_shape hst.2
        subst hGe
        have NS : Hid (Stands wT.heap.size wh104 (.slice avv qv cvv) (.slice agwh104 (qv + 2) cgwh104) qv (-1003 - 10 * (j : Int))) := hst.down ZB
        clear CALL hbh hbn hst hbq hov
        have hs0 : wT.heap.size ≤ wh104.heap.size := hb.out.size
        have ARb : Hid ((wh104.alloc (.cells #[.slice avv qv cvv, .slice agwh104 (qv + 2) cgwh104, .int .i64 (-1003 - 10 * (j : Int))] 37)).ownsRow wT.heap.size 37 3 (.slice (some ⟨gwp102, 0, none⟩) (4 * j + 1) cpwp102) (4 * j + 1) (rowH (rs ++ [(Value.slice none 0 0, Value.slice agwh101 (0 + 2) cgwh101, -1000 - 10 * (j : Int))]))) := AR.out.alloc _
        have hbal : Below wh104.heap.size wh104 (wh104.alloc (.cells #[.slice avv qv cvv, .slice agwh104 (qv + 2) cgwh104, .int .i64 (-1003 - 10 * (j : Int))] 37)) := (Below.refl _ _).alloc (Nat.le_refl _) _
        have ASb : Hid (AllStand wT.heap.size (wh104.alloc (.cells #[.slice avv qv cvv, .slice agwh104 (qv + 2) cgwh104, .int .i64 (-1003 - 10 * (j : Int))] 37)) ((rs ++ [(Value.slice none 0 0, Value.slice agwh101 (0 + 2) cgwh101, -1000 - 10 * (j : Int))]) ++ [(Value.slice avv qv cvv, Value.slice agwh104 (qv + 2) cgwh104, -1003 - 10 * (j : Int))])) := (AS.out.snoc (by omega) (by omega) (by omega) NS.out).under hbal
        have XRb : Hid ((wh104.alloc (.cells #[.slice avv qv cvv, .slice agwh104 (qv + 2) cgwh104, .int .i64 (-1003 - 10 * (j : Int))] 37)).ownsRow wT.heap.size 3 1 (.slice (some ⟨gx, 0, none⟩) (q + 3) cx) (q + 3) ((spare l).map intV)) := owns_under XR.out hbal
        have hbb : Hid (Below wT.heap.size wT (wh104.alloc (.cells #[.slice avv qv cvv, .slice agwh104 (qv + 2) cgwh104, .int .i64 (-1003 - 10 * (j : Int))] 37))) := hb.out.alloc hs0 _
        have fin : Hid (∀ w8, (wh104.alloc (.cells #[.slice avv qv cvv, .slice agwh104 (qv + 2) cgwh104, .int .i64 (-1003 - 10 * (j : Int))] 37)).grownBy w8 (Value.slice (some ⟨gwp102, 0, none⟩) (4 * j + 1) cpwp102).ownBlock → AllStand wT.heap.size w8 ((rs ++ [(Value.slice none 0 0, Value.slice agwh101 (0 + 2) cgwh101, -1000 - 10 * (j : Int))]) ++ [(Value.slice avv qv cvv, Value.slice agwh104 (qv + 2) cgwh104, -1003 - 10 * (j : Int))]) ∧ w8.ownsRow wT.heap.size 3 1 (.slice (some ⟨gx, 0, none⟩) (q + 3) cx) (q + 3) ((spare l).map intV) ∧ Below wT.heap.size wT w8) := fun w8 hg8 => ⟨ASb.out.grown ARb.out hg8, owns_same XRb.out fun g e => hg8.block g (own_low XRb.out g e) fun e' => kinds_apart ARb.out XRb.out (by decide) g e e'.symm, hbb.out.grown hg8 (by simp; omega) (own_ge ARb.out)⟩
        clear hbal ASb hbb NS AR AS hb XR XRb
        go_wp2_with (at_builtin; refine wpList_append_lies (wh104.alloc (.cells #[.slice avv qv cvv, .slice agwh104 (qv + 2) cgwh104, .int .i64 (-1003 - 10 * (j : Int))] 37)) rfl _ _ _ rfl wT.heap.size 37 i0 _ 3 56 Tryd.underlying31 hi0 hz0 hz1 hz3 rfl (by omega) _ (4 * j + 1) (rowH (rs ++ [(Value.slice none 0 0, Value.slice agwh101 (0 + 2) cgwh101, -1000 - 10 * (j : Int))])) (by rfl) (by exact ARb.out) ⟨wh104.heap.size, 0, none⟩ 1 1 [.slice avv qv cvv, .slice agwh104 (qv + 2) cgwh104, .int .i64 (-1003 - 10 * (j : Int))] (by rfl) (by rfl) (World.news_of_block (cs := #[.slice avv qv cvv, .slice agwh104 (qv + 2) cgwh104, .int .i64 (-1003 - 10 * (j : Int))]) (t := 37) (fr := (0, 0)) (heap_alloc_new wh104 _)) (by simp [Value.oneCell']) (by omega) (by unfold maxLen; omega) (by omega) (by simp; omega) _ rfl ?_; intro gwp105 cpwp105 wp105 hown8 hgrow8 hat8 hlt8; have AR0 : Hid _ := hown8; have FIN : Hid _ := fin.out wp105 hgrow8; clear hown8 hgrow8 hat8 hlt8 fin ARb)
        have AR : Hid (wp105.ownsRow wT.heap.size 37 3 (.slice (some ⟨gwp105, 0, none⟩) (4 * j + 1 + 1) cpwp105) (4 * j + 1 + 1) (rowH ((rs ++ [(Value.slice none 0 0, Value.slice agwh101 (0 + 2) cgwh101, -1000 - 10 * (j : Int))]) ++ [(Value.slice avv qv cvv, Value.slice agwh104 (qv + 2) cgwh104, -1003 - 10 * (j : Int))]))) := by show World.ownsRow _ _ _ _ _ _ _; rw [rowH_snoc]; exact AR0.out
        have AS : Hid (AllStand wT.heap.size wp105 ((rs ++ [(Value.slice none 0 0, Value.slice agwh101 (0 + 2) cgwh101, -1000 - 10 * (j : Int))]) ++ [(Value.slice avv qv cvv, Value.slice agwh104 (qv + 2) cgwh104, -1003 - 10 * (j : Int))])) := FIN.out.1
        have hb : Hid (Below wT.heap.size wT wp105) := FIN.out.2.2
        have XR : Hid (wp105.ownsRow wT.heap.size 3 1 (.slice (some ⟨gx, 0, none⟩) (q + 3) cx) (q + 3) ((spare l).map intV)) := FIN.out.2.1
        clear FIN AR0 hs0
        clear ZB mm2
        have ZB : wT.heap.size ≤ wp105.heap.size := hb.out.size
        go_wp2_with fail
        have CALL : Hid _ := places_any wp105 (some ⟨gx, 0, none⟩) none cx 0 l [] q 0 Hq.out rfl (by omega) (IntsAt.front (m := [-71, -72, -73]) (XI.out _ XR.out)) (fun i x hi => by simp at hi)
        refine Calls.mono CALL.out ?_
        rintro e wl106 ⟨vl, rfl, hol, hbq⟩
        rw [plc_nil, Hq.out] at hol
        obtain ⟨avl, cvl, hle2, _⟩ := own_shape hol
        subst hle2
        clear CALL
        have mm2 : IntKind.i64.wrap (-1006 - 10 * (j : Int)) = -1006 - 10 * (j : Int) := IntWalk.i64_in _ (by omega)
        have HOL : Hid _ := hol
        have HBQ : Hid _ := hbq
        clear hol hbq
        go_wp2_with fail
        have hol := HOL.out
        have hbq := HBQ.out
        clear HOL HBQ
        have CALL : Hid _ := handed_any wl106 (.slice avl (q + 1) cvl) (q + 1) _ (-1006 - 10 * (j : Int)) wp105.heap.size (by omega) (by omega) (by omega) hol hbq.size
        refine Calls.mono CALL.out ?_
        rintro e wh107 ⟨hbh, Gwh107, rfl, hst⟩
        have hbn : Below wp105.heap.size wp105 wh107 := hbq.trans hbh
        replace hb : Hid (Below wT.heap.size wT wh107) := hb.out.trans (hbn.mono hb.out.size)
        replace AR : Hid (wh107.ownsRow wT.heap.size 37 3 (.slice (some ⟨gwp105, 0, none⟩) (4 * j + 1 + 1) cpwp105) (4 * j + 1 + 1) (rowH ((rs ++ [(Value.slice none 0 0, Value.slice agwh101 (0 + 2) cgwh101, -1000 - 10 * (j : Int))]) ++ [(Value.slice avv qv cvv, Value.slice agwh104 (qv + 2) cgwh104, -1003 - 10 * (j : Int))]))) := owns_under AR.out hbn
        replace AS : Hid (AllStand wT.heap.size wh107 ((rs ++ [(Value.slice none 0 0, Value.slice agwh101 (0 + 2) cgwh101, -1000 - 10 * (j : Int))]) ++ [(Value.slice avv qv cvv, Value.slice agwh104 (qv + 2) cgwh104, -1003 - 10 * (j : Int))])) := AS.out.under hbn
        replace XR : Hid (wh107.ownsRow wT.heap.size 3 1 (.slice (some ⟨gx, 0, none⟩) (q + 3) cx) (q + 3) ((spare l).map intV)) := owns_under XR.out hbn
        obtain ⟨agwh107, cgwh107, hGe, _⟩ := own_shape hst.2
        subst hGe
        have NS : Hid (Stands wT.heap.size wh107 (.slice avl (q + 1) cvl) (.slice agwh107 ((q + 1) + 2) cgwh107) (q + 1) (-1006 - 10 * (j : Int))) := hst.down ZB
        clear CALL hbh hbn hst hbq hol
        have hs0 : wT.heap.size ≤ wh107.heap.size := hb.out.size
        have ARb : Hid ((wh107.alloc (.cells #[.slice avl (q + 1) cvl, .slice agwh107 ((q + 1) + 2) cgwh107, .int .i64 (-1006 - 10 * (j : Int))] 37)).ownsRow wT.heap.size 37 3 (.slice (some ⟨gwp105, 0, none⟩) (4 * j + 1 + 1) cpwp105) (4 * j + 1 + 1) (rowH ((rs ++ [(Value.slice none 0 0, Value.slice agwh101 (0 + 2) cgwh101, -1000 - 10 * (j : Int))]) ++ [(Value.slice avv qv cvv, Value.slice agwh104 (qv + 2) cgwh104, -1003 - 10 * (j : Int))]))) := AR.out.alloc _
        have hbal : Below wh107.heap.size wh107 (wh107.alloc (.cells #[.slice avl (q + 1) cvl, .slice agwh107 ((q + 1) + 2) cgwh107, .int .i64 (-1006 - 10 * (j : Int))] 37)) := (Below.refl _ _).alloc (Nat.le_refl _) _
        have ASb : Hid (AllStand wT.heap.size (wh107.alloc (.cells #[.slice avl (q + 1) cvl, .slice agwh107 ((q + 1) + 2) cgwh107, .int .i64 (-1006 - 10 * (j : Int))] 37)) (((rs ++ [(Value.slice none 0 0, Value.slice agwh101 (0 + 2) cgwh101, -1000 - 10 * (j : Int))]) ++ [(Value.slice avv qv cvv, Value.slice agwh104 (qv + 2) cgwh104, -1003 - 10 * (j : Int))]) ++ [(Value.slice avl (q + 1) cvl, Value.slice agwh107 ((q + 1) + 2) cgwh107, -1006 - 10 * (j : Int))])) := (AS.out.snoc (by omega) (by omega) (by omega) NS.out).under hbal
        have XRb : Hid ((wh107.alloc (.cells #[.slice avl (q + 1) cvl, .slice agwh107 ((q + 1) + 2) cgwh107, .int .i64 (-1006 - 10 * (j : Int))] 37)).ownsRow wT.heap.size 3 1 (.slice (some ⟨gx, 0, none⟩) (q + 3) cx) (q + 3) ((spare l).map intV)) := owns_under XR.out hbal
        have hbb : Hid (Below wT.heap.size wT (wh107.alloc (.cells #[.slice avl (q + 1) cvl, .slice agwh107 ((q + 1) + 2) cgwh107, .int .i64 (-1006 - 10 * (j : Int))] 37))) := hb.out.alloc hs0 _
        have fin : Hid (∀ w8, (wh107.alloc (.cells #[.slice avl (q + 1) cvl, .slice agwh107 ((q + 1) + 2) cgwh107, .int .i64 (-1006 - 10 * (j : Int))] 37)).grownBy w8 (Value.slice (some ⟨gwp105, 0, none⟩) (4 * j + 1 + 1) cpwp105).ownBlock → AllStand wT.heap.size w8 (((rs ++ [(Value.slice none 0 0, Value.slice agwh101 (0 + 2) cgwh101, -1000 - 10 * (j : Int))]) ++ [(Value.slice avv qv cvv, Value.slice agwh104 (qv + 2) cgwh104, -1003 - 10 * (j : Int))]) ++ [(Value.slice avl (q + 1) cvl, Value.slice agwh107 ((q + 1) + 2) cgwh107, -1006 - 10 * (j : Int))]) ∧ w8.ownsRow wT.heap.size 3 1 (.slice (some ⟨gx, 0, none⟩) (q + 3) cx) (q + 3) ((spare l).map intV) ∧ Below wT.heap.size wT w8) := fun w8 hg8 => ⟨ASb.out.grown ARb.out hg8, owns_same XRb.out fun g e => hg8.block g (own_low XRb.out g e) fun e' => kinds_apart ARb.out XRb.out (by decide) g e e'.symm, hbb.out.grown hg8 (by simp; omega) (own_ge ARb.out)⟩
        clear hbal ASb hbb NS AR AS hb XR XRb
        go_wp2_with (at_builtin; refine wpList_append_lies (wh107.alloc (.cells #[.slice avl (q + 1) cvl, .slice agwh107 ((q + 1) + 2) cgwh107, .int .i64 (-1006 - 10 * (j : Int))] 37)) rfl _ _ _ rfl wT.heap.size 37 i0 _ 3 56 Tryd.underlying31 hi0 hz0 hz1 hz3 rfl (by omega) _ (4 * j + 1 + 1) (rowH ((rs ++ [(Value.slice none 0 0, Value.slice agwh101 (0 + 2) cgwh101, -1000 - 10 * (j : Int))]) ++ [(Value.slice avv qv cvv, Value.slice agwh104 (qv + 2) cgwh104, -1003 - 10 * (j : Int))])) (by rfl) (by exact ARb.out) ⟨wh107.heap.size, 0, none⟩ 1 1 [.slice avl (q + 1) cvl, .slice agwh107 ((q + 1) + 2) cgwh107, .int .i64 (-1006 - 10 * (j : Int))] (by rfl) (by rfl) (World.news_of_block (cs := #[.slice avl (q + 1) cvl, .slice agwh107 ((q + 1) + 2) cgwh107, .int .i64 (-1006 - 10 * (j : Int))]) (t := 37) (fr := (0, 0)) (heap_alloc_new wh107 _)) (by simp [Value.oneCell']) (by omega) (by unfold maxLen; omega) (by omega) (by simp; omega) _ rfl ?_; intro gwp108 cpwp108 wp108 hown8 hgrow8 hat8 hlt8; have AR0 : Hid _ := hown8; have FIN : Hid _ := fin.out wp108 hgrow8; clear hown8 hgrow8 hat8 hlt8 fin ARb)
        have AR : Hid (wp108.ownsRow wT.heap.size 37 3 (.slice (some ⟨gwp108, 0, none⟩) (4 * j + 1 + 1 + 1) cpwp108) (4 * j + 1 + 1 + 1) (rowH (((rs ++ [(Value.slice none 0 0, Value.slice agwh101 (0 + 2) cgwh101, -1000 - 10 * (j : Int))]) ++ [(Value.slice avv qv cvv, Value.slice agwh104 (qv + 2) cgwh104, -1003 - 10 * (j : Int))]) ++ [(Value.slice avl (q + 1) cvl, Value.slice agwh107 ((q + 1) + 2) cgwh107, -1006 - 10 * (j : Int))]))) := by show World.ownsRow _ _ _ _ _ _ _; rw [rowH_snoc]; exact AR0.out
        have AS : Hid (AllStand wT.heap.size wp108 (((rs ++ [(Value.slice none 0 0, Value.slice agwh101 (0 + 2) cgwh101, -1000 - 10 * (j : Int))]) ++ [(Value.slice avv qv cvv, Value.slice agwh104 (qv + 2) cgwh104, -1003 - 10 * (j : Int))]) ++ [(Value.slice avl (q + 1) cvl, Value.slice agwh107 ((q + 1) + 2) cgwh107, -1006 - 10 * (j : Int))])) := FIN.out.1
        have hb : Hid (Below wT.heap.size wT wp108) := FIN.out.2.2
        have XR : Hid (wp108.ownsRow wT.heap.size 3 1 (.slice (some ⟨gx, 0, none⟩) (q + 3) cx) (q + 3) ((spare l).map intV)) := FIN.out.2.1
        clear FIN AR0 hs0
        clear ZB mm2
        have ZB : wT.heap.size ≤ wp108.heap.size := hb.out.size
        go_wp2_with fail
        have hal : Below wp108.heap.size wp108 (wp108.alloc (.cells #[.string ⟨#[99]⟩, .string ⟨#[99]⟩] 9)) := (Below.refl _ _).alloc (Nat.le_refl _) _
        have CALL : Hid _ := readT_any (wp108.alloc (.cells #[.string ⟨#[99]⟩, .string ⟨#[99]⟩] 9)) bs' BT 2 (actT (addT tab0 cB false) 0) (some ⟨wp108.heap.size, 0, none⟩) 2 2 [cB, cB] rfl (by omega) (fun s hs => by simp at hs; rw [hs]; decide) (TI.out _ (hb.out.trans (hal.mono hb.out.size))) (fun i s hi => by
          obtain ⟨b9, o9, e9, c9⟩ := row_new wp108 [.string cB, .string cB] 9 _ rfl i (.string s) (by rw [show ([Value.string cB, Value.string cB] : List Value) = [cB, cB].map Value.string from rfl, List.getElem?_map, hi]; rfl)
          exact ⟨b9, o9, e9, c9⟩)
        refine Calls.mono CALL.out ?_
        rintro e wd109 ⟨hbr, h4 | ⟨i4, s4, h5, h6, h7⟩⟩
        case inr =>
          exfalso
          have e4 : i4 < 2 := (List.getElem?_eq_some_iff.1 h5).1
          have e5 : s4 = cB := by
            have := List.mem_of_getElem? h5
            simpa using this
          rcases h7 with ⟨h8, _⟩ | ⟨_, h8, _⟩
          · omega
          · rw [e5, tabC_act] at h8
            cases h8
        obtain ⟨_, ns, vr, hnl, _, rfl, hor⟩ := h4
        have hbq : Below wp108.heap.size wp108 wd109 := hal.trans (hbr.mono hal.size)
        have hor2 : wd109.ownsRow wp108.heap.size 3 1 vr 2 (ns.map intV) := owns_down hor (by simp)
        obtain ⟨avr, cvr, hre, _⟩ := own_shape hor2
        subst hre
        have HOR : Hid _ := hor2
        have HBQ : Hid _ := hbq
        have hbt : Below wT.heap.size wT wd109 := hb.out.trans (hbq.mono hb.out.size)
        have pc := PC.out _ hbt
        have UT : Hid _ := untouched_any wd109 gx cx a1 c1 l q Hq.out (by omega) (by omega) (XI.out _ (owns_under XR.out hbq)) (LI.out _ hbt)
        clear CALL hal hbr hor hor2 hbq hnl hbt
        go_wp2_with fail
        refine Calls.mono UT.out ?_
        rintro e w' ⟨rfl, d9, hw9⟩
        subst w'
        clear UT pc
        have hbq : Below wp108.heap.size wp108 (wd109.drewN d9) := HBQ.out.trans ⟨rfl, rfl, rfl, Nat.le_refl _, fun _ _ => rfl⟩
        have hor2 : (wd109.drewN d9).ownsRow wp108.heap.size 3 1 (.slice avr 2 cvr) 2 (ns.map intV) := HOR.out
        clear HOR HBQ
        generalize wd109.drewN d9 = wu110 at *
        have mm2 : IntKind.i64.wrap (7 + 10 * (j : Int)) = 7 + 10 * (j : Int) := IntWalk.i64_in _ (by omega)
        have HOR : Hid _ := hor2
        have HBQ : Hid _ := hbq
        clear hor2 hbq
        go_wp2_with fail
        have hor := HOR.out
        have hbq := HBQ.out
        clear HOR HBQ
        have CALL : Hid _ := handed_any wu110 (.slice avr 2 cvr) 2 _ (7 + 10 * (j : Int)) wp108.heap.size (by omega) (by omega) (by omega) hor hbq.size
        refine Calls.mono CALL.out ?_
        rintro e wh111 ⟨hbh, Gwh111, rfl, hst⟩
        have hbn : Below wp108.heap.size wp108 wh111 := hbq.trans hbh
        replace hb : Hid (Below wT.heap.size wT wh111) := hb.out.trans (hbn.mono hb.out.size)
        replace AR : Hid (wh111.ownsRow wT.heap.size 37 3 (.slice (some ⟨gwp108, 0, none⟩) (4 * j + 1 + 1 + 1) cpwp108) (4 * j + 1 + 1 + 1) (rowH (((rs ++ [(Value.slice none 0 0, Value.slice agwh101 (0 + 2) cgwh101, -1000 - 10 * (j : Int))]) ++ [(Value.slice avv qv cvv, Value.slice agwh104 (qv + 2) cgwh104, -1003 - 10 * (j : Int))]) ++ [(Value.slice avl (q + 1) cvl, Value.slice agwh107 ((q + 1) + 2) cgwh107, -1006 - 10 * (j : Int))]))) := owns_under AR.out hbn
        replace AS : Hid (AllStand wT.heap.size wh111 (((rs ++ [(Value.slice none 0 0, Value.slice agwh101 (0 + 2) cgwh101, -1000 - 10 * (j : Int))]) ++ [(Value.slice avv qv cvv, Value.slice agwh104 (qv + 2) cgwh104, -1003 - 10 * (j : Int))]) ++ [(Value.slice avl (q + 1) cvl, Value.slice agwh107 ((q + 1) + 2) cgwh107, -1006 - 10 * (j : Int))])) := AS.out.under hbn
        replace XR : Hid (wh111.ownsRow wT.heap.size 3 1 (.slice (some ⟨gx, 0, none⟩) (q + 3) cx) (q + 3) ((spare l).map intV)) := owns_under XR.out hbn
        obtain ⟨agwh111, cgwh111, hGe, _⟩ := own_shape hst.2
        subst hGe
        have NS : Hid (Stands wT.heap.size wh111 (.slice avr 2 cvr) (.slice agwh111 (2 + 2) cgwh111) 2 (7 + 10 * (j : Int))) := hst.down ZB
        clear CALL hbh hbn hst hbq hor
        have hs0 : wT.heap.size ≤ wh111.heap.size := hb.out.size
        have ARb : Hid ((wh111.alloc (.cells #[.slice avr 2 cvr, .slice agwh111 (2 + 2) cgwh111, .int .i64 (7 + 10 * (j : Int))] 37)).ownsRow wT.heap.size 37 3 (.slice (some ⟨gwp108, 0, none⟩) (4 * j + 1 + 1 + 1) cpwp108) (4 * j + 1 + 1 + 1) (rowH (((rs ++ [(Value.slice none 0 0, Value.slice agwh101 (0 + 2) cgwh101, -1000 - 10 * (j : Int))]) ++ [(Value.slice avv qv cvv, Value.slice agwh104 (qv + 2) cgwh104, -1003 - 10 * (j : Int))]) ++ [(Value.slice avl (q + 1) cvl, Value.slice agwh107 ((q + 1) + 2) cgwh107, -1006 - 10 * (j : Int))]))) := AR.out.alloc _
        have hbal : Below wh111.heap.size wh111 (wh111.alloc (.cells #[.slice avr 2 cvr, .slice agwh111 (2 + 2) cgwh111, .int .i64 (7 + 10 * (j : Int))] 37)) := (Below.refl _ _).alloc (Nat.le_refl _) _
        have ASb : Hid (AllStand wT.heap.size (wh111.alloc (.cells #[.slice avr 2 cvr, .slice agwh111 (2 + 2) cgwh111, .int .i64 (7 + 10 * (j : Int))] 37)) ((((rs ++ [(Value.slice none 0 0, Value.slice agwh101 (0 + 2) cgwh101, -1000 - 10 * (j : Int))]) ++ [(Value.slice avv qv cvv, Value.slice agwh104 (qv + 2) cgwh104, -1003 - 10 * (j : Int))]) ++ [(Value.slice avl (q + 1) cvl, Value.slice agwh107 ((q + 1) + 2) cgwh107, -1006 - 10 * (j : Int))]) ++ [(Value.slice avr 2 cvr, Value.slice agwh111 (2 + 2) cgwh111, 7 + 10 * (j : Int))])) := (AS.out.snoc (by omega) (by omega) (by omega) NS.out).under hbal
        have XRb : Hid ((wh111.alloc (.cells #[.slice avr 2 cvr, .slice agwh111 (2 + 2) cgwh111, .int .i64 (7 + 10 * (j : Int))] 37)).ownsRow wT.heap.size 3 1 (.slice (some ⟨gx, 0, none⟩) (q + 3) cx) (q + 3) ((spare l).map intV)) := owns_under XR.out hbal
        have hbb : Hid (Below wT.heap.size wT (wh111.alloc (.cells #[.slice avr 2 cvr, .slice agwh111 (2 + 2) cgwh111, .int .i64 (7 + 10 * (j : Int))] 37))) := hb.out.alloc hs0 _
        have fin : Hid (∀ w8, (wh111.alloc (.cells #[.slice avr 2 cvr, .slice agwh111 (2 + 2) cgwh111, .int .i64 (7 + 10 * (j : Int))] 37)).grownBy w8 (Value.slice (some ⟨gwp108, 0, none⟩) (4 * j + 1 + 1 + 1) cpwp108).ownBlock → AllStand wT.heap.size w8 ((((rs ++ [(Value.slice none 0 0, Value.slice agwh101 (0 + 2) cgwh101, -1000 - 10 * (j : Int))]) ++ [(Value.slice avv qv cvv, Value.slice agwh104 (qv + 2) cgwh104, -1003 - 10 * (j : Int))]) ++ [(Value.slice avl (q + 1) cvl, Value.slice agwh107 ((q + 1) + 2) cgwh107, -1006 - 10 * (j : Int))]) ++ [(Value.slice avr 2 cvr, Value.slice agwh111 (2 + 2) cgwh111, 7 + 10 * (j : Int))]) ∧ w8.ownsRow wT.heap.size 3 1 (.slice (some ⟨gx, 0, none⟩) (q + 3) cx) (q + 3) ((spare l).map intV) ∧ Below wT.heap.size wT w8) := fun w8 hg8 => ⟨ASb.out.grown ARb.out hg8, owns_same XRb.out fun g e => hg8.block g (own_low XRb.out g e) fun e' => kinds_apart ARb.out XRb.out (by decide) g e e'.symm, hbb.out.grown hg8 (by simp; omega) (own_ge ARb.out)⟩
        clear hbal ASb hbb NS AR AS hb XR XRb
        go_wp2_with (at_builtin; refine wpList_append_lies (wh111.alloc (.cells #[.slice avr 2 cvr, .slice agwh111 (2 + 2) cgwh111, .int .i64 (7 + 10 * (j : Int))] 37)) rfl _ _ _ rfl wT.heap.size 37 i0 _ 3 56 Tryd.underlying31 hi0 hz0 hz1 hz3 rfl (by omega) _ (4 * j + 1 + 1 + 1) (rowH (((rs ++ [(Value.slice none 0 0, Value.slice agwh101 (0 + 2) cgwh101, -1000 - 10 * (j : Int))]) ++ [(Value.slice avv qv cvv, Value.slice agwh104 (qv + 2) cgwh104, -1003 - 10 * (j : Int))]) ++ [(Value.slice avl (q + 1) cvl, Value.slice agwh107 ((q + 1) + 2) cgwh107, -1006 - 10 * (j : Int))])) (by rfl) (by exact ARb.out) ⟨wh111.heap.size, 0, none⟩ 1 1 [.slice avr 2 cvr, .slice agwh111 (2 + 2) cgwh111, .int .i64 (7 + 10 * (j : Int))] (by rfl) (by rfl) (World.news_of_block (cs := #[.slice avr 2 cvr, .slice agwh111 (2 + 2) cgwh111, .int .i64 (7 + 10 * (j : Int))]) (t := 37) (fr := (0, 0)) (heap_alloc_new wh111 _)) (by simp [Value.oneCell']) (by omega) (by unfold maxLen; omega) (by omega) (by simp; omega) _ rfl ?_; intro gwp112 cpwp112 wp112 hown8 hgrow8 hat8 hlt8; have AR0 : Hid _ := hown8; have FIN : Hid _ := fin.out wp112 hgrow8; clear hown8 hgrow8 hat8 hlt8 fin ARb)
        have AR : Hid (wp112.ownsRow wT.heap.size 37 3 (.slice (some ⟨gwp112, 0, none⟩) (4 * j + 1 + 1 + 1 + 1) cpwp112) (4 * j + 1 + 1 + 1 + 1) (rowH ((((rs ++ [(Value.slice none 0 0, Value.slice agwh101 (0 + 2) cgwh101, -1000 - 10 * (j : Int))]) ++ [(Value.slice avv qv cvv, Value.slice agwh104 (qv + 2) cgwh104, -1003 - 10 * (j : Int))]) ++ [(Value.slice avl (q + 1) cvl, Value.slice agwh107 ((q + 1) + 2) cgwh107, -1006 - 10 * (j : Int))]) ++ [(Value.slice avr 2 cvr, Value.slice agwh111 (2 + 2) cgwh111, 7 + 10 * (j : Int))]))) := by show World.ownsRow _ _ _ _ _ _ _; rw [rowH_snoc]; exact AR0.out
        have AS : Hid (AllStand wT.heap.size wp112 ((((rs ++ [(Value.slice none 0 0, Value.slice agwh101 (0 + 2) cgwh101, -1000 - 10 * (j : Int))]) ++ [(Value.slice avv qv cvv, Value.slice agwh104 (qv + 2) cgwh104, -1003 - 10 * (j : Int))]) ++ [(Value.slice avl (q + 1) cvl, Value.slice agwh107 ((q + 1) + 2) cgwh107, -1006 - 10 * (j : Int))]) ++ [(Value.slice avr 2 cvr, Value.slice agwh111 (2 + 2) cgwh111, 7 + 10 * (j : Int))])) := FIN.out.1
        have hb : Hid (Below wT.heap.size wT wp112) := FIN.out.2.2
        have XR : Hid (wp112.ownsRow wT.heap.size 3 1 (.slice (some ⟨gx, 0, none⟩) (q + 3) cx) (q + 3) ((spare l).map intV)) := FIN.out.2.1
        clear FIN AR0 hs0
        clear ZB mm2 mm
        have RL2 : Hid (((((rs ++ [(Value.slice none 0 0, Value.slice agwh101 (0 + 2) cgwh101, -1000 - 10 * (j : Int))]) ++ [(Value.slice avv qv cvv, Value.slice agwh104 (qv + 2) cgwh104, -1003 - 10 * (j : Int))]) ++ [(Value.slice avl (q + 1) cvl, Value.slice agwh107 ((q + 1) + 2) cgwh107, -1006 - 10 * (j : Int))]) ++ [(Value.slice avr 2 cvr, Value.slice agwh111 (2 + 2) cgwh111, 7 + 10 * (j : Int))]).length = 4 * j + 4) := by show _ = _; simp [RL.out]
        obtain ⟨rt, hrt⟩ : ∃ zz, ((((rs ++ [(Value.slice none 0 0, Value.slice agwh101 (0 + 2) cgwh101, -1000 - 10 * (j : Int))]) ++ [(Value.slice avv qv cvv, Value.slice agwh104 (qv + 2) cgwh104, -1003 - 10 * (j : Int))]) ++ [(Value.slice avl (q + 1) cvl, Value.slice agwh107 ((q + 1) + 2) cgwh107, -1006 - 10 * (j : Int))]) ++ [(Value.slice avr 2 cvr, Value.slice agwh111 (2 + 2) cgwh111, 7 + 10 * (j : Int))]) = zz := ⟨_, rfl⟩
        rw [hrt] at RL2 AR AS
        clear hrt
        go_wp2_with fail
        go_loopw [18] (fun i wx => ∃ t : Nat, t ≤ 4 * j + 4 ∧ i = .int .i64 t ∧ Hid (Below wp112.heap.size wp112 wx)) (fun i _ => 4 * j + 4 - (intOf i).toNat)
        case atStart => exact ⟨0, Nat.zero_le _, rfl, Below.refl _ _⟩
        case round =>
          obtain ⟨t, ht, rfl, hbt⟩ := hrel
          by_cases hlt2 : t < 4 * j + 4
          · have n2 : (t : Int) < ((4 * j + 1 + 1 + 1 + 1 : Nat) : Int) := by omega
            obtain ⟨⟨L9, G9, m9⟩, hr9⟩ : ∃ r, rt[t]? = some r := ⟨rt[t]'(by rw [RL2.out]; exact hlt2), List.getElem?_eq_getElem _⟩
            obtain ⟨hm1, hm2, q9, hq9, hst9⟩ := AS.out _ (List.mem_of_getElem? hr9)
            have hst9 : Stands wT.heap.size wp112 L9 G9 q9 m9 := hst9
            have hm1 : -4000000000 ≤ m9 := hm1
            have hm2 : m9 ≤ 4000000000 := hm2
            obtain ⟨al9, cl9, rfl, _⟩ := own_shape hst9.1
            obtain ⟨ag9, cg9, rfl, _⟩ := own_shape hst9.2
            obtain ⟨r0, r1, r2⟩ := rowH_at rt t _ hr9
            have ARt := owns_under AR.out hbt.out
            have d0 : wr.cell? ⟨gwp112, t * 3, none⟩ = some (.slice al9 q9 cl9) := row_cells ARt _ _ r0
            have d1 : wr.cell? ⟨gwp112, t * 3 + 1, none⟩ = some (.slice ag9 (q9 + 2) cg9) := row_cells ARt _ _ r1
            have d2 : wr.cell? ⟨gwp112, t * 3 + 2, none⟩ = some (.int .i64 m9) := row_cells ARt _ _ r2
            have SC : Hid _ := stands_any wr (.slice al9 q9 cl9) (.slice ag9 (q9 + 2) cg9) q9 m9 wT.heap.size (by omega) (by omega) (by omega) (hst9.under hbt.out)
            clear hr9 hst9 r0 r1 r2 ARt
            go_wp2_with fail
            refine Calls.mono SC.out ?_
            rintro e w9 ⟨rfl, hb9⟩
            have HB9 : Hid (Below wp112.heap.size wp112 w9) := hbt.out.trans (hb9.mono hbt.out.size)
            clear SC hb9
            go_wp2
            exact ⟨⟨t + 1, by omega, by go_num, HB9.out⟩, by simp [intOf]; omega⟩
          · have n2 : ¬ (t : Int) < ((4 * j + 1 + 1 + 1 + 1 : Nat) : Int) := by omega
            have hb9 : Hid (Below wT.heap.size wT wr) := hb.out.trans (hbt.out.mono hb.out.size)
            have AR9 : Hid (wr.ownsRow wT.heap.size 37 3 (.slice (some ⟨gwp112, 0, none⟩) (4 * j + 1 + 1 + 1 + 1) cpwp112) (4 * j + 1 + 1 + 1 + 1) (rowH rt)) := owns_under AR.out hbt.out
            have AS9 : Hid (AllStand wT.heap.size wr rt) := AS.out.under hbt.out
            go_wp2
            exact ⟨⟨j + 1, _, _, rt, by omega, by go_num, rfl, by show _ = _; rw [RL2.out]; omega, AR9.out, AS9.out, hb9.out⟩, by simp [intOf]; omega⟩
    · have n1 : ¬ (j : Int) < (np : Int) := by omega
      have BE : Hid (Below w.heap.size w wr) := by
        have h1 := HBA.out
        rw [← HB0.out] at h1
        have h2 := HWT.out.trans (hb.out.mono HWT.out.size)
        exact h1.trans (h2.mono h1.size)
      go_wp2
      go_ret
      exact ⟨rfl, BE.out⟩
end Go.Proofs.YtmgpnaehniohgaaDoor.E
