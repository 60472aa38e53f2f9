/- The same with the closure of Frame. -/
import Derived.Test.YtkejjiilcoacfaaGreatFrT
namespace Go.Proofs.YtkejjiilcoacfaaGreat
open Go.Maps Go.RowKit Go.WideMaps

set_option maxRecDepth 100000 in
set_option maxHeartbeats 8000000 in
theorem tell52_any (w : World) (MB : Nat) (F : Bool → Int → Bool) (O : Nat → Prop) (T N : Nat) (x : ScC) (v : Value) (ts : List HyC) (hx : ScOk O w x) (hc : w.cell? ⟨T, 0, none⟩ = some x.vl) (hN : N ≤ w.heap.size) (hO : ∀ g, O g → g < N) (ht : ToldH N w v ts) (hn : ts.length + x.hs.length ≤ 1048576) (hlen : ∀ y ∈ x.hs, y.h.ex.length ≤ 17592186044416)
    (hF : ∀ W, Below N w W → ∀ (lab : ByteArray) (fl : Bool) (var : Int) (a : Option Addr) (n c : Nat), Calls Tryz.prog 52 #[.agg #[.string lab, .bool fl, .int .i64 var, .slice a n c], .pointer (some ⟨MB, 0, none⟩)] W fun e W' => e = .returned (.bool (F fl var)) ∧ Below W.heap.size W W') :
    Calls Tryz.prog 80 #[.pointer (some ⟨T, 0, none⟩), v, .func (.func 52) #[] #[.pointer (some ⟨MB, 0, none⟩)]] w fun e w' => Below N w w' ∧ ∃ v' ts', e = .returned v' ∧ ToldH N w' v' ts' ∧ ts'.map (·.h) = ts.map (·.h) ++ wantF F x.hs := by
  obtain ⟨iH, hiH, iHz, iHs, iHb⟩ := info_parts infoHy
  have hl := hx.l
  obtain ⟨al, cl, el, _⟩ := own_shape hl
  rw [el] at hc hl
  obtain ⟨nh, hnh⟩ : ∃ nh, x.hs.length = nh := ⟨_, rfl⟩
  rw [hnh] at hc hl hn
  have HL : Hid (w.ownsRow 0 61 4 (.slice al nh cl) nh (rowHy x.hs) ∧ ∀ g, (Value.slice al nh cl).ownBlock = some g → g < N) := ⟨hl, fun g e => hO g (hx.lo g (by rw [el, hnh]; exact e))⟩
  have HE : Hid (∀ y ∈ x.hs, w.ownsRow 0 3 1 y.ve y.h.ex.length (rowN y.h.ex) ∧ y.h.ex.length ≤ 17592186044416 ∧ ∀ g, y.ve.ownBlock = some g → g < N) := fun y hy => ⟨(hx.e y hy).1, hlen y hy, fun g e => hO g ((hx.e y hy).2 g e)⟩
  have HH : Hid (x.hs.length = nh) := hnh
  have HF : Hid _ := hF
  have HT : Hid (ToldH N w v ts) := ht
  have HN : Hid (N ≤ w.heap.size) := hN
  have HM : Hid (ts.length + nh ≤ 1048576) := hn
  have hnb : nh ≤ 1048576 := Nat.le_trans (Nat.le_add_left _ _) hn
  clear hl hnh hF ht hN hx hO hlen el hn
  go_enter Tryz.func80, Tryz.ntmps80
  go_wp2_with fail
  go_loopw [1, 14] (fun v1 v14 wx => ∃ (j : Nat) (us : List HyC), j ≤ nh ∧ v14 = .int .i64 j ∧ Hid (ToldH N wx v1 us) ∧ Hid (us.map (·.h) = ts.map (·.h) ++ wantF F (x.hs.take j) ∧ us.length ≤ ts.length + j) ∧ Hid (Below N w wx)) (fun _ v14 _ => nh - (intOf v14).toNat)
  case atStart => exact ⟨0, ts, Nat.zero_le _, rfl, HT.out, ⟨by simp [wantF], Nat.le_refl _⟩, Below.refl _ _⟩
  case round =>
    obtain ⟨j, us, hj, rfl, hU, hS, hB⟩ := hrel
    by_cases hlt : j < nh
    · have n1 : (j : Int) < (nh : Int) := by omega
      obtain ⟨y, hy⟩ : ∃ y, x.hs[j]? = some y := ⟨_, List.getElem?_eq_getElem (by rw [HH.out]; exact hlt)⟩
      have hrow : wr.ownsRow 0 61 4 (.slice al nh cl) nh (rowHy x.hs) := M.owns_ch HL.out.1 (ch_under hB.out) fun g e h => by have := HL.out.2 g e; omega
      obtain ⟨g, c', e, _, _, _⟩ := M.own_some hrow (by omega)
      cases e
      obtain ⟨y0, y1, y2, y3⟩ := row_hy hrow j y hy
      obtain ⟨he1, he2, he3⟩ := HE.out y (List.mem_of_getElem? hy)
      have her : wr.ownsRow 0 3 1 y.ve y.h.ex.length (rowN y.h.ex) := M.owns_ch he1 (ch_under hB.out) fun g e h => by have := he3 g e; omega
      obtain ⟨ae, ce, ee, _, hns⟩ := own_ns her
      obtain ⟨ne, hne⟩ : ∃ ne, y.h.ex.length = ne := ⟨_, rfl⟩
      rw [ee, hne] at y3
      have WT := wantF_take (F := F) hy
      obtain ⟨⟨lab, fl, var, ex⟩, ve⟩ := y
      dsimp only at *
      obtain ⟨wa, hwa⟩ : ∃ wa, wa = wr.alloc (.cells #[.string lab, .bool fl, .int .i64 var, .slice ae ne ce] 61) := ⟨_, rfl⟩
      have HWA : Hid (wa = wr.alloc (.cells #[.string lab, .bool fl, .int .i64 var, .slice ae ne ce] 61)) := hwa
      have ba : Below wr.heap.size wr wa := by rw [hwa]; exact fr_below_alloc _ _
      have hNr : N ≤ wr.heap.size := Nat.le_trans HN.out hB.out.size
      obtain ⟨Bx, hBx⟩ : ∃ Bx, wr.heap.size = Bx := ⟨_, rfl⟩
      have ka : wa.heap[Bx]? = some (.cells #[.string lab, .bool fl, .int .i64 var, .slice ae ne ce] 61 (0, 0)) := by rw [hwa, ← hBx]; exact heap_alloc_new wr _
      have z0 : wa.cell? ⟨Bx, 0, none⟩ = some (.string lab) := M.cell_whole ka 0
      have z1 : wa.cell? ⟨Bx, 1, none⟩ = some (.bool fl) := M.cell_whole ka 1
      have z2 : wa.cell? ⟨Bx, 2, none⟩ = some (.int .i64 var) := M.cell_whole ka 2
      have z3 : wa.cell? ⟨Bx, 3, none⟩ = some (.slice ae ne ce) := M.cell_whole ka 3
      have BA : Hid (Below N w wa) := hB.out.trans (ba.mono hNr)
      have CF : Hid _ := HF.out wa BA.out lab fl var ae ne ce
      have KA : Hid (wa.heap[Bx]? = some (.cells #[.string lab, .bool fl, .int .i64 var, .slice ae ne ce] 61 (0, 0)) ∧ Bx < wa.heap.size) := ⟨ka, (Array.getElem?_eq_some_iff.1 ka).1⟩
      have HB : Hid (wr.heap.size = Bx) := hBx
      have BR : Hid (Below Bx wr wa) := by rw [← hBx]; exact ba
      have HNS : Hid (NsAt wa ae ex ∧ ex.length = ne ∧ ne ≤ 17592186044416) := ⟨hns.under ba, hne, by rw [← hne]; exact he2⟩
      have HWT : Hid (wantF F (x.hs.take (j + 1)) = wantF F (x.hs.take j) ++ if F fl var = true then [⟨lab, fl, var, ex⟩] else []) := WT
      have HNr : Hid (N ≤ Bx) := by rw [← hBx]; exact hNr
      clear hrow her hns ee hne WT hwa ba hNr ka he1 he2 he3 hy hBx
      go_upto_region 4 with fail
      rw [← HWA.out, HB.out]
      clear HWA y0 y1 y2 y3
      cases hFv : F fl var with
      | false =>
        rw [hFv] at CF HWT
        go_wp2_with fail
        refine Calls.mono CF.out ?_
        rintro e w2 ⟨rfl, hb2⟩
        have U2 : Hid (ToldH N w2 u1 us) := (hU.out.below (by rw [HB.out]; exact BR.out)).below hb2
        have B2 : Hid (Below N w w2) := BA.out.trans (hb2.mono (Nat.le_trans HNr.out (Nat.le_of_lt KA.out.2)))
        have S2 : Hid (us.map (·.h) = ts.map (·.h) ++ wantF F (x.hs.take (j + 1)) ∧ us.length ≤ ts.length + (j + 1)) := ⟨by rw [hS.out.1, HWT.out]; simp, by have := hS.out.2; omega⟩
        clear hb2 hU hS hFv HWT
        go_wp2
        exact ⟨⟨j + 1, us, by omega, by go_num, U2.out, S2.out, B2.out⟩, by simp [intOf]; omega⟩
      | true =>
        rw [hFv] at CF HWT
        go_wp2_with fail
        refine Calls.mono CF.out ?_
        rintro e w2 ⟨rfl, hb2⟩
        have k2 : w2.heap[Bx]? = some (.cells #[.string lab, .bool fl, .int .i64 var, .slice ae ne ce] 61 (0, 0)) := (hb2.block Bx KA.out.2).trans KA.out.1
        have q3 : w2.cell? ⟨Bx, 3, none⟩ = some (.slice ae ne ce) := M.cell_whole k2 3
        have B2 : Hid (Below Bx wr w2) := BR.out.trans (hb2.mono (Nat.le_of_lt KA.out.2))
        have CL : Hid _ := clone_any w2 ae ne ce ex HNS.out.2.1 HNS.out.2.2 (HNS.out.1.under hb2)
        have K2 : Hid (w2.heap[Bx]? = some (.cells #[.string lab, .bool fl, .int .i64 var, .slice ae ne ce] 61 (0, 0)) ∧ Bx < w2.heap.size) := ⟨k2, (Array.getElem?_eq_some_iff.1 k2).1⟩
        clear hb2 k2 z0 z1 z2 z3 CF KA BR
        go_wp2_with fail
        refine Calls.mono CL.out ?_
        rintro e w3 ⟨v', rfl, hv', hb3⟩
        obtain ⟨a3, c3, rfl, _⟩ := own_shape hv'
        have k3 : w3.heap[Bx]? = some (.cells #[.string lab, .bool fl, .int .i64 var, .slice ae ne ce] 61 (0, 0)) := (hb3.block Bx K2.out.2).trans K2.out.1
        have p3 : w3.cell? ⟨Bx, 3, none⟩ = some (.slice ae ne ce) := M.cell_whole k3 3
        have f3 : w3.frozen? ⟨Bx, 3, none⟩ = false := by simp [World.frozen?, k3]
        obtain ⟨w4, hw4⟩ : ∃ w4, w4 = w3.setCell ⟨Bx, 3, none⟩ (.slice a3 ne c3) := ⟨_, rfl⟩
        have HW4 : Hid (w4 = w3.setCell ⟨Bx, 3, none⟩ (.slice a3 ne c3)) := hw4
        have ch4 : M.Ch (fun b => b = Bx) w3 w4 := by rw [hw4]; exact M.ch_set w3 Bx 3 _
        have K4 : Hid (w4.heap[Bx]? = some (.cells #[.string lab, .bool fl, .int .i64 var, .slice a3 ne c3] 61 (0, 0))) := by show _ = _; rw [hw4]; exact M.heap_set_same k3
        have hB3 : Below Bx wr w3 := B2.out.trans (hb3.mono (Nat.le_of_lt K2.out.2))
        have B4 : Hid (Below Bx wr w4) := hB3.trans (ch4.below (by have h1 := hB3.size; have h2 := HB.out; omega) fun b e => by omega)
        have V4 : Hid (w4.ownsRow Bx 3 1 (.slice a3 ne c3) ne (rowN ex)) := M.owns_mono (M.owns_ch hv' ch4 fun b hb e => own_ne hv' k3 (by decide) (by rw [hb, e])) (Nat.le_of_lt K2.out.2)
        clear hv' hb3 k3 hw4 ch4 hB3 CL q3 B2
        go_upto_region 6 with fail
        rw [← HW4.out]
        clear HW4 p3 f3
        have q0 : w4.cell? ⟨Bx, 0, none⟩ = some (.string lab) := M.cell_whole K4.out 0
        have q1 : w4.cell? ⟨Bx, 1, none⟩ = some (.bool fl) := M.cell_whole K4.out 1
        have q2 : w4.cell? ⟨Bx, 2, none⟩ = some (.int .i64 var) := M.cell_whole K4.out 2
        have q3 : w4.cell? ⟨Bx, 3, none⟩ = some (.slice a3 ne c3) := M.cell_whole K4.out 3
        have hul : us.length ≤ 1048575 := by have h1 := hS.out.2; have h2 := HM.out; omega
        obtain ⟨ku, hku⟩ : ∃ ku, us.length = ku := ⟨_, rfl⟩
        rw [hku] at hul
        have HKU : Hid (us.length = ku) := hku
        have U4 : Hid (ToldH N w4 u1 us) := hU.out.below (by rw [HB.out]; exact B4.out)
        have O4 : Hid (w4.ownsRow N 61 4 u1 ku (rowHy us)) := by have h := U4.out.own; rw [HKU.out] at h; exact h
        have HN4 : Hid (N ≤ w4.heap.size) := Nat.le_trans HNr.out (Nat.le_of_lt (Array.getElem?_eq_some_iff.1 K4.out).1)
        clear hku
        go_wp2_with (at_builtin; refine wpList_append_lies (w := w4.alloc (.cells #[.string lab, .bool fl, .int .i64 var, .slice a3 ne c3] 61)) rfl _ _ 34 rfl N 61 iH _ 4 56 Tryz.underlying34 hiH iHz iHs iHb rfl (by decide) _ ku (rowHy us) (by rfl) (M.owns_alloc O4.out _) ⟨w4.heap.size, 0, none⟩ 1 1 [.string lab, .bool fl, .int .i64 var, .slice a3 ne c3] (by rfl) (by rfl) (World.news_of_block (cs := #[.string lab, .bool fl, .int .i64 var, .slice a3 ne c3]) (t := 61) (fr := (0, 0)) (heap_alloc_new w4 _)) (by simp [Value.oneCell']) (by omega) (by unfold maxLen; omega) (by omega) (Nat.le_trans HN4.out (fr_below_alloc w4 _).size) _ rfl ?_; intro gg cap' w8 hown8 hgrow hat hlt8; have O8 : Hid (w8.ownsRow N 61 4 (.slice (some ⟨gg, 0, none⟩) (ku + 1) cap') (ku + 1) (rowHy us ++ [.string lab, .bool fl, .int .i64 var, .slice a3 ne c3])) := hown8; have C8 : Hid (M.Ch (fun b => Value.ownBlock u1 = some b) w4 w8) := ((M.Ch.of_below (fr_below_alloc w4 _)).trans (M.Ch.of_grown hgrow)); clear hown8 hgrow hat hlt8)
        have hT8 : Hid (ToldH N w8 (.slice (some ⟨gg, 0, none⟩) (ku + 1) cap') (us ++ [⟨⟨lab, fl, var, ex⟩, .slice a3 ne c3⟩])) := by
          show ToldH _ _ _ _
          refine ⟨?_, fun z hz => ?_, List.pairwise_append.2 ⟨hU.out.ap, by simp, fun z hz z' hz' => ?_⟩⟩
          · rw [List.length_append, HKU.out, rowHy_append]; exact O8.out
          · rcases List.mem_append.1 hz with hz | hz
            · have h1 := U4.out.e z hz
              exact M.owns_ch h1 C8.out fun b hb e => own_apart h1 U4.out.own (by decide) b hb e
            · rw [List.mem_singleton.1 hz]
              show w8.ownsRow N 3 1 (.slice a3 ne c3) ex.length (rowN ex)
              rw [HNS.out.2.1]
              exact M.owns_mono (M.owns_ch V4.out C8.out fun b hb e => own_apart V4.out U4.out.own (by decide) b hb e) HNr.out
          · rw [List.mem_singleton.1 hz']
            intro b hb e
            have h1 := M.own_lt (hU.out.e z hz) b hb
            have h2 := M.own_ge' V4.out b e
            have h3 := HB.out
            omega
        have hB8 : Below N w w8 := hB.out.trans ((B4.out.mono HNr.out).trans (C8.out.below HN4.out fun b e => M.own_ge' U4.out.own b e))
        exact ⟨⟨j + 1, us ++ [HyC.mk (Hy.mk lab fl var ex) (Value.slice a3 ne c3)], by omega, by go_num, hT8.out, ⟨by rw [List.map_append, hS.out.1, HWT.out]; simp, by rw [List.length_append]; have := hS.out.2; simp; omega⟩, hB8⟩, by simp [intOf]; omega⟩
    · have n1 : ¬ (j : Int) < (nh : Int) := by omega
      have hall : x.hs.take j = x.hs := List.take_of_length_le (by rw [HH.out]; omega)
      have HS2 : Hid (us.map (·.h) = ts.map (·.h) ++ wantF F x.hs) := by have h := hS.out.1; rw [hall] at h; exact h
      clear hall hS
      go_wp2
      go_ret
      exact ⟨hB.out, _, rfl, us, hU.out, HS2.out⟩
end Go.Proofs.YtkejjiilcoacfaaGreat
